import PyProof.Rows.All
import Wide.All
import OpenK.AllK
import Wide.FinOn
import HandS.ForMost
import HandS.Wide
import HandS.WideBits
import HandS.IsInst
import HandS.Defaults
import HandS.Star
import HandS.Evl
import HandS.NoneIn
import HandS.Style
import HandS.SlotsOwn
import HandS.MakeKwOnly
import HandS.ForExc
import HandS.ExcInit
import HandS.MapJoin
import HandS.NestedK
import HandS.Lambda
import HandS.EndTab
import HandS.TryMany
import HandS.HotCalls
import HandS.ExcField
import HandS.ClsMeth
import KE.KExcSuper
import KE.KExcIs
import KE.KOpsOwn
import KE.KNestM
import HandS.Property
import KE.DataEq
import HandS.Deep
import HandS.TupAny
import HandS.Zip
import HandS.Dict
import HandS.More
import HandS.FStr
import HandS.Text
import HandS.RaiseMore
import HandS.DictComp
import HandS.DictTup
import HandS.Conv
import HandS.Comp
import KE.KDictKeyed
import KE.KeyNested
import KE.SortData
import KE.KDictItemsList
import KE.GoesMore
import PySem.Challenge.RW_grainyard_k24_recipes_as_lists
set_option Elab.async false
set_option linter.all false
set_option maxRecDepth 100000
set_option maxHeartbeats 4000000
namespace Gy
open PySem PySem.Spec PyProof.Rows L2
/-! ### an error's fields, wherever its object is pinned -/
section
variable {X : Cx} {a : Addr} {oe : Obj} {cls : Value} {d : Option Addr} {e : Expr} {te : TE} {pos : Pos} {n : Str}
/-- a.f of the error at a whose class is cls and whose dict stands at d -/
def tXfA (K : PySem.W.Frag) (a : Addr) (cls : Value) (d : Option Addr) (f : Str) (te : TE) : TE := fun σ H Q => te σ H fun x H1 => x = .ref a ∧
  ∃ (C dd : Addr) (fs : List (Str × V)) (v : V), cls = .ref C ∧ d = some dd ∧ XfC K C ∧ PySem.W.findIn K (.ref C) f = some none ∧ H1 dd = some (.xd fs) ∧ fs.lookup f = some v ∧ Q v H1
theorem pe_xfG (hp : (a, oe) ∈ X.pn) (hz : Zc cls d oe) (hf : ∃ vs, oe.data = .fields vs) (he : PE X e te) (hb : attributeBase e n X.env (eval e X.env) = eval e X.env := by rfl) : PE X (.Attribute e n pos) (tXfA X.K a cls d n te) := by
  constructor
  intro pins s σ H Q I h
  apply attr_of hb
  refine thn (he.run pins s σ H _ I h) ?_
  rintro u s1 ⟨x, H1, I1, rx, rfl, C, dd, fs, v, rfl, rfl, XC, no, hd, hl, q⟩
  cases (show u = Value.ref a from rx)
  have at_a := (I1.pin (a, oe) (List.mem_append_left _ hp)).1
  obtain ⟨ws, dat⟩ := hf
  obtain ⟨mA, nsA, rel⟩ := (show ObjOk X.prog X.w H1 s1.heap dd (.xd fs) from I1.hok dd _ hd)
  obtain ⟨od, at_d, look⟩ := lookIn_ns nsA
  have rn := rel n
  rw [hl] at rn
  obtain ⟨u', hu', ru'⟩ := RelO.some_of rn
  have inst : PySem.W.InstAt s1.heap a oe C (some od) := by
    refine ⟨at_a, hz.1, ?_, ?_⟩
    · unfold PySem.W.notCls
      rw [dat] <;> rfl
    · rw [hz.2]
      exact at_d
  have found : PySem.W.lookIn n od = some (some u') := by rw [look, hu']
  exact HandSPX.exc_get I1.kIn inst XC.ga XC.gg XC.exC (PySem.W.findObj_own XC.hdC no rfl found) (handed_of ru') ⟨v, H1, I1.tok _, ru', q⟩
end
/-! ### try: .. except x as n: .., several clauses, one of which takes -/
/-- behind a suite its name is gone -/
def Dn (D : Ends) (i : Nat) : Ends := { nx := fun σ H => D.nx (σ.set i none) H, rt := D.rt, bk := fun σ H => D.bk (σ.set i none) H, ct := fun σ H => D.ct (σ.set i none) H }
def wAll (K : PySem.W.Frag) (D : Ends) (i : Nat) : List (Value × (Addr → Value → Option Addr → TS)) → WX
  | [] => fun _ _ _ _ => False
  | (c, ts) :: r => fun cls d σ H => ∃ b, PySem.W.exmOne K cls c = some b ∧ (b = true → ∀ a, H a = none → i < σ.length → ts a cls d (Dn D i) (σ.set i (some (.ref a))) H) ∧ (b = false → wAll K D i r cls d σ H)
inductive AsOk (X : Cx) (n : Str) : List ExceptHandler → List (Value × (Addr → Value → Option Addr → TS)) → Prop
  | nil : AsOk X n [] []
  | cons {x : Str} {c : Value} {ts : Addr → Value → Option Addr → TS} {b0 : Stmt} {su : List Stmt} {np p' : Pos} {hds : List ExceptHandler} {l : List (Value × (Addr → Value → Option Addr → TS))} (nm : Names X x c)
      (ok : ∀ (a : Addr) (oe : Obj) (cls : Value) (d : Option Addr) (pn : List (Addr × Obj)), Zc cls d oe → (∃ vs, oe.data = .fields vs) → PSs (X.suite a ((a, oe) :: pn)) (b0 :: su) (ts a cls d)) (r : AsOk X n hds l) :
      AsOk X n (.ExceptHandler (some (.Name x np)) (some n) (b0 :: su) p' :: hds) ((c, ts) :: l)
theorem not_frame {B h : Heap} {l : List Env} {a : Addr} {o : Obj} {vs : Array Value} (F : h.FunFrames B l) (at_a : h.get? a = some o) (dat : o.data = .fields vs) : a ∉ frs l := by
  intro m
  obtain ⟨_, o2, at2, nf⟩ := F.mem m
  cases at_a.symm.trans at2
  exact nf _ dat
section
variable {X : Cx} {n : Str} {i : Nat} {body : List Stmt} {h0 : ExceptHandler} {hds : List ExceptHandler} {l : List (Value × (Addr → Value → Option Addr → TS))} {pos : Pos} {tb : WX → TS}
theorem ps_tryAs (hs : X.stack = X.env :: X.outer) (hf : X.env.frame = some X.env.locals) (hN : X.N.Nodup) (hi : X.N[i]? = some n) (hln : X.env.kindOf n = some .local)
    (hb : ∀ (W : WX) (pn : List (Addr × Obj)) (xe : Value → Shared → Prop), Takes (X.tr pn xe) W → PassesOwn (model X.prog X.w) X.A X.env xe → PSs (X.tr pn xe) body (tb W))
    (hh : AsOk X n (h0 :: hds) l) : PS X (.Try body (h0 :: hds) [] [] pos) (fun D σ H => tb (wAll X.K D i l) D σ H) := by
  constructor
  intro pins s σ H D I h
  have ok := I.ok
  have frs_ : X.A.frames = some (X.env :: X.outer) := hs ▸ ok.frames
  have run := hb (wAll X.K D i l) (X.pn ++ pins) (fun e t1 => wpAny (model X.prog X.w) X.A (noteFrame e X.env) (fun _ t2 => wpAny (model X.prog X.w) X.A (setFlight e none) (fun _ t3 =>
    wpAny (model X.prog X.w) X.A (handleBy e X.env (h0 :: hds)) (SP X pins D) X.xe t3) X.xe t2) X.xe t1) ?air PassesOwn.looking
  case air =>
    rintro u t ⟨a, B, t0, pins0, σ1, H1, cls, d, rfl, I0, gr, up, sky, na, hos, bare, wish⟩
    have I1 : Inv X pins σ1 H1 t0 := I0.ofTry ok
    rw [show (X.tr (X.pn ++ pins) _).stack = X.env :: X.outer from hs] at sky
    show wpAny (model X.prog X.w) X.A (noteFrame (.ref a) X.env) _ _ _
    apply Sky.land Zc.steady frs_ hf sky
    intro g fly upg
    have Ig : Inv X pins σ1 H1 { t with heap := g } := I1.landed gr fly.1 (up.trans upg) hos bare
    obtain ⟨og, vg, at_g, zg, dg⟩ := fly.there
    have away := not_frame fly.2.2.1 at_g dg
    have awL : a ≠ X.env.locals := by
      intro z
      exact away (List.mem_filterMap.mpr ⟨X.env, List.mem_cons_self, by rw [hf, z]⟩)
    have awF : a ∉ X.fs := by
      intro m
      obtain ⟨en, men, q⟩ := List.mem_filterMap.mp m
      exact away (List.mem_filterMap.mpr ⟨en, List.mem_cons_of_mem _ men, q⟩)
    have Sg := Ig.suite at_g dg na awL awF
    have types : PySem.W.Looks (model X.prog X.w) g (typeOf (.ref a)) cls := by
      intro A' Q' E' t' k q
      apply wpAny_typeOf_ref (k _ _ at_g)
      rw [zg.1]
      exact q
    clear h
    have inside : i < σ1.length := by
      rw [I1.len]
      exact (List.getElem?_eq_some_iff.mp hi).1
    have clauses : ∀ {hs' : List ExceptHandler} {l' : List (Value × (Addr → Value → Option Addr → TS))}, AsOk X n hs' l' → wAll X.K D i l' cls d σ1 H1 → wpAny (model X.prog X.w) X.A (handleBy (.ref a) X.env hs') (SP X pins D) X.xe { t with heap := g } := by
      intro hs' l' A
      induction A with
      | nil => exact fun z => z.elim
      | @cons x c ts b0 su np p' hs2 l2 nm okS rest ih =>
        rintro ⟨b, mt, yes, no⟩
        refine wpAny_handleBy_cons (codeAny_handlers_test ?_) (by intro z; cases z)
        have meets := PySem.W.exm_one (M := model X.prog X.w) Ig.kIn types mt
        have name_ : ∀ {Q' : Value → Shared → Prop} {E' : Value → Shared → Prop}, Q' c { t with heap := g } → wpAny (model X.prog X.w) (X.A.mark (some (.ref a))) (eval (.Name x np) X.env) Q' E' { t with heap := g } := by
          intro Q' E' q
          rcases nm with ⟨gl, ndb, hm | ⟨hm, hv, nn⟩⟩
          · exact ld_glob (X := X.suite a ((a, og) :: (X.pn ++ pins))) Sg gl hm q ndb
          · exact ld_blt (X := X.suite a ((a, og) :: (X.pn ++ pins))) Sg gl hm hv q nn ndb
        apply name_
        apply meets.here
        cases b with
        | false => exact ih (no rfl)
        | true =>
          apply codeAny_handlers_suite_as
          apply HandSPX.lands_againZ fly
          intro k flk upk
          have Ik : Inv X pins σ1 H1 { t with heap := k } := I1.landed gr flk.1 ((up.trans upg).trans upk) hos bare
          obtain ⟨ok_, vk, at_k, zk, dk⟩ := flk.there
          have Sk := Ik.suite at_k dk na awL awF
          apply store_ok (X := X.suite a ((a, ok_) :: (X.pn ++ pins))) (v := .ref a) Sk hN hi (.inl hln) rfl _ (.inr hln)
          intro t5 S5
          have suite := (okS a ok_ cls d (X.pn ++ pins) zk ⟨_, dk⟩).run [] t5 _ H1 _ S5 (yes rfl a na inside)
          refine wpAny_mono suite (fun f t6 out => ?_) (fun _ _ z => z.elim)
          have away_ : ∀ {σ6 : L2.St} {H6 : Hp} {Q' : Shared → Prop}, Inv (X.suite a ((a, ok_) :: (X.pn ++ pins))) [] σ6 H6 t6 → (∀ t7, Inv X pins (σ6.set i none) H6 t7 → Q' t7) →
              wpAny (model X.prog X.w) X.A (do bindName X.env n .none; unbindBehindTheSuite X.env n p') (fun _ t7 => Q' t7) X.xe t6 := by
            intro σ6 H6 Q' S6 q
            exact gone_ok (S6.unsuite ok) hN hi hln q
          cases f with
          | next => obtain ⟨_, _, S6, q6⟩ := out; exact away_ S6 fun _ I7 => ⟨_, _, I7, q6⟩
          | brk => obtain ⟨_, _, S6, q6⟩ := out; exact away_ S6 fun _ I7 => ⟨_, _, I7, q6⟩
          | cont => obtain ⟨_, _, S6, q6⟩ := out; exact away_ S6 fun _ I7 => ⟨_, _, I7, q6⟩
          | ret u => obtain ⟨_, _, _, S6, r6, q6⟩ := out; exact away_ S6 fun _ I7 => ⟨_, _, _, I7, r6, q6⟩
    exact clauses hh wish
  apply wpAny_Try_except
  refine wpAny_mono (run.run [] s σ H D (I.toTry _) h) (fun f t1 out => ?_) (fun _ _ z => z)
  cases f with
  | next => obtain ⟨_, _, I1, q⟩ := out; exact wpAny_execs_nil ⟨_, _, I1.ofTry ok, q⟩
  | brk => obtain ⟨_, _, I1, q⟩ := out; exact ⟨_, _, I1.ofTry ok, q⟩
  | cont => obtain ⟨_, _, I1, q⟩ := out; exact ⟨_, _, I1.ofTry ok, q⟩
  | ret u => obtain ⟨_, _, _, I1, r, q⟩ := out; exact ⟨_, _, _, I1.ofTry ok, r, q⟩
end
/-! ### a def that is called while an error is handled: it raises nothing -/
structure FnP (P : Program) (w : World) (K : PySem.W.Frag) (mg : Str → Option Value) (base : Heap) (k : Nat) (f : Addr) (fd : FuncData) (ps : List Str) (sp : Addr → Value → Option Addr → Sp) : Prop where
  len : ∀ a cls d vs H Q E, sp a cls d vs H Q E → vs.length = ps.length
  run : ∀ (A : Around) (outer : List Env) (s : Shared) (H : Hp) (args : Args) (us : List Value) (vs : List V) (Q : VK) (E : XK) (p : Addr × Obj) (cls : Value) (d : Option Addr), L2H.RoomH k A → L2H.PinOk outer H s p → Zc cls d p.2 → (∃ vs, p.2.data = .fields vs) →
    Env0 P w K mg base A outer s H → BindsTo s fd args (ps.zip us) → Vals vs us → sp p.1 cls d vs H Q E → codeAny (model P w) A (.call (.ref f) args) (CR CX0 outer P w H s Q E) s
theorem fn_ofP {P : Program} {w : World} {K : PySem.W.Frag} {mg : Str → Option Value} {base : Heap} {k : Nat} {f : Addr} {x qual : Str} {st : Stmt} {fd : FuncData} {N ps : List Str} {sp : Addr → Value → Option Addr → Sp} (F : Fun K x qual st f fd) (S : FnScope N ps (defScope st))
    (len : ∀ a cls d vs H Q E, sp a cls d vs H Q E → vs.length = ps.length)
    (body : ∀ (cdv : Value) (A : Around) (outer : List Env) (s : Shared) (H : Hp) (vs : List V) (Q : VK) (E : XK) (p : Addr × Obj) (cls : Value) (d : Option Addr), Zc cls d p.2 → (∃ vs, p.2.data = .fields vs) → L2H.RoomH k (A.deeper (envOfC qual (defScope st) s.heap.objs.size f cdv)) → sp p.1 cls d vs H Q E →
      ∃ t, PSs (L2H.cxH CX0 P w K mg base N qual (defScope st) f cdv A outer s H E p) (defBody st) t ∧ t { nx := fun _ H' => Q .non H', rt := Q } (L2.start N vs) H) : FnP P w K mg base (k + 1) f fd ps sp := by
  obtain ⟨oc, od, kV, doc, pm, an, cdv, ct, osl, rfl, lk, hcd⟩ := F.ex
  constructor
  · exact len
  intro A outer s H args us vs Q E p cls d room pin zc dat e0 bd rv hsp
  have inK : K.In s.heap := e0.mod.kin.keeps fun b o z => (e0.bs b o z).1
  have free_ : s.heap.NoLimit := e0.mod.nolimit.keeps fun b o z => (e0.bs b o z).1
  have kinds : ∀ y ∈ ps.zip us, (defScope st).names.lookup y.1 = some .local ∨ ((defScope st).names.lookup y.1 = some .cell ∧ ((cellsFrom (s.heap.objs.size + 1) (defScope st).names []).lookup y.1).isSome = true) := by
    rintro ⟨y, v⟩ hy
    rcases S.par y (List.of_mem_zip hy).1 with z | z
    · exact .inl z
    · exact .inr ⟨z, PySem.W.cellsFrom_some _ _ _ (.inl z)⟩
  apply codeAny_call_function room.depth (inK _ _ lk) rfl S.co S.gen rfl (PySem.W.codeRec_of inK hcd)
  apply bd
  apply wpAny_newFunctionEnv_cells S.kind kinds
  rintro env rfl s1 inside
  refine ⟨free_.keeps inside.toInCall.keep, codeAny_func ?_⟩
  obtain ⟨t, term, reading⟩ := body cdv A outer s H vs Q E p cls d zc dat (room.deeper _) hsp
  have I := L2H.inv_startH (CX := CX0) (E := E) S pin e0 (len _ _ _ _ _ _ _ hsp) rv inside
  refine wpAny_mono (term.run [] s1 (L2.start N vs) H _ I reading) (fun fl s' out => ?_) fun _ _ z => z
  cases fl with
  | ret u => obtain ⟨v, _, H', J, r, q⟩ := out; exact ⟨v, H', J.os, J.bare, J.base, J.hok, r, q⟩
  | next => obtain ⟨_, H', J, q⟩ := out; exact ⟨.non, H', J.os, J.bare, J.base, J.hok, rfl, q⟩
  | brk => obtain ⟨_, _, _, q⟩ := out; exact q.elim
  | cont => obtain ⟨_, _, _, q⟩ := out; exact q.elim
section
variable {X : Cx} {k : Nat} {f a : Addr} {oe : Obj} {cls : Value} {d : Option Addr} {fd : FuncData} {ps : List Str} {sp : Addr → Value → Option Addr → Sp} {x : Str} {q pos : Pos} {e : Expr} {es : List Expr} {t : TA}
theorem pe_callP (hp : (a, oe) ∈ X.pn) (hz : Zc cls d oe) (hf : ∃ vs, oe.data = .fields vs) (F : FnP X.prog X.w X.K X.mg X.base k f fd ps sp) (hr : L2H.RoomH k X.A) (hg : Gl X x) (hm : X.mg x = some (.ref f)) (hk : PySem.W.keepIn X.K (.ref f) = true) (hb : Binds X.K fd ps [])
    (ha : PA X (e :: es) t) (hdb : (x == ("__debug__" : Str)) = false := by decide) (he : starEach (e :: es) X.env = (false, eval e X.env) :: starEach es X.env := by rfl) (hpl : (backTo pos (starEach es X.env)).any (·.1) = false := by rfl) :
    PE X (.Call (.Name x q) (e :: es) [] pos) (fun σ H Q => t σ H fun vs H1 => sp a cls d vs H1 Q E0) := by
  constructor
  intro pins s σ H Q I h
  apply wpAny_Call_Name_kw
  refine ld_glob I hg hm ?_ hdb
  refine PySem.W.callWith_K (h₀ := X.base) I.ok.mod.kin hk (thn (ha.run pos pins s σ H _ I h) ?_) he hpl
  rintro us s1 ⟨vs, H1, I1, r1, q1⟩
  refine ⟨I1.kIn, ?_⟩
  have ln : (us ++ ([] : List Value)).length = ps.length := by
    rw [List.append_nil, ← r1.length]
    exact F.len _ _ _ _ _ _ _ q1
  have bd := hb s1 us I1.kIn ln
  rw [List.append_nil] at bd
  have P1 := I1.pin (a, oe) (List.mem_append_left _ hp)
  have pin : L2H.PinOk X.stack H1 s1 (a, oe) := by
    refine ⟨P1.1, P1.2.1, fun m => ?_, P1.2.2.2.2⟩
    rcases List.mem_cons.mp (I1.stkSub a m) with z | z
    · exact P1.2.2.1 z
    · exact P1.2.2.2.1 z
  refine wpAny_call (codeAny_mono (F.run X.A X.stack s1 H1 ⟨us, []⟩ us vs Q E0 (a, oe) cls d hr pin hz hf I1.env0 bd r1 q1) fun r s' out => ?_)
  cases r with
  | error z => exact (show False from out).elim
  | ok fl =>
    cases fl with
    | ret u => exact I1.after out
    | next => exact False.elim out
    | brk => exact False.elim out
    | cont => exact False.elim out
end
open NdefX
/-! ### own error classes over a built-in one -/
/-- the built-in base B, its __new__, its __init__, its mro -/
structure ErB (B newId initId : String) (bmB : List Value) : Prop where
  fb : ExcBaseFacts B newId initId bmB
  kx : PySem.W.KxsFacts B initId
  sf : StoreFacts B bmB "object.__setattr__" "object"
theorem erb_VE : ErB "ValueError" "ValueError.__new__" "ValueError.__init__" [.type "ValueError", .type "Exception", .type "BaseException", .type "object"] := ⟨PySem.F.excBase_ValueError, PySem.W.kxs_ValueError, PySem.F.store_ValueError⟩
theorem erb_LE : ErB "LookupError" "LookupError.__new__" "LookupError.__init__" [.type "LookupError", .type "Exception", .type "BaseException", .type "object"] := ⟨PySem.F.excBase_LookupError, PySem.W.kxs_LookupError, PySem.F.store_LookupError⟩
theorem erb_IE : ErB "IndexError" "IndexError.__new__" "IndexError.__init__" [.type "IndexError", .type "LookupError", .type "Exception", .type "BaseException", .type "object"] := ⟨PySem.F.excBase_IndexError, PySem.W.kxs_IndexError, PySem.F.store_IndexError⟩
/-- what stands written of an own error class at C -/
structure ErC (K : PySem.W.Frag) (C : Addr) (newId : String) (bmB : List Value) : Prop where
  cls : ∃ nm q N bs bm sn sub ab col dd k0 k1 k2 k3 k5, K.lookup C = some (excClassObj nm q C N bs bm true sn sub ab col dd k0 k1 k2 k3 k5 newId) ∧ PySem.W.excTail bmB bm = true
  ov : PySem.W.excOver K C bmB = true
  sa : PySem.W.findIn K (.ref C) "__setattr__" = some (some (.builtin "object.__setattr__"))
  ga : PySem.W.findIn K (.ref C) "__getattribute__" = some (some (.builtin "BaseException.__getattribute__"))
  gt : PySem.W.findIn K (.ref C) "__getattr__" = some none
  ex : PySem.W.subIn K (.ref C) (.type "BaseException") = some true
  ty : PySem.W.typeIn K (.ref C) = some (.type "type")
  kp : PySem.W.keepIn K (.ref C) = true
  cl : PySem.W.findIn K (.ref C) "__class__" = some (some (.builtin "object.__class__"))
  ob : PySem.W.mroIn K C (.type "object") = some true
section
variable {pr : Program} {wo : World} {A : Around} {Ex : Value → Shared → Prop} {hh : Heap} {gg : Array GenState} {dr : Drawn} {tt : Nat} {oo : OsState}
variable {nm qn : Str} {C N : Addr} {bs bm bmB : List Value} {hdct : Bool} {sn : List Str} {sub : List Value} {ab : Bool} {col : Option Bool} {dd : Option Addr} {k0 k1 k2 k3 k5 : Option Value} {B newId initId : String}
theorem mw_call (FB : ExcBaseFacts B newId initId bmB) {u e t0 : Addr} {rest : List Value} {Qv : Value → Shared → Prop}
    (hC : hh.get? C = some (excClassObj nm qn C N bs bm hdct sn sub ab col dd k0 k1 k2 k3 k5 newId)) (he : hh.get? e = some (PySem.HandSPX.excO C t0)) (hu : hh.get? u = some (PySem.W.kxs_mw initId e)) (hrest : rest.length ≤ sizeLine)
    (hq : ∀ h' t1, (∀ b o, b ≠ e → hh.get? b = some o → h'.get? b = some o) → h'.get? e = some (PySem.HandSPX.excO C t1) → Qv .none ⟨h', gg, dr, tt, oo⟩) :
    wpAny (model pr wo) A (call (.ref u) rest) Qv Ex ⟨hh, gg, dr, tt, oo⟩ := by
  refine wpAny_call (codeAny_of_tree ?_)
  show wpAny _ A.in1 (callAny (.ref u) ⟨rest, []⟩) _ _ _
  simp only [callAny]
  refine wpAny_bind (wpAny_load hu ?_)
  refine PySem.W.KFB.if_so (show ((Value.type "method-wrapper" == .type "method") || (Value.type "method-wrapper" == .type "builtin_function_or_method") || (Value.type "method-wrapper" == .type "method-wrapper")) = true by decide) ?_
  refine wpAny_bind (PySem.W.check_bound_init FB.toExcCallFacts hC he rfl ?_)
  refine wpAny_bind (wpAny_pure (wpAny_pure ⟨plainId_quiet FB.init.plain _, codeAny_builtin FB.initEntry ?_⟩))
  refine PySem.W.exc_init_tree (cls := .ref C) (t0 := t0) (dv := none) (c2 := .none) (c3 := .none) (b4 := .bool false) he hrest fun h' k e' _ => hq h' _ k e'
end
section
variable {X : Cx} {pins : List (Addr × Obj)} {σ : L2.St} {H : Hp} {s : Shared} {B newId initId : String} {bmB : List Value}
/-! ### self.f = y -/
theorem taker0 {K : PySem.W.Frag} {C : Addr} {f : Str} (h : PySem.W.findIn K (.ref C) f = some none) : PySem.W.takerIn K C f = some none := by
  unfold PySem.W.takerIn
  rw [h]
  rfl
theorem gst_new {a C : Addr} {f : Str} {y : V} {u : Value} {Qu : Unit → Shared → Prop} {Ex : Value → Shared → Prop} {A : Around} (E : ErB B newId initId bmB) (T : ErC X.K C newId bmB) (I : Inv X pins σ H s) (e : H a = some (exo a C none)) (hno : PySem.W.findIn X.K (.ref C) f = some none) (ry : RelV y u)
    (h : ∀ dx s', H dx = none → dx ≠ a → Inv X pins σ (upd (upd H dx (exd dx [(f, y)])) a (exo a C (some dx))) s' → Qu () s') : wpAny (model X.prog X.w) A (setAttr (.ref a) f u) Qu Ex s := by
  obtain ⟨nm, q, N, bs, bm, sn, sub, ab, col, dd, k0, k1, k2, k3, k5, hC, hbm⟩ := T.cls
  have hcl : PySem.W.clsIn X.K C = some { name := nm, bases := bs, mro := .ref C :: bm, ns := N, qualname := q, hasDict := true, slotNames := sn, subclasses := sub, abstract := ab, collection := col, hasDel := false } := by unfold PySem.W.clsIn; rw [hC] <;> rfl
  obtain ⟨t1, ho⟩ := exo_at I.hok e
  obtain ⟨hp, g, d, t, os⟩ := s
  have IA : PySem.W.InstAt hp a (PySem.HandSPX.excO C t1) C none := ⟨ho, rfl, rfl, trivial⟩
  refine PySem.W.set_plain I.kIn IA T.sa ?_
  refine PySem.W.osa_openX E.sf (s := ⟨hp, g, d, _, os⟩) I.kIn IA T.ov (taker0 hno) fun b => ?_
  have hcls : PySem.W.Looks (model X.prog X.w) hp (classData C) _ := PySem.W.looks_clsIn I.kIn hcl
  have hxs : a ≠ hp.objs.size := Nat.ne_of_lt (Heap.lt_size ho)
  show wpAny _ _ (Builtin.ObjectAttr.storeInOwnDict (.ref a) (.ref C) (.str f _) f u b) _ _ _
  unfold Builtin.ObjectAttr.storeInOwnDict Builtin.ObjectAttr.ownDictForStores
  repeat (first | with_reducible refine PySem.HandSPX.store_in_new ?_ ?_ | with_reducible refine wpAny_loadPart_at ho ?_ | with_reducible refine hcls.at ?_ | wp_step)
  · exact ⟨_, #[], _, (Heap.get?_update_ne _ _ _ _ hxs.symm).trans (Heap.get?_push_at rfl rfl), rfl, fun e he => absurd he (by simp), fun _ => rfl⟩
  · intro h' tk' hn' hs
    have hx1 : (hp.push { cls := .type "dict", data := .dict #[] }).get? a = some (PySem.HandSPX.excO C t1) := Heap.get?_push_of_some _ ho
    have k : ∀ b o, b ≠ a → hp.get? b = some o → h'.get? b = some o := fun b o hb ho' => (hs.2 b (Nat.ne_of_lt (Heap.lt_size ho'))).trans ((Heap.get?_update_ne _ _ _ _ hb).trans (Heap.get?_push_of_some _ ho'))
    have hx := (hs.2 a hxs).trans (Heap.get?_update_self _ hx1 rfl)
    have dn := Nat.le_refl hp.objs.size
    have hnd : H hp.objs.size = none := I.hok.fresh dn
    have nd : ∀ {b : Addr} {o : Obj}, hp.get? b = some o → b ≠ hp.objs.size := fun q => Nat.ne_of_lt (Heap.lt_size q)
    have na : ∀ {b : Addr}, H b = none → b ≠ a := fun {b} n z => by
      rw [z, e] at n
      cases n
    have U1 : Un X.fs [] H (upd (upd H hp.objs.size (exd hp.objs.size [(f, y)])) a (exo a C (some hp.objs.size))) hp h' := {
      keep := fun b o q n _ _ => k b o (na n) q
      slot := fun b o q n _ _ => ⟨o.slots, k b o (na n) q⟩
      free := fun b o q n _ => (upd_ne (na n)).trans ((upd_ne (nd q)).trans n)
      there := fun b o q _ => by
        by_cases hb : b = a
        · exact ⟨_, hb ▸ hx⟩
        · exact ⟨o, k b o hb q⟩
      tups := fun b xs q => (upd_ne (at_ne e q exo_tup)).trans ((upd_ne (ne_of_none q hnd)).trans q)
      frzs := fun b o v q => (upd_ne (at_ne e q exo_frz)).trans ((upd_ne (ne_of_none q hnd)).trans q)
      tbls := fun b ps q => ⟨#[], by rw [upd_ne (at_ne e q exo_tbl), upd_ne (ne_of_none q hnd), q]; simp⟩ }
    refine h hp.objs.size _ hnd hxs.symm (I.un (t' := tk') U1 fun b o q => ?_)
    by_cases hb : b = a
    · subst hb
      rw [upd_same] at q
      cases q
      exact exo_ok hx
    · rw [upd_ne hb] at q
      by_cases hd : b = hp.objs.size
      · subst hd
        rw [upd_same] at q
        cases q
        exact exd_ok hn' (relO_put (fs := []) ry fun g => True.intro)
      · rw [upd_ne hd] at q
        refine (I.hok b o q).stay (fun c v hc z => k c v ?_ z) (fun c hc => (upd_ne (at_ne e hc exo_own)).trans ((upd_ne (ne_of_none hc hnd)).trans hc)) fun c xs hc => (upd_ne (at_ne e hc exo_tup)).trans ((upd_ne (ne_of_none hc hnd)).trans hc)
        rcases hc with hc | hc
        · rw [hc]
          exact hb
        · exact at_ne e hc exo_own
theorem gst_old {a C dx : Addr} {f : Str} {y : V} {u : Value} {fs : List (Str × V)} {Qu : Unit → Shared → Prop} {Ex : Value → Shared → Prop} {A : Around} (E : ErB B newId initId bmB) (T : ErC X.K C newId bmB) (I : Inv X pins σ H s) (e : H a = some (exo a C (some dx))) (ed : H dx = some (exd dx fs)) (hl : fs.length ≤ 900)
    (hno : PySem.W.findIn X.K (.ref C) f = some none) (ry : RelV y u) (h : ∀ s', Inv X pins σ (upd H dx (exd dx ((f, y) :: fs))) s' → Qu () s') : wpAny (model X.prog X.w) A (setAttr (.ref a) f u) Qu Ex s := by
  obtain ⟨nm, q, N, bs, bm, sn, sub, ab, col, dd, k0, k1, k2, k3, k5, hC, hbm⟩ := T.cls
  have hcl : PySem.W.clsIn X.K C = some { name := nm, bases := bs, mro := .ref C :: bm, ns := N, qualname := q, hasDict := true, slotNames := sn, subclasses := sub, abstract := ab, collection := col, hasDel := false } := by unfold PySem.W.clsIn; rw [hC] <;> rfl
  obtain ⟨t1, ho⟩ := exo_at I.hok e
  obtain ⟨mA, hns, rel⟩ := exd_at I.hok ed
  have hw := within_of rel
  obtain ⟨hp, g, d, t, os⟩ := s
  obtain ⟨oD, _, _, hoD, _, _⟩ := hns.count hw
  have IA : PySem.W.InstAt hp a { cls := .ref C, dict := some dx, data := .fields #[.ref t1, .none, .none, .none, .bool false, .none] } C (some oD) := ⟨ho, rfl, rfl, hoD⟩
  refine PySem.W.set_plain I.kIn IA T.sa ?_
  refine PySem.W.osa_openX E.sf (s := ⟨hp, g, d, _, os⟩) I.kIn IA T.ov (taker0 hno) fun b => ?_
  have hcls : PySem.W.Looks (model X.prog X.w) hp (classData C) _ := PySem.W.looks_clsIn I.kIn hcl
  show wpAny _ _ (Builtin.ObjectAttr.storeInOwnDict (.ref a) (.ref C) (.str f _) f u b) _ _ _
  unfold Builtin.ObjectAttr.storeInOwnDict Builtin.ObjectAttr.ownDictForStores
  repeat (first | with_reducible refine PySem.OEX.store_in_old hns hw (by rw [List.length_map]; omega) ?_ | with_reducible refine wpAny_loadPart_at ho ?_ | with_reducible refine hcls.at ?_ | wp_step)
  intro h' tk' hn hs
  have k : ∀ b o, b ≠ dx → hp.get? b = some o → h'.get? b = some o := fun b o hb ho' => (hs.2 b hb).trans ho'
  have hd : ∃ o, h'.get? dx = some o := by
    obtain ⟨o, _, _, e', _⟩ := hn
    exact ⟨o, e'⟩
  exact h _ (I.write (t' := tk') (x := dx) (e := dx) (o := exd dx ((f, y) :: fs)) (by rw [ed]; exact True.intro) (.inl rfl) k hd (exd_ok hn (relO_put ry rel)))
def tGst (K : PySem.W.Frag) (newId : String) (bmB : List Value) (f : Str) (to te : TE) : TS := fun D σ H => te σ H fun y H1 => to σ H1 fun x H2 => ∃ a C : Addr, x = .ref a ∧ ErC K C newId bmB ∧ PySem.W.findIn K (.ref C) f = some none ∧
  ((H2 a = some (exo a C none) ∧ ∀ dx, H2 dx = none → dx ≠ a → D.nx σ (upd (upd H2 dx (exd dx [(f, y)])) a (exo a C (some dx)))) ∨
    ∃ (dx : Addr) (fs : List (Str × V)), H2 a = some (exo a C (some dx)) ∧ H2 dx = some (exd dx fs) ∧ fs.length ≤ 900 ∧ D.nx σ (upd H2 dx (exd dx ((f, y) :: fs))))
theorem ps_gst {o e : Expr} {to te : TE} {f : Str} {p' pos : Pos} (E : ErB B newId initId bmB) (ho : PE X o to) (he : PE X e te) (hs : swapsWith e (some (.Attribute o f p')) pos.line X.env = pure false := by rfl) : PS X (.Assign [.Attribute o f p'] e pos) (tGst X.K newId bmB f to te) := by
  refine ⟨fun pins s σ H D I h => ?_⟩
  refine plainObj_wpAny_Assign_Attribute (thn (he.run pins s σ H _ I h) fun v s1 ⟨y, H1, I1, r1, q1⟩ => thn (ho.run pins s1 σ H1 _ I1 q1) fun u s2 ⟨x, H2, I2, r2, a, C, ex, T, hno, q⟩ => ?_) hs
  subst ex
  obtain rfl : u = Value.ref a := r2
  rcases q with ⟨ea, q⟩ | ⟨dx, fs, ea, ed, hl, q⟩
  · exact gst_new E T I2 ea hno r1 fun dx s' n ne J => ⟨σ, _, J, q dx n ne⟩
  · exact gst_old E T I2 ea ed hl hno r1 fun s' J => ⟨σ, _, J, q⟩
end
section
variable {X : Cx} {pins : List (Addr × Obj)} {σ : L2.St} {H : Hp} {s : Shared} {B newId initId : String} {bmB : List Value}
/-! ### super().__init__(text), the first statement of an own error's __init__ -/
/-- a method with super(): its def at f, its code object at c -/
structure SupM (X : Cx) (f c : Addr) (ar : Arg) : Prop where
  fu : X.env.func = some f
  co : X.env.code = .ref c
  fd : ∃ (o : Obj) (fd : FuncData), X.K.lookup f = some o ∧ o.data = .func fd ∧ (fd.params.posonlyargs ++ fd.params.args).head? = some ar
  cd : ∃ (o : Obj) (vs : Array Value) (file : Str) (tk : Tok), X.K.lookup c = some o ∧ o.data = .fields vs ∧ vs[2]? = some (.str file tk) ∧ ((X.prog.main.file : Str) == file) = true
  ks : X.env.kindOf "super" = some .globalImplicit
  kc : X.env.kindOf "__class__" = some .free
  ka : X.env.kindOf ar.arg = some .local
  top : (X.prog.main.scope.names.lookup ("super" : Str)).isSome = false
  no : X.mg "super" = none
  op : PySem.W.nsIn X.K cStatics "thirdparty.any" = some none
theorem sup_stmt {f c a C : Addr} {ar : Arg} {i j : Nat} {body : List Stmt} {m : Str} {n : Nat} {pl : Sem Bool} {p0 p1 p2 p3 p4 p5 : Pos} (E : ErB B newId initId bmB) (T : SupM X f c ar) (O : ErC X.K C newId bmB) (I : Inv X pins σ H s)
    (hi : X.N[i]? = some ar.arg) (hs : σ[i]? = some (some (.ref a))) (hj : X.N[j]? = some ("__class__" : Str)) (hsj : σ[j]? = some (some (.ref C))) (ha : H a = some (exo a C none))
    (hsup : PySem.W.ks_superIn X.K C C "__init__" = some (some (.builtin initId))) (hB : PySem.W.subIn X.K (.ref C) (.type B) = some true) (hDD : PySem.W.mroIn X.K C (.ref C) = some true)
    (he : eval (.Call (.Attribute (.Call (.Name "super" p0) [] [] p1) "__init__" p2) [.Constant (.str m) n p3] [] p4) X.env = (do
      let ov ← attributeBase (.Call (.Name "super" p0) [] [] p1) "__init__" X.env (eval (.Call (.Name "super" p0) [] [] p1) X.env)
      standAt p2.atName
      let (g, first) ← holding [ov] (getMethod ov "__init__" pl)
      callWith p4 g first (backTo p4 (starEach [.Constant (.str m) n p3] X.env)) []))
    (hint : interactive X.env = false) (hsw : swapsWith (.Call (.Attribute (.Call (.Name "super" p0) [] [] p1) "__init__" p2) [.Constant (.str m) n p3] [] p4) none p5.line X.env = pure false) :
    _root_.PySem.wpAt (model X.prog X.w) X.A (.func body X.env) (exec (.Expr (.Call (.Attribute (.Call (.Name "super" p0) [] [] p1) "__init__" p2) [.Constant (.str m) n p3] [] p4) p5) X.env) (fun fl s' => fl = .next ∧ Inv X pins σ H s') X.xe s := by
  refine ks_wpAt_Expr_any ?_ hint hsw
  refine ks_wpAt_MethodCall (pl := pl) ?_ he
  have KX : X.K.In s.heap := I.kIn
  obtain ⟨of, fd, hf, hfd, hp⟩ := T.fd
  obtain ⟨oc, vs, file, tk, hc, hoc, hvs, hfile⟩ := T.cd
  obtain ⟨nm, q, N, bs, bm, sn, sub, ab, col, dd, k0, k1, k2, k3, k5, hC, hbm⟩ := O.cls
  have hcl : PySem.W.clsIn X.K C = some { name := nm, bases := bs, mro := .ref C :: bm, ns := N, qualname := q, hasDict := true, slotNames := sn, subclasses := sub, abstract := ab, collection := col, hasDel := false } := by unfold PySem.W.clsIn; rw [hC] <;> rfl
  obtain ⟨t1, ho⟩ := exo_at I.hok ha
  refine ks_wpAt_super_base (env := X.env) T.ks T.kc (by decide) T.fu (KX _ _ hf) hfd hp T.co (KX _ _ hc) hoc hvs hfile T.top ?_
  obtain ⟨mb, h1, h2⟩ := I.mod.blt
  refine PySem.W.ks_loadName_global I.ok.kind T.ks (Calls.loadGlobal_builtin (by rw [I.ok.glob]; exact I.mod.glob.keeps I.bk) T.no (by rw [I.ok.blt]; exact h1.keeps I.bk) ((h2 "super" (by decide)).trans (by decide +kernel)) ⟨rfl, ?_⟩)
  obtain ⟨mm, hn, hl⟩ := I.loc
  obtain ⟨uc, rc, lc⟩ := hl j _ _ hj hsj (.inr (.inr T.kc))
  obtain ⟨ua, ra, la⟩ := hl i _ _ hi hs (.inl T.ka)
  obtain rfl : uc = Value.ref C := rc
  obtain rfl : ua = Value.ref a := ra
  obtain ⟨cc, hcc, hcell⟩ : ∃ cc, X.env.cells.lookup ("__class__" : Str) = some cc ∧ s.heap.IsCell cc (some (Value.ref C)) := by
    rcases lc with ⟨z, _⟩ | ⟨_, z⟩
    · rw [T.kc] at z
      cases z
    · exact z
  have hma : mm ar.arg = some (Value.ref a) := by
    rcases la with ⟨_, z⟩ | ⟨z, _⟩
    · exact z
    · rw [T.ka] at z
      rcases z with z | z <;> cases z
  refine wpAny_loadName_free I.ok.kind T.kc hcc hcell ?_
  refine wpAny_loadName_local I.ok.kind T.ka hn hma ?_
  have hCh := KX _ _ hC
  refine ks_wpAny_isType_cls hCh rfl ⟨rfl, ?_⟩
  obtain ⟨hp', g, d, t, os⟩ := s
  refine ks_wpAny_call_super hCh rfl ho rfl (fun z e => by cases e) (PySem.W.looks_mroIn KX hDD) fun h1 so kk => ?_
  have I1 : Inv X pins σ H ⟨h1, g, d, t, os⟩ := I.kept (t' := t) kk
  have hin : PySem.W.Looks (model X.prog X.w) h1 (isInstance (.ref a) (.type B)) true := (show PySem.W.InstAt h1 a (PySem.HandSPX.excO C t1) C none from ⟨kk _ _ ho, rfl, rfl, trivial⟩).type.andThen (PySem.W.looks_subIn I1.kIn hB)
  have hsup' := hsup
  unfold PySem.W.ks_superIn at hsup'
  rw [hcl] at hsup'
  refine PySem.W.kxs_getMethod E.kx so (PySem.W.looks_opaque I1.kIn T.op) (l₀ := .ref C :: bm) (fun A Q E s k q => wpAny_bind ((PySem.W.looks_clsIn I1.kIn hcl) A _ E s k (wpAny_pure q))) rfl I1.kIn hsup' hin (fun z => ?_) (by decide) ?_
  · subst z
    rw [show hp'.get? a = _ from hCh] at ho
    cases ho
  have kk2 : ∀ b o, h1.get? b = some o → (h1.push (PySem.W.kxs_mw initId a)).get? b = some o := fun b o e => Heap.get?_push_of_some _ e
  have I2 : Inv X pins σ H ⟨h1.push (PySem.W.kxs_mw initId a), g, d, t + 1, os⟩ := I1.kept (t' := t + 1) kk2
  have hmw : (h1.push (PySem.W.kxs_mw initId a)).get? h1.objs.size = some (PySem.W.kxs_mw initId a) := Heap.get?_push_at rfl rfl
  show wpAny _ _ (callWith p4 (.ref h1.objs.size) [] ((false, eval (.Constant (.str m) n p3) X.env) :: backTo p4 (starEach [] X.env)) []) _ _ _
  refine PySem.W.kxs_callWith (i := initId) (x := a) rfl (PySem.Calls.evalArgs_plain (PySem.Calls.spliced_cons (PySem.Calls.Constant_str (PySem.Calls.spliced_nil ⟨hmw, ?_⟩))))
  show wpAny _ _ (call (.ref h1.objs.size) [.str m (t + 1)]) _ _ _
  refine mw_call E.fb (kk2 _ _ (kk _ _ hCh)) (kk2 _ _ (kk _ _ ho)) hmw (by show 1 ≤ sizeLine; decide) fun h3 t3 k3 e3 => ⟨rfl, ?_⟩
  have J := (I2.tok (t + 1 + 1)).write (h' := h3) (t' := t + 1 + 1) (x := a) (e := a) (o := exo a C none) (by rw [ha]; exact True.intro) (.inl rfl) k3 ⟨_, e3⟩ (exo_ok e3)
  rw [show upd H a (exo a C none) = H from funext fun z => by
    by_cases hz : z = a
    · rw [hz, upd_same, ha]
    · rw [upd_ne hz]] at J
  exact J
end
section
variable {P : Program} {w : World} {K : PySem.W.Frag} {mg : Str → Option Value} {base : Heap} {B newId initId : String} {bmB : List Value}
/-- what stands written of an own error's __init__: its words F, the def at f, its class at C -/
structure IniM (P : Program) (K : PySem.W.Frag) (mg : Str → Option Value) (B newId initId : String) (bmB : List Value) (f C : Addr) (F : NF) (ar : Arg) (doc pm ctv : Value) : Prop where
  lk : ∃ (od : Option Addr) (sl : Array (Option Value)), K.lookup f = some ⟨.type "function", od, .func (F.fd doc pm ctv), sl⟩
  cd : PySem.W.codeIn K (.ref F.c) F.qual = true
  cl : ∃ (cc : Addr) (o : Obj), F.cl = [(("__class__" : Str), cc)] ∧ K.lookup cc = some o ∧ o.data = .cell (some (.ref C))
  hd : (F.params.posonlyargs ++ F.params.args).head? = some ar
  fl : ∃ (o : Obj) (vs : Array Value) (file : Str) (tk : Tok), K.lookup F.c = some o ∧ o.data = .fields vs ∧ vs[2]? = some (.str file tk) ∧ ((P.main.file : Str) == file) = true
  ks : F.scope.names.lookup ("super" : Str) = some .globalImplicit
  kc : F.scope.names.lookup ("__class__" : Str) = some .free
  ka : F.scope.names.lookup ar.arg = some .local
  top : (P.main.scope.names.lookup ("super" : Str)).isSome = false
  no : mg "super" = none
  op : PySem.W.nsIn K cStatics "thirdparty.any" = some none
  ox : ErC K C newId bmB
  su : PySem.W.ks_superIn K C C "__init__" = some (some (.builtin initId))
  sb : PySem.W.subIn K (.ref C) (.type B) = some true
  mr : PySem.W.mroIn K C (.ref C) = some true
theorem init_fn {f C : Addr} {F : NF} {ar : Arg} {doc pm ctv : Value} {N ps : List Str} {k i j n : Nat} {sp : Sp} {m : Str} {p0 p1 p2 p3 p4 p5 : Pos} {rest : List Stmt} {pl : Addr → Sem Bool} (EB : ErB B newId initId bmB) (T : IniM P K mg B newId initId bmB f C F ar doc pm ctv)
    (S : NScope N ps ["__class__"] F.scope) (len : ∀ vs H Q E, sp vs H Q E → vs.length = ps.length) (hi : N[i]? = some ar.arg) (hj : N[j]? = some ("__class__" : Str))
    (hbd : F.body = .Expr (.Call (.Attribute (.Call (.Name "super" p0) [] [] p1) "__init__" p2) [.Constant (.str m) n p3] [] p4) p5 :: rest)
    (hst : ∀ vs H Q E, sp vs H Q E → ∃ a, (startF N vs [some (.ref C)])[i]? = some (some (.ref a)) ∧ (startF N vs [some (.ref C)])[j]? = some (some (.ref C)) ∧ H a = some (exo a C none))
    (hbody : ∀ (A : Around) (outer : List Env) (s : Shared) (H : Hp) (vs : List V) (Q : VK) (E : XK), Room k (A.deeper (envF F f s.heap.objs.size)) → sp vs H Q E →
      ∃ t, PSs (ncx CX0 P w K mg base N F f A outer s H E) rest t ∧ t { nx := fun _ H' => Q .non H', rt := Q } (startF N vs [some (.ref C)]) H)
    (he : ∀ L, eval (.Call (.Attribute (.Call (.Name "super" p0) [] [] p1) "__init__" p2) [.Constant (.str m) n p3] [] p4) (envF F f L) = (do
      let ov ← attributeBase (.Call (.Name "super" p0) [] [] p1) "__init__" (envF F f L) (eval (.Call (.Name "super" p0) [] [] p1) (envF F f L))
      standAt p2.atName
      let (g, first) ← holding [ov] (getMethod ov "__init__" (pl L))
      callWith p4 g first (backTo p4 (starEach [.Constant (.str m) n p3] (envF F f L))) []) := by intro _; rfl)
    (hint : ∀ L, interactive (envF F f L) = false := by intro _; rfl)
    (hsw : ∀ L, swapsWith (.Call (.Attribute (.Call (.Name "super" p0) [] [] p1) "__init__" p2) [.Constant (.str m) n p3] [] p4) none p5.line (envF F f L) = pure false := by intro _; rfl) :
    FnOk P w K mg base CX0 (k + 1) f (F.fd doc pm ctv) ps sp := by
  refine ⟨len, fun A outer s H args us vs Q E hr e0 hb r hsp => ?_⟩
  have KX : K.In s.heap := e0.mod.kin.keeps fun b o e => (e0.bs b o e).1
  have hl := len _ _ _ _ hsp
  have lim : s.heap.NoLimit := e0.mod.nolimit.keeps fun b o e => (e0.bs b o e).1
  obtain ⟨od, sl, lk⟩ := T.lk
  obtain ⟨cc, oc, ecl, lcc, dcc⟩ := T.cl
  refine codeAny_call_function hr.depth (KX _ _ lk) rfl S.co S.gen rfl (PySem.W.codeRec_of KX T.cd) (hb _ _ _ _ ?_)
  refine wpAny_newFunctionEnv S.nocell (fun ⟨x, _⟩ hy => S.par x (List.of_mem_zip hy).1) (fun h1 hns hsb => ⟨lim.fresh _ hsb, ?_⟩) S.kind
  have kp : ∀ b o, s.heap.get? b = some o → h1.get? b = some o := fun b o e => hsb.extBut b o (Nat.ne_of_lt (Heap.lt_size e)) (Heap.get?_push_of_some _ e)
  have CA : CellsAt F.cl ["__class__"] [some (.ref C)] s.heap H := by
    rw [ecl]
    have hc : ∀ (y : Str) (c : Addr), ([(("__class__" : Str), cc)] : List (Str × Addr)).lookup y = some c → c = cc ∧ y = "__class__" := fun y c e => by
      rw [List.lookup_cons] at e
      split at e
      · rename_i z
        exact ⟨(Option.some.inj e).symm, eq_of_beq z⟩
      · cases e
    refine ⟨rfl, fun y c e => ?_, fun x y c e1 e2 => (hc x c e1).2.trans (hc y c e2).2.symm, fun i y e => ?_⟩
    · rw [(hc y c e).1]
      exact ⟨(e0.bs _ _ (e0.mod.kin _ _ lcc)).2, _, oc, KX _ _ lcc, dcc⟩
    · match i, e with
      | 0, e =>
        cases e
        exact ⟨cc, by simp, fun v e => by cases e; exact ⟨_, rfl, oc, KX _ _ lcc, dcc⟩⟩
  have I : Inv (ncx CX0 P w K mg base N F f A outer s H E) [] (startF N vs [some (.ref C)]) H { s with heap := h1, toks := s.toks + (ps.zip us).length } := inv_startN S hr.hd e0 hl r CA hns kp
  obtain ⟨a, s1, s2, ha⟩ := hst _ _ _ _ hsp
  have TM : SupM (ncx CX0 P w K mg base N F f A outer s H E) f F.c ar := ⟨rfl, rfl, ⟨_, _, lk, rfl, T.hd⟩, T.fl, T.ks, T.kc, T.ka, T.top, T.no, T.op⟩
  have fin : ∀ {τ : L2.St} {G : Hp} {v : V} {u : Value} {z : Shared}, Inv (ncx CX0 P w K mg base N F f A outer s H E) [] τ G z → L2.RelV v u → Q v G → CE outer P w H s Q u z :=
    fun J rv q => ⟨_, _, J.os, J.bare, J.base, J.hok, rv, q⟩
  obtain ⟨t, ht, hq⟩ := hbody A outer s H vs Q E (hr.deeper _) hsp
  refine ks_codeAny_funcAt (body := F.body) (env := envF F f s.heap.objs.size) ?_
  rw [hbd]
  refine ks_wpAt_execs_cons (ks_wpAt_mono (sup_stmt (X := ncx CX0 P w K mg base N F f A outer s H E) (i := i) (j := j) EB TM T.ox I hi s1 hj s2 ha T.su T.sb T.mr (he _) (hint _) (hsw _)) (fun fl s' hs => ?_) fun e s' hx => hx)
  obtain ⟨rfl, J⟩ := hs
  refine _root_.PySem.wpAt_of_wpAny (wpAny_mono (ht.run [] s' _ H _ J hq) (fun fl z hz => ?_) fun e s' hx => hx)
  cases fl with
  | ret u =>
    obtain ⟨v5, τ5, G5, J5, r5, q5⟩ := hz
    exact fin J5 r5 q5
  | next =>
    obtain ⟨τ5, G5, J5, q5⟩ := hz
    exact fin (v := V.non) (u := Value.none) J5 rfl q5
  | brk =>
    obtain ⟨_, _, _, q5⟩ := hz
    exact q5.elim
  | cont =>
    obtain ⟨_, _, _, q5⟩ := hz
    exact q5.elim
end
section
variable {X : Cx} {B newId initId : String} {bmB : List Value}
theorem ErC.has {K : PySem.W.Frag} {C : Addr} (T : ErC K C newId bmB) : PySem.W.hasDictIn K C = true ∧ (PySem.W.clsIn K C).isSome = true := by
  obtain ⟨nm, q, N, bs, bm, sn, sub, ab, col, dd, k0, k1, k2, k3, k5, hC, hbm⟩ := T.cls
  have hcl : PySem.W.clsIn K C = some { name := nm, bases := bs, mro := .ref C :: bm, ns := N, qualname := q, hasDict := true, slotNames := sn, subclasses := sub, abstract := ab, collection := col, hasDel := false } := by unfold PySem.W.clsIn; rw [hC] <;> rfl
  exact ⟨by unfold PySem.W.hasDictIn; rw [hcl] <;> rfl, by rw [hcl] <;> rfl⟩
/-! ### C(..): an own error as a value -/
def tMkV (C : Addr) (sp : Sp) (dvs : List V) (ta : TA) : TE := fun σ H Q => ta σ H fun vs H1 => vs.length ≤ 1000 ∧ ∀ a, H1 a = none → sp (.ref a :: (vs ++ dvs)) (upd H1 a (exo a C none)) (fun v H2 => v = .non ∧ Q (.ref a) H2) (fun _ _ _ => False)
theorem run_mkE {CX : CXT} {C fI : Addr} {k : Nat} {fd : FuncData} {ps : List Str} {sp : Sp} {ds : List Value} {dvs vs : List V} {us : List Value} {pins : List (Addr × Obj)} {σ : L2.St} {H1 : Hp} {s1 : Shared} {Q : VK} (E : ErB B newId initId bmB) (T : ErC X.K C newId bmB)
    (iC : PySem.W.findIn X.K (.ref C) "__init__" = some (some (.ref fI))) (tI : PySem.W.typeIn X.K (.ref fI) = some (.type "function")) (F1 : FnOk X.prog X.w X.K X.mg X.base CX k fI fd ps sp) (hr : Room (k + 1) X.A) (hb : Binds X.K fd ps ds) (hd : Vals dvs ds)
    (hx : Passes CX X (fun _ _ _ => False)) (I1 : Inv X pins σ H1 s1) (r1 : Vals vs us) (hz : vs.length ≤ 1000) (q1 : ∀ a, H1 a = none → sp (.ref a :: (vs ++ dvs)) (upd H1 a (exo a C none)) (fun v H2 => v = .non ∧ Q (.ref a) H2) (fun _ _ _ => False)) :
    wpAny (model X.prog X.w) X.A (call (.ref C) us) (EP X pins σ Q) X.xe s1 := by
  obtain ⟨nm, q, N, bs, bm, sn, sub, ab, col, dd, k0, k1, k2, k3, k5, hC, hbm⟩ := T.cls
  obtain ⟨hp, g, dr, tk, os⟩ := s1
  have hsz : hp.objs.size ≤ hp.objs.size + 1 := Nat.le_succ _
  have hq := q1 (hp.objs.size + 1) (I1.hok.fresh hsz)
  have kk : ∀ b o, hp.get? b = some o → ((hp.push (PySem.W.kdv_tup us)).push (PySem.HandSPX.excO C hp.objs.size)).get? b = some o := fun b o e => Heap.get?_push_of_some _ (Heap.get?_push_of_some _ e)
  have hget : ((hp.push (PySem.W.kdv_tup us)).push (PySem.HandSPX.excO C hp.objs.size)).get? (hp.objs.size + 1) = some (PySem.HandSPX.excO C hp.objs.size) := by heap_get
  have I2 : Inv X pins σ (upd H1 (hp.objs.size + 1) (exo (hp.objs.size + 1) C none)) ⟨(hp.push (PySem.W.kdv_tup us)).push (PySem.HandSPX.excO C hp.objs.size), g, dr, tk, os⟩ :=
    I1.laid (t' := tk) kk hsz (exo_ok hget)
  have r2 : Vals (V.ref (hp.objs.size + 1) :: (vs ++ dvs)) (Value.ref (hp.objs.size + 1) :: (us ++ ds)) := .cons rfl (r1.append hd)
  have hl : (Value.ref (hp.objs.size + 1) :: us ++ ds).length = ps.length := r2.length.symm.trans (F1.len _ _ _ _ hq)
  have hus : us.length ≤ sizeLine := by
    rw [← Paired.length r1, sizeLine_eq]
    omega
  refine wpAny_call (PySem.HandSPX.call_own E.fb (fun Y => PySem.W.excTail_contains Y bm hbm) (I1.kIn _ _ hC) (PySem.W.looks_findIn I1.kIn iC) (fun self => PySem.W.bind_fn I1.kIn self tI) hus
    (codeAny_mono (F1.run _ X.stack _ _ ⟨Value.ref (hp.objs.size + 1) :: us, []⟩ (Value.ref (hp.objs.size + 1) :: (us ++ ds)) _ _ (fun _ _ _ => False) (hr.make C us []) (I2.env0.make C us []) (hb _ (Value.ref (hp.objs.size + 1) :: us) I2.kIn hl) r2 hq) fun r s' hq' => ?_))
  match r, hq' with
  | .error er, hq' => exact hx pins σ _ _ er s' I2 hq'
  | .ok (.ret u), hq' =>
    obtain ⟨v, H2, J, rv, ev, q2⟩ := I2.after hq'
    subst ev
    exact ⟨rv, .ref (hp.objs.size + 1), H2, J, rfl, q2⟩
  | .ok .next, hq' => exact False.elim hq'
  | .ok .brk, hq' => exact False.elim hq'
  | .ok .cont, hq' => exact False.elim hq'
variable {CX : CXT} {x : Str} {C fI : Addr} {k : Nat} {fd : FuncData} {ps : List Str} {sp : Sp} {ds : List Value} {dvs : List V} {e : Expr} {es : List Expr} {ta : TA} {te : TE} {p pos : Pos}
theorem pe_mkE (E : ErB B newId initId bmB) (T : ErC X.K C newId bmB) (iC : PySem.W.findIn X.K (.ref C) "__init__" = some (some (.ref fI))) (tI : PySem.W.typeIn X.K (.ref fI) = some (.type "function"))
    (F1 : FnOk X.prog X.w X.K X.mg X.base CX k fI fd ps sp) (hr : Room (k + 1) X.A) (hb : Binds X.K fd ps ds) (hd : Vals dvs ds) (hx : Passes CX X (fun _ _ _ => False)) (hg : Gl X x) (hm : X.mg x = some (.ref C)) (ha : PA X (e :: es) ta)
    (hdb : (x == ("__debug__" : Str)) = false := by decide) (he : starEach (e :: es) X.env = (false, eval e X.env) :: starEach es X.env := by rfl) (hpl : (backTo pos (starEach es X.env)).any (·.1) = false := by rfl) :
    PE X (.Call (.Name x p) (e :: es) [] pos) (tMkV C sp dvs ta) := by
  refine ⟨fun pins s σ H Q I h => ?_⟩
  refine wpAny_Call_Name_kw (ld_glob I hg hm ?_ hdb)
  refine PySem.W.callWith_K (h₀ := X.base) I.ok.mod.kin T.kp (thn (ha.run pos pins s σ H _ I h) fun us s1 ⟨vs, H1, I1, r1, hz, q1⟩ => ⟨I1.kIn, ?_⟩) he hpl
  exact run_mkE E T iC tI F1 hr hb hd hx I1 r1 hz q1
theorem pe_mkE0 (E : ErB B newId initId bmB) (T : ErC X.K C newId bmB) (iC : PySem.W.findIn X.K (.ref C) "__init__" = some (some (.ref fI))) (tI : PySem.W.typeIn X.K (.ref fI) = some (.type "function"))
    (F1 : FnOk X.prog X.w X.K X.mg X.base CX k fI fd ps sp) (hr : Room (k + 1) X.A) (hb : Binds X.K fd ps ds) (hd : Vals dvs ds) (hx : Passes CX X (fun _ _ _ => False)) (hg : Gl X x) (hm : X.mg x = some (.ref C))
    (hdb : (x == ("__debug__" : Str)) = false := by decide) : PE X (.Call (.Name x p) [] [] pos) (tMkV C sp dvs tNil) := by
  refine ⟨fun pins s σ H Q I h => ?_⟩
  refine wpAny_Call_Name_kw (ld_glob I hg hm ?_ hdb)
  exact PySem.W.callWith_K0 I.kIn T.kp (run_mkE (us := []) E T iC tI F1 hr hb hd hx I .nil h.1 h.2)
/-! ### e.f of such a value -/
def tXo (K : PySem.W.Frag) (f : Str) (te : TE) : TE := fun σ H Q => te σ H fun x H1 => ∃ (a C d : Addr) (nw : String) (bm : List Value) (fs : List (Str × V)) (v : V), x = .ref a ∧ H1 a = some (exo a C (some d)) ∧ H1 d = some (exd d fs) ∧ fs.lookup f = some v ∧
  PySem.W.findIn K (.ref C) f = some none ∧ ErC K C nw bm ∧ Q v H1
theorem inst_exo {pins : List (Addr × Obj)} {σ : L2.St} {H : Hp} {s : Shared} {a C d : Addr} {fs : List (Str × V)} (I : Inv X pins σ H s) (ea : H a = some (exo a C (some d))) (ed : H d = some (exd d fs)) :
    ∃ (ox od : Obj) (mA : Str → Option Value), PySem.W.InstAt s.heap a ox C (some od) ∧ (∀ n, PySem.W.lookIn n od = some (mA n)) ∧ ∀ f, RelO (fs.lookup f) (mA f) := by
  obtain ⟨t1, ho⟩ := exo_at I.hok ea
  obtain ⟨mA, hns, rel⟩ := exd_at I.hok ed
  obtain ⟨od, hod, hl⟩ := lookIn_ns hns
  exact ⟨_, od, mA, ⟨ho, rfl, rfl, hod⟩, hl, rel⟩
theorem pe_xo {n : Str} (he : PE X e te) (hb : attributeBase e n X.env (eval e X.env) = eval e X.env := by rfl) : PE X (.Attribute e n pos) (tXo X.K n te) := by
  refine ⟨fun pins s σ H Q I h => ?_⟩
  refine attr_of hb (thn (he.run pins s σ H _ I h) fun u s1 hh => ?_)
  obtain ⟨x, H1, I1, rx, a, C, d, nw, bm, fs, v, ex, ea, ed, l, hno, T, q⟩ := hh
  subst ex
  obtain rfl : u = Value.ref a := rx
  obtain ⟨ox, od, mA, J, hl, rel⟩ := inst_exo I1 ea ed
  obtain ⟨u, hu, ru⟩ := RelO.some_of (v := v) (o := mA n) (l ▸ rel n)
  exact HandSPX.exc_get I1.kIn J T.ga T.gt T.ex (PySem.W.findObj_own T.has.1 hno rfl ((hl n).trans (congrArg some hu))) (handed_of ru) ⟨v, H1, I1.tok _, ru, q⟩
/-! ### isinstance of such a value -/
def rIsO (K : PySem.W.Frag) : List V → Hp → VK → Prop := fun xs H Q => ∃ (a C d : Addr) (nw : String) (bm : List Value) (fs : List (Str × V)) (c : V) (cv : Value) (b : Bool), xs = [.ref a, c] ∧ H a = some (exo a C (some d)) ∧ H d = some (exd d fs) ∧ ErC K C nw bm ∧ ClsV c cv ∧
  PySem.W.kitOne K (.ref C) cv = some b ∧ Q (.bl b) H
theorem call_isO (hn : PySem.W.specialIn X.K (.builtin "object.__class__") "__get__" = some (some (.builtin "getset_descriptor.__get__"))) (ht : PySem.W.takesIn X.K (.builtin "object.__class__") = some true) : CallR X (.builtin "isinstance") (rIsO X.K) := by
  intro pins s σ H xs us Q I r h
  obtain ⟨a, C, d, nw, bm, fs, c, cv, b, rfl, ea, ed, T, hc, e, q⟩ := h
  obtain ⟨u1, u2, rfl, r1, r2⟩ := vals2 r
  have e2 := hc.eq r2
  subst e2
  cases (show u1 = Value.ref a from r1)
  obtain ⟨ox, od, mA, J, _, _⟩ := inst_exo I ea ed
  exact PySem.W.kia_one (PySem.W.kitx_exc T.has.2 T.ga T.gt T.ex T.cl hn ht T.ob) I.kIn J e (fun z => nomatch z) fun tk => ⟨.bl b, H, I.tok tk, rfl, q⟩
end
/-! ### an own error made -/
/-- what __init__ leaves: the object at a with its dict at d -/
def Made (H H' : Hp) (a C d : Addr) (fs : List (Str × V)) : Prop := H d = none ∧ d ≠ a ∧ H' a = some (exo a C (some d)) ∧ H' d = some (exd d fs) ∧ ∀ b o, b ≠ a → H b = some o → H' b = some o
def spIni (C : Addr) (n : Nat) (fs : List V → List (Str × V)) : Sp := fun vs H Q _ => ∃ (a : Addr) (ws : List V), vs = .ref a :: ws ∧ ws.length = n ∧ H a = some (exo a C none) ∧ ∀ d H', Made H H' a C d (fs ws) → Q .non H'
abbrev NFI (st : Stmt) (qual : Str) (cc c : Addr) : NF := ⟨"__init__", qual, defArgs st, defBody st, defScope st, [(("__class__" : Str), cc)], c⟩
theorem made1 {H : Hp} {a C d : Addr} {f : Str} {y : V} (ha : H a = some (exo a C none)) (hd : H d = none) (ne : d ≠ a) : Made H (upd (upd H d (exd d [(f, y)])) a (exo a C (some d))) a C d [(f, y)] :=
  ⟨hd, ne, upd_same, (upd_ne ne).trans upd_same, fun b o hb e => (upd_ne hb).trans ((upd_ne (ne_of_none e hd)).trans e)⟩
theorem made2 {H H' : Hp} {a C d : Addr} {f : Str} {y : V} {fs : List (Str × V)} (m : Made H H' a C d fs) : Made H (upd H' d (exd d ((f, y) :: fs))) a C d ((f, y) :: fs) :=
  ⟨m.1, m.2.1, (upd_ne m.2.1.symm).trans m.2.2.1, upd_same, fun b o hb e => (upd_ne (ne_of_none e m.1)).trans (m.2.2.2.2 b o hb e)⟩
/-- the value x is an error of the class at C with the fields fs -/
def IsE (H : Hp) (C : Addr) (fs : List (Str × V)) (x : V) : Prop := ∃ a d : Addr, x = .ref a ∧ H a = some (exo a C (some d)) ∧ H d = some (exd d fs)
theorem IsE.same {H H' : Hp} {C : Addr} {fs : List (Str × V)} {x : V} (h : IsE H C fs x) (s : Same H H') : IsE H' C fs x := by
  obtain ⟨a, d, rfl, ea, ed⟩ := h
  exact ⟨a, d, rfl, s _ _ ea, s _ _ ed⟩
theorem mkv_use {H1 : Hp} {Q : VK} {C : Addr} {n : Nat} {fs : List V → List (Str × V)} {vs : List V} (hn : vs.length = n) (h0 : n ≤ 1000) (h : ∀ x H', Same H1 H' → IsE H' C (fs vs) x → Q x H') :
    vs.length ≤ 1000 ∧ ∀ a, H1 a = none → spIni C n fs (.ref a :: (vs ++ [])) (upd H1 a (exo a C none)) (fun v H2 => v = .non ∧ Q (.ref a) H2) (fun _ _ _ => False) := by
  refine ⟨by omega, fun a ha => ?_⟩
  rw [List.append_nil]
  refine ⟨a, vs, rfl, hn, upd_same, fun d H2 m => ⟨rfl, h _ _ (fun b o e => ?_) ⟨a, d, rfl, m.2.2.1, m.2.2.2.1⟩⟩⟩
  exact m.2.2.2.2 b o (ne_of_none e ha) ((upd_ne (ne_of_none e ha)).trans e)
/-- the class nm, an own error over B: its mro behind itself is pre and then bmB -/
structure Er (P : Program) (K : PySem.W.Frag) (mg : Str → Option Value) (B newId initId : String) (bmB pre : List Value) (st : Stmt) (nm qual : Str) where
  C : Addr
  f : Addr
  cc : Addr
  c : Addr
  ar : Arg
  doc : Value
  pm : Value
  ctv : Value
  T : IniM P K mg B newId initId bmB f C (NFI st qual cc c) ar doc pm ctv
  iC : PySem.W.findIn K (.ref C) "__init__" = some (some (.ref f))
  tI : PySem.W.typeIn K (.ref f) = some (.type "function")
  g : mg nm = some (.ref C)
  har : ar.arg = "self"
  lk : ∃ q N bs sn sub ab col dd k0 k1 k2 k3 k5, K.lookup C = some (excClassObj nm q C N bs (pre ++ bmB) true sn sub ab col dd k0 k1 k2 k3 k5 newId)
section
variable {base : Heap} {K : PySem.W.Frag} {mg : Str → Option Value} {P : Program} {w : World} {B newId initId : String} {bmB pre : List Value} {st : Stmt} {nm qual : Str}
theorem ok_ini1 {fl pn wd m : Str} {p0 p1 p2 p3 p4 p5 q0 q1 q2 q3 r0 r1 r2 r3 : Pos} {n1 n2 : Nat} {pl : Addr → Sem Bool} (EB : ErB B newId initId bmB) (T : Er P K mg B newId initId bmB pre st nm qual) (S : NScope ["self", pn, "__class__"] ["self", pn] ["__class__"] (defScope st))
    (hbd : defBody st = [.Expr (.Call (.Attribute (.Call (.Name "super" p0) [] [] p1) "__init__" p2) [.Constant (.str m) n1 p3] [] p4) p5, .Assign [.Attribute (.Name "self" q0) "word" q1] (.Constant (.str wd) n2 q2) q3, .Assign [.Attribute (.Name "self" r0) fl r1] (.Name pn r2) r3])
    (e1 : PySem.W.findIn K (.ref T.C) "word" = some none) (e2 : PySem.W.findIn K (.ref T.C) fl = some none) (hn1 : (pn == ("__debug__" : Str)) = false := by decide) (hn2 : (pn == ("__classdict__" : Str)) = false := by decide)
    (he : ∀ L, eval (.Call (.Attribute (.Call (.Name "super" p0) [] [] p1) "__init__" p2) [.Constant (.str m) n1 p3] [] p4) (envF (NFI st qual T.cc T.c) T.f L) = (do
      let ov ← attributeBase (.Call (.Name "super" p0) [] [] p1) "__init__" (envF (NFI st qual T.cc T.c) T.f L) (eval (.Call (.Name "super" p0) [] [] p1) (envF (NFI st qual T.cc T.c) T.f L))
      standAt p2.atName
      let (g, first) ← holding [ov] (getMethod ov "__init__" (pl L))
      callWith p4 g first (backTo p4 (starEach [.Constant (.str m) n1 p3] (envF (NFI st qual T.cc T.c) T.f L))) []) := by intro _; rfl)
    (hint : ∀ L, interactive (envF (NFI st qual T.cc T.c) T.f L) = false := by intro _; rfl)
    (hsw : ∀ L, swapsWith (.Call (.Attribute (.Call (.Name "super" p0) [] [] p1) "__init__" p2) [.Constant (.str m) n1 p3] [] p4) none p5.line (envF (NFI st qual T.cc T.c) T.f L) = pure false := by intro _; rfl)
    (hs1 : ∀ L, swapsWith (.Constant (.str wd) n2 q2) (some (.Attribute (.Name "self" q0) "word" q1)) q3.line (envF (NFI st qual T.cc T.c) T.f L) = pure false := by intro _; rfl)
    (hs2 : ∀ L, swapsWith (.Name pn r2) (some (.Attribute (.Name "self" r0) fl r1)) r3.line (envF (NFI st qual T.cc T.c) T.f L) = pure false := by intro _; rfl) :
    FnOk P w K mg base CX0 1 T.f ((NFI st qual T.cc T.c).fd T.doc T.pm T.ctv) ["self", pn] (spIni T.C 1 fun ws => [(fl, ws.getD 0 .non), ("word", .str wd)]) := by
  refine init_fn (i := 0) (j := 2) (N := ["self", pn, "__class__"]) EB T.T S (fun vs H Q E h => ?_) (by rw [T.har]; rfl) rfl hbd (fun vs H Q E h => ?_) (fun A outer s H vs Q E hr h => ?_) he hint hsw
  · obtain ⟨a, ws, rfl, hn, _⟩ := h
    show ws.length + 1 = 2
    omega
  · obtain ⟨a, ws, rfl, hn, ha, _⟩ := h
    match ws, hn with
    | [v], _ => exact ⟨a, rfl, rfl, ha⟩
  · obtain ⟨a, ws, rfl, hn, ha, q⟩ := h
    match ws, hn, q with
    | [v], _, q =>
      refine ⟨_, pss_cons (ps_gst EB (pe_var (i := 0) rfl (Or.inl (S.par _ (by simp)))) pe_str (hs1 _)) (pss_one (ps_gst EB (pe_var (i := 0) rfl (Or.inl (S.par _ (by simp)))) (pe_var (i := 1) rfl (Or.inl (S.par _ (by simp))) hn1 hn2) (hs2 _))), ?_⟩
      refine ⟨_, rfl, a, T.C, rfl, T.T.ox, e1, .inl ⟨ha, fun d hd ne => ?_⟩⟩
      have m1 := made1 (f := "word") (y := .str wd) ha hd ne
      exact ⟨_, rfl, _, rfl, a, T.C, rfl, T.T.ox, e2, .inr ⟨d, _, m1.2.2.1, m1.2.2.2.1, by simp, q d _ (made2 m1)⟩⟩
theorem ok_ini0 {wd m : Str} {p0 p1 p2 p3 p4 p5 q0 q1 q2 q3 : Pos} {n1 n2 : Nat} {pl : Addr → Sem Bool} (EB : ErB B newId initId bmB) (T : Er P K mg B newId initId bmB pre st nm qual) (S : NScope ["self", "__class__"] ["self"] ["__class__"] (defScope st))
    (hbd : defBody st = [.Expr (.Call (.Attribute (.Call (.Name "super" p0) [] [] p1) "__init__" p2) [.Constant (.str m) n1 p3] [] p4) p5, .Assign [.Attribute (.Name "self" q0) "word" q1] (.Constant (.str wd) n2 q2) q3])
    (e1 : PySem.W.findIn K (.ref T.C) "word" = some none)
    (he : ∀ L, eval (.Call (.Attribute (.Call (.Name "super" p0) [] [] p1) "__init__" p2) [.Constant (.str m) n1 p3] [] p4) (envF (NFI st qual T.cc T.c) T.f L) = (do
      let ov ← attributeBase (.Call (.Name "super" p0) [] [] p1) "__init__" (envF (NFI st qual T.cc T.c) T.f L) (eval (.Call (.Name "super" p0) [] [] p1) (envF (NFI st qual T.cc T.c) T.f L))
      standAt p2.atName
      let (g, first) ← holding [ov] (getMethod ov "__init__" (pl L))
      callWith p4 g first (backTo p4 (starEach [.Constant (.str m) n1 p3] (envF (NFI st qual T.cc T.c) T.f L))) []) := by intro _; rfl)
    (hint : ∀ L, interactive (envF (NFI st qual T.cc T.c) T.f L) = false := by intro _; rfl)
    (hsw : ∀ L, swapsWith (.Call (.Attribute (.Call (.Name "super" p0) [] [] p1) "__init__" p2) [.Constant (.str m) n1 p3] [] p4) none p5.line (envF (NFI st qual T.cc T.c) T.f L) = pure false := by intro _; rfl)
    (hs1 : ∀ L, swapsWith (.Constant (.str wd) n2 q2) (some (.Attribute (.Name "self" q0) "word" q1)) q3.line (envF (NFI st qual T.cc T.c) T.f L) = pure false := by intro _; rfl) :
    FnOk P w K mg base CX0 1 T.f ((NFI st qual T.cc T.c).fd T.doc T.pm T.ctv) ["self"] (spIni T.C 0 fun _ => [("word", .str wd)]) := by
  refine init_fn (i := 0) (j := 1) (N := ["self", "__class__"]) EB T.T S (fun vs H Q E h => ?_) (by rw [T.har]; rfl) rfl hbd (fun vs H Q E h => ?_) (fun A outer s H vs Q E hr h => ?_) he hint hsw
  · obtain ⟨a, ws, rfl, hn, _⟩ := h
    show ws.length + 1 = 1
    omega
  · obtain ⟨a, ws, rfl, hn, ha, _⟩ := h
    match ws, hn with
    | [], _ => exact ⟨a, rfl, rfl, ha⟩
  · obtain ⟨a, ws, rfl, hn, ha, q⟩ := h
    match ws, hn, q with
    | [], _, q =>
      refine ⟨_, pss_one (ps_gst EB (pe_var (i := 0) rfl (Or.inl (S.par _ (by simp)))) pe_str (hs1 _)), ?_⟩
      refine ⟨_, rfl, a, T.C, rfl, T.T.ox, e1, .inl ⟨ha, fun d hd ne => ?_⟩⟩
      exact q d _ (made1 (f := "word") (y := .str wd) ha hd ne)
/-! ### isinstance between own errors -/
theorem Er.cl (T : Er P K mg B newId initId bmB pre st nm qual) : ∃ cd : ClassData, PySem.W.clsIn K T.C = some cd ∧ cd.name = nm ∧ cd.mro = .ref T.C :: (pre ++ bmB) := by
  obtain ⟨q, N, bs, sn, sub, ab, col, dd, k0, k1, k2, k3, k5, h⟩ := T.lk
  exact ⟨{ name := nm, bases := bs, mro := .ref T.C :: (pre ++ bmB), ns := N, qualname := q, hasDict := true, slotNames := sn, subclasses := sub, abstract := ab, collection := col, hasDel := false }, by unfold PySem.W.clsIn; rw [h] <;> rfl, rfl, rfl⟩
theorem kit_ref {C D : Addr} {l : List Value} {cd cd' : ClassData} (hC : PySem.W.clsIn K C = some cd) (hm : cd.mro = .ref C :: l) (hD : PySem.W.clsIn K D = some cd') (hT : PySem.W.typeIn K (.ref D) = some (.type "type")) :
    PySem.W.kitOne K (.ref C) (.ref D) = some ((Value.ref C :: l).contains (.ref D)) := by
  unfold PySem.W.kitOne
  split
  · rename_i h
    rw [List.contains_cons, show (Value.ref D == Value.ref C) = true by rw [eq_of_beq h]; exact beq_self_eq_true _]
    rfl
  · unfold PySem.W.kitCls
    dsimp only
    rw [hD, hT, if_pos (show ((some cd').isSome && some (Value.type "type") == some (Value.type "type")) = true from show (true && some (Value.type "type") == some (Value.type "type")) = true by decide +kernel)]
    show PySem.W.mroIn K C (.ref D) = _
    unfold PySem.W.mroIn
    rw [hC, Option.bind_some, hm]
    rfl
theorem kit_typ {C : Addr} {T : String} {l : List Value} {cd : ClassData} (hC : PySem.W.clsIn K C = some cd) (hm : cd.mro = .ref C :: l) (hT : PySem.W.kitMeta T = true) :
    PySem.W.kitOne K (.ref C) (.type T) = some ((Value.ref C :: l).contains (.type T)) := by
  unfold PySem.W.kitOne
  rw [if_neg (by intro h; cases eq_of_beq h)]
  unfold PySem.W.kitCls
  dsimp only
  rw [if_pos hT]
  show PySem.W.mroIn K C (.type T) = _
  unfold PySem.W.mroIn
  rw [hC, Option.bind_some, hm]
  rfl
theorem cls_ne {C D : Addr} {c d : ClassData} (hC : PySem.W.clsIn K C = some c) (hD : PySem.W.clsIn K D = some d) (hn : c.name ≠ d.name) : C ≠ D := by
  intro e
  subst e
  rw [hC] at hD
  cases hD
  exact hn rfl
end
section
variable {P : Program} {K : PySem.W.Frag} {h : Heap} {mg : Str → Option Value} {B newId initId : String} {bmB pre : List Value} {st : Stmt} {nm qual : Str}
theorem mro_at {C : Addr} {q : Str} {N : Addr} {bs : List Value} {sn : List Str} {sub : List Value} {ab : Bool} {col : Option Bool} {dd : Option Addr} {k0 k1 k2 k3 k5 : Option Value} (lC : K.lookup C = some (excClassObj nm q C N bs (pre ++ bmB) true sn sub ab col dd k0 k1 k2 k3 k5 newId)) (v : Value) :
    PySem.W.mroIn K C v = some ((Value.ref C :: (pre ++ bmB)).contains v) := by
  have hcl : PySem.W.clsIn K C = some { name := nm, bases := bs, mro := .ref C :: (pre ++ bmB), ns := N, qualname := q, hasDict := true, slotNames := sn, subclasses := sub, abstract := ab, collection := col, hasDel := false } := by unfold PySem.W.clsIn; rw [lC] <;> rfl
  unfold PySem.W.mroIn
  rw [hcl, Option.bind_some]
  rfl
theorem mro_ty {C : Addr} {X : String} (ht : PySem.W.excTail bmB (pre ++ bmB) = true) (hx : bmB.contains (.type X) = true) : (Value.ref C :: (pre ++ bmB)).contains (.type X) = true := by
  rw [List.contains_cons, PySem.W.excTail_contains X _ ht, hx, Bool.or_true]
theorem ov_at {C : Addr} {q : Str} {N : Addr} {bs : List Value} {sn : List Str} {sub : List Value} {ab : Bool} {col : Option Bool} {dd : Option Addr} {k0 k1 k2 k3 k5 : Option Value} (lC : K.lookup C = some (excClassObj nm q C N bs (pre ++ bmB) true sn sub ab col dd k0 k1 k2 k3 k5 newId)) (ht : PySem.W.excTail bmB (pre ++ bmB) = true) : PySem.W.excOver K C bmB = true := by
  have hcl : PySem.W.clsIn K C = some { name := nm, bases := bs, mro := .ref C :: (pre ++ bmB), ns := N, qualname := q, hasDict := true, slotNames := sn, subclasses := sub, abstract := ab, collection := col, hasDel := false } := by unfold PySem.W.clsIn; rw [lC] <;> rfl
  unfold PySem.W.excOver
  rw [hcl]
  show (C == C && PySem.W.excTail bmB (pre ++ bmB)) = true
  rw [beq_self_eq_true, ht]
  rfl
@[reducible] def er_mk (X : K.In h) (G : h.Ns mainGlobals mg) {C f c cc : Addr} {od cld cdd : Option Addr} {sl csl ccs : Array (Option Value)} {doc pm ctv clc ccl : Value} {vs : Array Value} {file : Str} {tf : Tok} {ar : Arg}
    {q : Str} {N : Addr} {bs : List Value} {sn : List Str} {sub : List Value} {ab : Bool} {col : Option Bool} {dd : Option Addr} {k0 k1 k2 k3 k5 : Option Value}
    (op : PySem.W.nsIn K cStatics "thirdparty.any" = some none) (no : PySem.W.nsIn K mainGlobals "super" = some none)
    (h1 : bmB.contains (.type "BaseException") = true) (h2 : bmB.contains (.type B) = true) (h3 : bmB.contains (.type "object") = true)
    (ht : PySem.W.excTail bmB (pre ++ bmB) = true)
    (hh : ((defArgs st).posonlyargs ++ (defArgs st).args).head? = some ar) (har : ar.arg = "self")
    (ks : (defScope st).names.lookup ("super" : Str) = some .globalImplicit) (kc : (defScope st).names.lookup ("__class__" : Str) = some .free) (ka : (defScope st).names.lookup ar.arg = some .local)
    (top : (P.main.scope.names.lookup ("super" : Str)).isSome = false)
    (aC : PySem.W.nsIn K mainGlobals nm = some (some (.ref C)))
    (lC : K.lookup C = some (excClassObj nm q C N bs (pre ++ bmB) true sn sub ab col dd k0 k1 k2 k3 k5 newId))
    (aI : PySem.W.findIn K (.ref C) "__init__" = some (some (.ref f)))
    (lI : K.lookup f = some ⟨.type "function", od, .func (PySem.W.fnX "__init__" qual (defArgs st) (defBody st) (defScope st) [(("__class__" : Str), cc)] .none .none doc pm none (.ref c) ctv), sl⟩)
    (cI : PySem.W.codeIn K (.ref c) qual = true)
    (lc : K.lookup cc = some ⟨clc, cld, .cell (some (.ref C)), csl⟩)
    (lco : K.lookup c = some ⟨ccl, cdd, .fields vs, ccs⟩)
    (sa : PySem.W.findIn K (.ref C) "__setattr__" = some (some (.builtin "object.__setattr__")))
    (ga : PySem.W.findIn K (.ref C) "__getattribute__" = some (some (.builtin "BaseException.__getattribute__")))
    (gt : PySem.W.findIn K (.ref C) "__getattr__" = some none)
    (kp : PySem.W.keepIn K (.ref C) = true)
    (cl : PySem.W.findIn K (.ref C) "__class__" = some (some (.builtin "object.__class__")))
    (su : PySem.W.ks_superIn K C C "__init__" = some (some (.builtin initId)))
    (hvs : vs[2]? = some (.str file tf)) (hfile : ((P.main.file : Str) == file) = true) : Er P K mg B newId initId bmB pre st nm qual where
  C := C
  f := f
  cc := cc
  c := c
  ar := ar
  doc := doc
  pm := pm
  ctv := ctv
  T := {
    lk := ⟨od, sl, lI⟩
    cd := cI
    cl := ⟨cc, _, rfl, lc, rfl⟩
    hd := hh
    fl := ⟨_, vs, file, tf, lco, rfl, hvs, hfile⟩
    ks := ks
    kc := kc
    ka := ka
    top := top
    no := PySem.W.mg_none_of X G no
    op := op
    ox := {
      cls := ⟨nm, q, N, bs, pre ++ bmB, sn, sub, ab, col, dd, k0, k1, k2, k3, k5, lC, ht⟩
      ov := ov_at lC ht
      sa := sa
      ga := ga
      gt := gt
      ex := (mro_at lC _).trans (congrArg some (mro_ty ht h1))
      ty := congrArg (Option.map fun o : Obj => o.cls) lC
      kp := kp
      cl := cl
      ob := (mro_at lC _).trans (congrArg some (mro_ty ht h3)) }
    su := su
    sb := (mro_at lC _).trans (congrArg some (mro_ty ht h2))
    mr := (mro_at lC _).trans (by rw [List.contains_cons, beq_self_eq_true, Bool.true_or]) }
  iC := aI
  tI := congrArg (Option.map fun o : Obj => o.cls) lI
  g := PySem.W.mg_of X G aC
  har := har
  lk := ⟨q, N, bs, sn, sub, ab, col, dd, k0, k1, k2, k3, k5, lC⟩
/-- an own error and the fields that its class lacks -/
structure ErW (P : Program) (K : PySem.W.Frag) (mg : Str → Option Value) (B newId initId : String) (bmB pre : List Value) (st : Stmt) (nm qual : Str) (fl : List Str) where
  e : Er P K mg B newId initId bmB pre st nm qual
  no : ∀ x ∈ fl, PySem.W.findIn K (.ref e.C) x = some none
def erw1 (X : K.In h) (G : h.Ns mainGlobals mg) {C f c cc : Addr} {od cld cdd : Option Addr} {sl csl ccs : Array (Option Value)} {doc pm ctv clc ccl : Value} {vs : Array Value} {file : Str} {tf : Tok} {ar : Arg}
    {q : Str} {N : Addr} {bs : List Value} {sn : List Str} {sub : List Value} {ab : Bool} {col : Option Bool} {dd : Option Addr} {k0 k1 k2 k3 k5 : Option Value}
    (op : PySem.W.nsIn K cStatics "thirdparty.any" = some none) (no : PySem.W.nsIn K mainGlobals "super" = some none)
    (h1 : bmB.contains (.type "BaseException") = true) (h2 : bmB.contains (.type B) = true) (h3 : bmB.contains (.type "object") = true)
    (ht : PySem.W.excTail bmB (pre ++ bmB) = true)
    (hh : ((defArgs st).posonlyargs ++ (defArgs st).args).head? = some ar) (har : ar.arg = "self")
    (ks : (defScope st).names.lookup ("super" : Str) = some .globalImplicit) (kc : (defScope st).names.lookup ("__class__" : Str) = some .free) (ka : (defScope st).names.lookup ar.arg = some .local)
    (top : (P.main.scope.names.lookup ("super" : Str)).isSome = false)
    (aC : PySem.W.nsIn K mainGlobals nm = some (some (.ref C)))
    (lC : K.lookup C = some (excClassObj nm q C N bs (pre ++ bmB) true sn sub ab col dd k0 k1 k2 k3 k5 newId))
    (aI : PySem.W.findIn K (.ref C) "__init__" = some (some (.ref f)))
    (lI : K.lookup f = some ⟨.type "function", od, .func (PySem.W.fnX "__init__" qual (defArgs st) (defBody st) (defScope st) [(("__class__" : Str), cc)] .none .none doc pm none (.ref c) ctv), sl⟩)
    (cI : PySem.W.codeIn K (.ref c) qual = true)
    (lc : K.lookup cc = some ⟨clc, cld, .cell (some (.ref C)), csl⟩)
    (lco : K.lookup c = some ⟨ccl, cdd, .fields vs, ccs⟩)
    (sa : PySem.W.findIn K (.ref C) "__setattr__" = some (some (.builtin "object.__setattr__")))
    (ga : PySem.W.findIn K (.ref C) "__getattribute__" = some (some (.builtin "BaseException.__getattribute__")))
    (gt : PySem.W.findIn K (.ref C) "__getattr__" = some none)
    (kp : PySem.W.keepIn K (.ref C) = true)
    (cl : PySem.W.findIn K (.ref C) "__class__" = some (some (.builtin "object.__class__")))
    (su : PySem.W.ks_superIn K C C "__init__" = some (some (.builtin initId)))
    (hvs : vs[2]? = some (.str file tf)) (hfile : ((P.main.file : Str) == file) = true) {f1 : Str} (x1 : PySem.W.findIn K (.ref C) f1 = some none) : ErW P K mg B newId initId bmB pre st nm qual [f1] :=
  ⟨er_mk (C := C) X G op no h1 h2 h3 ht hh har ks kc ka top aC lC aI lI cI lc lco sa ga gt kp cl su hvs hfile, fun x hx => by
    rcases List.mem_cons.mp hx with rfl | e
    · exact x1
    · cases e⟩
def erw2 (X : K.In h) (G : h.Ns mainGlobals mg) {C f c cc : Addr} {od cld cdd : Option Addr} {sl csl ccs : Array (Option Value)} {doc pm ctv clc ccl : Value} {vs : Array Value} {file : Str} {tf : Tok} {ar : Arg}
    {q : Str} {N : Addr} {bs : List Value} {sn : List Str} {sub : List Value} {ab : Bool} {col : Option Bool} {dd : Option Addr} {k0 k1 k2 k3 k5 : Option Value}
    (op : PySem.W.nsIn K cStatics "thirdparty.any" = some none) (no : PySem.W.nsIn K mainGlobals "super" = some none)
    (h1 : bmB.contains (.type "BaseException") = true) (h2 : bmB.contains (.type B) = true) (h3 : bmB.contains (.type "object") = true)
    (ht : PySem.W.excTail bmB (pre ++ bmB) = true)
    (hh : ((defArgs st).posonlyargs ++ (defArgs st).args).head? = some ar) (har : ar.arg = "self")
    (ks : (defScope st).names.lookup ("super" : Str) = some .globalImplicit) (kc : (defScope st).names.lookup ("__class__" : Str) = some .free) (ka : (defScope st).names.lookup ar.arg = some .local)
    (top : (P.main.scope.names.lookup ("super" : Str)).isSome = false)
    (aC : PySem.W.nsIn K mainGlobals nm = some (some (.ref C)))
    (lC : K.lookup C = some (excClassObj nm q C N bs (pre ++ bmB) true sn sub ab col dd k0 k1 k2 k3 k5 newId))
    (aI : PySem.W.findIn K (.ref C) "__init__" = some (some (.ref f)))
    (lI : K.lookup f = some ⟨.type "function", od, .func (PySem.W.fnX "__init__" qual (defArgs st) (defBody st) (defScope st) [(("__class__" : Str), cc)] .none .none doc pm none (.ref c) ctv), sl⟩)
    (cI : PySem.W.codeIn K (.ref c) qual = true)
    (lc : K.lookup cc = some ⟨clc, cld, .cell (some (.ref C)), csl⟩)
    (lco : K.lookup c = some ⟨ccl, cdd, .fields vs, ccs⟩)
    (sa : PySem.W.findIn K (.ref C) "__setattr__" = some (some (.builtin "object.__setattr__")))
    (ga : PySem.W.findIn K (.ref C) "__getattribute__" = some (some (.builtin "BaseException.__getattribute__")))
    (gt : PySem.W.findIn K (.ref C) "__getattr__" = some none)
    (kp : PySem.W.keepIn K (.ref C) = true)
    (cl : PySem.W.findIn K (.ref C) "__class__" = some (some (.builtin "object.__class__")))
    (su : PySem.W.ks_superIn K C C "__init__" = some (some (.builtin initId)))
    (hvs : vs[2]? = some (.str file tf)) (hfile : ((P.main.file : Str) == file) = true) {f1 f2 : Str} (x1 : PySem.W.findIn K (.ref C) f1 = some none) (x2 : PySem.W.findIn K (.ref C) f2 = some none) : ErW P K mg B newId initId bmB pre st nm qual [f1, f2] :=
  ⟨er_mk (C := C) X G op no h1 h2 h3 ht hh har ks kc ka top aC lC aI lI cI lc lco sa ga gt kp cl su hvs hfile, fun x hx => by
    rcases List.mem_cons.mp hx with rfl | e
    · exact x1
    · rcases List.mem_cons.mp e with rfl | e
      · exact x2
      · cases e⟩
end
/-! ### raise of an own error -/
section
variable {P : Program} {K : PySem.W.Frag} {mg : Str → Option Value} {G : Addr} {st : Stmt} {nm qual : Str}
theorem oex_of (T : Er P K mg "ValueError" "ValueError.__new__" "ValueError.__init__" [.type "ValueError", .type "Exception", .type "BaseException", .type "object"] [.ref G] st nm qual) : OexC K T.C := by
  obtain ⟨q, N, bs, sn, sub, ab, col, dd, k0, k1, k2, k3, k5, lk⟩ := T.lk
  exact ⟨⟨nm, q, N, bs, _, sn, sub, ab, col, dd, k0, k1, k2, k3, k5, lk, rfl⟩, T.T.ox.sa, T.T.ox.ex, T.T.ox.ty, T.T.ox.kp⟩
theorem xfc_of {B newId initId : String} {bmB pre : List Value} (T : Er P K mg B newId initId bmB pre st nm qual) : XfC K T.C := ⟨T.T.ox.ga, T.T.ox.gt, T.T.ox.ex, T.T.ox.has.1⟩
/-- what the making of an error asks, ahead of its raise -/
theorem mk_use {H1 : Hp} {C : Addr} {n : Nat} {fF : List V → List (Str × V)} {vs : List V} {R : Value → Option Addr → Hp → Prop} (hn : vs.length = n) (h0 : n ≤ 1000) (k : ∀ d Hf, H1 d = none → Same H1 Hf → Hf d = some (.xd (fF vs)) → R (.ref C) (some d) Hf) :
    vs.length ≤ 1000 ∧ ∀ a, H1 a = none → spIni C n fF (.ref a :: (vs ++ [])) (upd H1 a (exo a C none)) (fun v H2 => v = .non ∧ ∃ (d : Addr) (fs : List (Str × V)), H2 a = some (exo a C (some d)) ∧ H2 d = some (exd d fs) ∧ H1 d = none ∧ R (.ref C) (some d) (upd (del H2 a) d (.xd fs))) (fun _ _ _ => False) := by
  refine ⟨by omega, fun a na => ?_⟩
  rw [List.append_nil]
  refine ⟨a, vs, rfl, hn, upd_same, fun d H2 M => ?_⟩
  obtain ⟨m1, m2, m3, m4, m5⟩ := M
  have hd : H1 d = none := by
    rw [upd_ne m2] at m1
    exact m1
  refine ⟨rfl, d, _, m3, m4, hd, k d _ hd (fun b o z => ?_) upd_same⟩
  have hb : b ≠ a := ne_of_none z na
  rw [upd_ne (ne_of_none z hd), del_ne hb]
  exact m5 b o hb ((upd_ne hb).trans z)
end
/-! ### raise of an own error that takes no arguments
By the statements of call_own, FnOk.run and mk_end; the first two are met in the order in which the model makes an object, as in every rule of this kind. -/
section
variable {X : Cx} {pins : List (Addr × Obj)} {σ : L2.St} {H : Hp} {s : Shared} {C : Addr}
/-- an error just made, with nothing in it -/
def bare (C : Addr) (h : Heap) : Heap := (h.push (PySem.W.kdv_tup [])).push (PySem.HandSPX.excO C h.objs.size)
theorem bare_keeps {h : Heap} : ∀ b o, h.get? b = some o → (bare C h).get? b = some o := by
  intro b o z
  unfold bare
  apply Heap.get?_push_of_some
  apply Heap.get?_push_of_some
  exact z
theorem bare_at {h : Heap} : (bare C h).get? (h.objs.size + 1) = some (PySem.HandSPX.excO C h.objs.size) := by
  have z := Heap.get?_push_size (h.push (PySem.W.kdv_tup [])) (o := PySem.HandSPX.excO C h.objs.size) rfl
  rwa [Heap.size_push] at z
theorem bare_inv (I : Inv X pins σ H s) : Inv X pins σ (upd H (s.heap.objs.size + 1) (exo (s.heap.objs.size + 1) C none)) { s with heap := bare C s.heap } := by
  have ok : ObjOk X.prog X.w (upd H (s.heap.objs.size + 1) (exo (s.heap.objs.size + 1) C none)) (bare C s.heap) (s.heap.objs.size + 1) (exo (s.heap.objs.size + 1) C none) := exo_ok bare_at
  exact I.laid (t' := s.toks) bare_keeps (Nat.le_succ _) ok
/-- what is told of the raise: a table of fields at a new place, the rest as before -/
def ToldE (C : Addr) (fs : List (Str × V)) : L2.St → Hp → XK → Prop := fun _ H Q => ∀ d G, H d = none → Same H G → G d = some (.xd fs) → Q (.ref C) (some d) G
theorem told_end {fs : List (Str × V)} {Q : XK} {a d : Addr} {G : Hp} (na : H a = none) (q : ToldE C fs σ H Q) (m : Made (upd H a (exo a C none)) G a C d fs) : H d = none ∧ Q (.ref C) (some d) (upd (del G a) d (.xd fs)) := by
  have free : H d = none := (upd_ne m.2.1).symm.trans m.1
  refine ⟨free, q d _ free ?_ upd_same⟩
  intro b o z
  have nb := ne_of_none z na
  calc (upd (del G a) d (.xd fs)) b = del G a b := upd_ne (ne_of_none z free)
    _ = G b := del_ne nb
    _ = some o := m.2.2.2.2 b o nb ((upd_ne nb).trans z)
theorem pmkE0 {B newId initId : String} {bmB : List Value} {CX : CXT} {x : Str} {fI : Addr} {k : Nat} {fd : FuncData} {ps : List Str} {fF : List V → List (Str × V)} {p pos : Pos} (E : ErB B newId initId bmB) (T : ErC X.K C newId bmB)
    (iC : PySem.W.findIn X.K (.ref C) "__init__" = some (some (.ref fI))) (tI : PySem.W.typeIn X.K (.ref fI) = some (.type "function")) (ini : FnOk X.prog X.w X.K X.mg X.base CX k fI fd ps (spIni C 0 fF)) (room : Room (k + 1) X.A)
    (binds : Binds X.K fd ps []) (none : Vals [] []) (never : Passes CX X (fun _ _ _ => False)) (gl : Gl X x) (named : X.mg x = some (.ref C)) (plain : (x == ("__debug__" : Str)) = false := by decide) : PMk X (.Call (.Name x p) [] [] pos) (ToldE C (fF [])) := by
  intro pins s σ H Q I q
  apply wpAny_Call_Name_kw
  refine ld_glob I gl named ?_ plain
  refine PySem.W.callWith_K0 I.kIn T.kp (wpAny_call ?_)
  have J := bare_inv (C := C) I
  have na : H (s.heap.objs.size + 1) = .none := I.hok.fresh (Nat.le_succ _)
  -- the initializer, at the bare error
  have asked : spIni C 0 fF [.ref (s.heap.objs.size + 1)] (upd H (s.heap.objs.size + 1) (exo (s.heap.objs.size + 1) C .none)) (fun v G => v = .non ∧ ∃ d, Made (upd H (s.heap.objs.size + 1) (exo (s.heap.objs.size + 1) C .none)) G (s.heap.objs.size + 1) C d (fF [])) (fun _ _ _ => False) := ⟨_, [], rfl, rfl, upd_same, fun d G m => ⟨rfl, d, m⟩⟩
  have one : Vals [V.ref (s.heap.objs.size + 1)] [Value.ref (s.heap.objs.size + 1)] := .cons rfl .nil
  have count : ([Value.ref (s.heap.objs.size + 1)] ++ []).length = ps.length := (ini.len _ _ _ _ asked)
  have ran := ini.run _ X.stack _ _ ⟨[.ref (s.heap.objs.size + 1)], []⟩ _ _ _ _ (room.make C [] []) (J.env0.make C [] []) (binds _ [.ref (s.heap.objs.size + 1)] J.kIn count) one asked
  obtain ⟨_, _, _, _, bm, _, _, _, _, _, _, _, _, _, _, hC, hbm⟩ := T.cls
  refine PySem.HandSPX.call_own (rest := []) E.fb (fun Y => PySem.W.excTail_contains Y bm hbm) (I.kIn _ _ hC) (PySem.W.looks_findIn I.kIn iC) (fun self => PySem.W.bind_fn I.kIn self tI) (Nat.zero_le _) (codeAny_mono ran ?_)
  intro r s' back
  cases r with
  | error er => exact never pins σ _ _ er s' J back
  | ok f =>
    cases f with
    | ret u =>
      obtain ⟨v, G, os', bare', un, hok, rv, rfl, d, m⟩ := back
      obtain ⟨free, q'⟩ := told_end na q m
      exact ⟨rv, mk_end (raises_own T.ex T.ty) I (Nat.le_succ _) bare_keeps un hok os' bare' m.2.2.1 m.2.2.2.1 free q'⟩
    | _ => exact back.elim
end
theorem sq_nn (x : Int) : 0 ≤ x * x := by
  rcases Int.le_total 0 x with h | h
  · exact Int.mul_nonneg h h
  · exact Int.mul_nonneg_of_nonpos_of_nonpos h h
theorem sq_le {x y : Int} (h0 : 0 ≤ x) (h : x ≤ y) : x * x ≤ y * y := Int.mul_le_mul h h h0 (Int.le_trans h0 h)
theorem sq_lt {x y : Int} (h0 : 0 ≤ x) (h : x < y) : x * x < y * y := by
  have h1 : (x + 1) * (x + 1) ≤ y * y := sq_le (by omega) (by omega)
  grind
theorem lt_of_sq {x y : Int} (h0 : 0 ≤ y) (h : x * x < y * y) : x < y := by
  rcases Int.lt_or_le x y with z | z
  · exact z
  · have := sq_le h0 z
    omega
theorem le_of_sq {x y : Int} (h0 : 0 ≤ y) (h : x * x ≤ y * y) : x ≤ y := by
  rcases Int.lt_or_le y x with z | z
  · have := sq_lt h0 z
    omega
  · exact z
/-- Newton's step from above -/
theorem newton_up {g n : Int} (hg : 0 < g) (hn : 0 ≤ n) : n < ((g + n / g) / 2 + 1) * ((g + n / g) / 2 + 1) := by
  have hq : 0 ≤ n / g := Int.ediv_nonneg hn (by omega)
  have h1 : n < g * (n / g + 1) := by
    have := Int.lt_ediv_add_one_mul_self n hg
    grind
  generalize n / g = q at hq h1 ⊢
  have h2 : g + q + 1 ≤ 2 * ((g + q) / 2 + 1) := by omega
  generalize (g + q) / 2 = r at h2 ⊢
  have h3 := sq_nn (g - (q + 1))
  have h4 := sq_le (show 0 ≤ g + q + 1 by omega) h2
  grind
theorem newton_dn {g n : Int} (hg : 0 < g) (h : n < g * g) : (g + n / g) / 2 < g := by
  have h1 : n / g < g := Int.ediv_lt_of_lt_mul hg h
  omega
theorem newton_nn {g n : Int} (hg : 0 < g) (hn : 0 ≤ n) : 0 ≤ (g + n / g) / 2 := by
  have hq : 0 ≤ n / g := Int.ediv_nonneg hn (by omega)
  omega
/-- no root times a square is a square -/
theorem no_square {d k : Int} (hk : 0 ≤ k) (h1 : k * k < d) (h2 : d < (k + 1) * (k + 1)) : ∀ (n : Nat) (b w : Int), 0 < b → 0 ≤ w → b.toNat ≤ n → w * w ≠ d * b * b
  | 0, b, w, hb, _, hn => by omega
  | n + 1, b, w, hb, hw, hn => fun e => by
    have hbb : 0 < b * b := Int.mul_pos hb hb
    have l1 : (k * b) * (k * b) < w * w := by
      have := Int.mul_lt_mul_of_pos_right h1 hbb
      grind
    have l2 : w * w < ((k + 1) * b) * ((k + 1) * b) := by
      have := Int.mul_lt_mul_of_pos_right h2 hbb
      grind
    have m1 : k * b < w := lt_of_sq hw l1
    have m2 : w < (k + 1) * b := lt_of_sq (Int.mul_nonneg (by omega) (by omega)) l2
    have m3 : w - k * b < b := by grind
    refine no_square hk h1 h2 n (w - k * b) (d * b - k * w) (by omega) ?_ (by omega) (by grind)
    have : (k * w) * b ≤ (d * b) * b := by
      have z := Int.mul_le_mul_of_nonneg_right (Int.le_of_lt m1) hw
      grind
    have z : k * w ≤ d * b := Int.le_of_mul_le_mul_right this hb
    omega
/-! ### defs with defaults, methods by keywords -/
inductive Dflt (K : PySem.W.Frag) (r : Addr) : Prop
  | mk {y1 y2 : Addr} {d e f : Option Addr} {m n o : Nat} {s t u : Array (Option Value)} {v w x y : Tok} (a : K.lookup r = some ⟨.type "tuple", d, .seq #[.ref y1, .ref y2] m, s⟩)
      (b : K.lookup y1 = some ⟨.type "tuple", e, .seq #[.int 0 v, .int 0 w] n, t⟩) (c : K.lookup y2 = some ⟨.type "tuple", f, .seq #[.int 0 x, .int 0 y] o, u⟩) : Dflt K r
section
variable {K : PySem.W.Frag} {f T D : Addr} {oc tc u : Value} {od td : Option Addr} {fd : FuncData} {sl ts : Array (Option Value)} {tn : Nat} {its : Array Value} {ps : List Str} {x : Str}
theorem bd_given (l : K.lookup f = some ⟨oc, od, .func fd, sl⟩) (t : K.lookup T = some ⟨tc, td, .seq its tn, ts⟩) (h : ∀ us : List Value, us.length = ps.length → ∃ k, bindArgs fd ⟨us, []⟩ = seqItems? (.ref T) >>= k ∧ k (some its) = pure (ps.zip us)) : Binds K fd ps [] := fun s us X hl => by
  rw [List.append_nil] at hl ⊢
  obtain ⟨k, e1, e2⟩ := h us hl
  refine BindsTo.of_looks fun M => ?_
  rw [e1]
  exact looks_items X t rfl (.of_pure e2)
theorem bd_dflt {v : Value} (l : K.lookup f = some ⟨oc, od, .func fd, sl⟩) (t : K.lookup T = some ⟨tc, td, .seq #[v] tn, ts⟩) (h : ∀ us : List Value, us.length + 1 = ps.length → ∃ k, bindArgs fd ⟨us, []⟩ = seqItems? (.ref T) >>= k ∧ k (some #[v]) = pure (ps.zip (us ++ [v]))) : Binds K fd ps [v] := fun s us X hl => by
  rw [List.length_append] at hl
  obtain ⟨k, e1, e2⟩ := h us hl
  refine BindsTo.of_looks fun M => ?_
  rw [e1]
  exact looks_items X t rfl (.of_pure e2)
theorem bd_kw (l : K.lookup f = some ⟨oc, od, .func fd, sl⟩) (kd : PySem.W.nsIn K D x = some (some u)) (h : ∀ us : List Value, us.length + 1 = ps.length → KwChain D [(x, u)] (bindArgs fd ⟨us, []⟩) (ps.zip (us ++ [u]))) : Binds K fd ps [u] := fun s us X hl => by
  rw [List.length_append] at hl
  refine BindsTo.of_looks fun M => ?_
  refine KwChain.looks X ?_ (h us hl)
  intro q hq
  rcases List.mem_cons.mp hq with e | e
  · rw [e]
    exact kd
  · cases e
end
section
variable {X : Cx} {CX : CXT} {k : Nat} {f C : Addr} {fd : FuncData} {ps ks : List Str} {sp : Sp} {E : XK} {m : Str} {pos apos : Pos} {o : Expr} {kws : List Keyword} {ta : TE} {tk : TA}
theorem pe_methK0 {pl : Sem Bool} {g : List Value → List Value → List Value} {gV : List V → List V → List V} (he : PE X o ta) (c : Cls X.K C) (hm : Meth X.K C m f) (F : FnOk X.prog X.w X.K X.mg X.base CX k f fd ps sp) (hr : Room k X.A) (hb : KBn X.K fd ps 1 ks g gV) (hx : Passes CX X E) (hkw : PK X kws tk)
    (hall : (backToKw pos (keywordEach kws X.env)).all (·.1.isSome) = true := by rfl)
    (hks : (backToKw pos (keywordEach kws X.env)).filterMap (·.1) = ks := by rfl)
    (hpl : ((backTo pos (starEach [] X.env)).any (·.1) || (backToKw pos (keywordEach kws X.env)).any (·.1.isNone)) = false := by rfl)
    (ht : eval (.Call (.Attribute o m apos) [] kws pos) X.env = (do
      let ov ← eval o X.env
      standAt apos.atName
      let (f, first) ← holding [ov] (getMethod ov m pl)
      callWith pos f first (backTo pos (starEach [] X.env)) (backToKw pos (keywordEach kws X.env))) := by rfl) :
    PE X (.Call (.Attribute o m apos) [] kws pos) (fun σ H Q => ta σ H fun x H1 => ∃ a dx fs, x = .ref a ∧ H1 a = some (.ins C dx fs) ∧ fs.lookup m = none ∧ tk σ H1 fun zs H2 => zs.length = ks.length ∧ sp (gV [.ref a] zs) H2 Q E) := by
  refine ⟨fun pins s σ H Q I h => ?_⟩
  refine PySem.W.methodCall_KW (pl := pl) (thn (he.run pins s σ H _ I h) fun u s1 ⟨x, H1, I1, rx, a, dx, fs, ex, ea, l, q⟩ => ?_) ht
  subst ex
  obtain rfl : u = Value.ref a := rx
  refine getmeth_ok I1 ea c hm l ?_
  refine PySem.W.callWith_KW0 (first := [.ref a]) (h₀ := X.base) I.ok.mod.kin hm.kp hall ?_ hpl
  refine thn (hkw.run pos pins s1 σ H1 _ I1 q) fun ws s2 ⟨zs, H2, I2, rz, l2, q2⟩ => ⟨I2.kIn, ?_⟩
  rw [hks]
  exact run_fnN (us := [.ref a]) (vs := [.ref a]) F hr hb hx I2 (.cons rfl .nil) rz rfl l2 q2
end
/-! ### a default that is an empty tuple -/
inductive Dfl0 (K : PySem.W.Frag) (r : Addr) : Prop
  | mk {d : Option Addr} {m : Nat} {s : Array (Option Value)} (a : K.lookup r = some ⟨.type "tuple", d, .seq #[] m, s⟩) : Dfl0 K r
theorem Dfl0.sq {K : PySem.W.Frag} {H : Hp} {r : Addr} (h : Dfl0 K r) : SqT K H r [] := by
  obtain ⟨a⟩ := h
  exact .inr ⟨_, _, _, a, rfl, rfl, Nat.zero_le _, .nil⟩
/-! ### a def with a default and a keyword-only parameter -/
section
variable {K : PySem.W.Frag} {f T D : Addr} {oc tc u : Value} {od td : Option Addr} {fd : FuncData} {sl ts : Array (Option Value)} {tn : Nat} {its : Array Value} {ps : List Str} {x : Str}
theorem bd_dk {more : List Value} (l : K.lookup f = some ⟨oc, od, .func fd, sl⟩) (t : K.lookup T = some ⟨tc, td, .seq its tn, ts⟩) (kd : PySem.W.nsIn K D x = some (some u))
    (h : ∀ us : List Value, us.length + (more.length + 1) = ps.length → ∃ k, bindArgs fd ⟨us, []⟩ = seqItems? (.ref T) >>= k ∧ KwChain D [(x, u)] (k (some its)) (ps.zip (us ++ (more ++ [u])))) : Binds K fd ps (more ++ [u]) := by
  intro s us X hl
  rw [List.length_append, List.length_append, List.length_singleton] at hl
  obtain ⟨k, e1, e2⟩ := h us hl
  refine BindsTo.of_looks fun M => ?_
  rw [e1]
  refine looks_items X t rfl (KwChain.looks X (fun q hq => ?_) e2)
  rw [List.mem_singleton.mp hq]
  exact kd
end
def topS (i : Nat) : Stmt := PySem.Challenge.pw_grainyard_k24_recipes_as_lists.main.body.getD i (.Pass ⟨0, 0, 0, 0⟩)
abbrev s_turned : Stmt := topS 24
theorem sc_turned : FnScope ["sheet", "across", "along"] ["sheet"] (defScope s_turned) := ⟨rfl, rfl, rfl, by decide +kernel, rfl, by decide +kernel, by decide +kernel⟩
abbrev s_is_pair : Stmt := topS 31
theorem sc_is_pair : FnScope ["item"] ["item"] (defScope s_is_pair) := ⟨rfl, rfl, rfl, by decide +kernel, rfl, by decide +kernel, by decide +kernel⟩
abbrev s_is_two_pairs : Stmt := topS 32
theorem sc_is_two_pairs : FnScope ["item"] ["item"] (defScope s_is_two_pairs) := ⟨rfl, rfl, rfl, by decide +kernel, rfl, by decide +kernel, by decide +kernel⟩
abbrev s_fits : Stmt := topS 33
theorem sc_fits : FnScope ["item", "kind", "least"] ["item", "kind"] (defScope s_fits) := ⟨rfl, rfl, rfl, by decide +kernel, rfl, by decide +kernel, by decide +kernel⟩
abbrev s_has_shape : Stmt := topS 34
theorem sc_has_shape : FnScope ["step", "shape", "item", "kind"] ["step"] (defScope s_has_shape) := ⟨rfl, rfl, rfl, by decide +kernel, rfl, by decide +kernel, by decide +kernel⟩
abbrev s_side_of : Stmt := topS 35
theorem sc_side_of : FnScope ["sheet", "side", "across", "along"] ["sheet", "side"] (defScope s_side_of) := ⟨rfl, rfl, rfl, by decide +kernel, rfl, by decide +kernel, by decide +kernel⟩
abbrev s_is_even_split : Stmt := topS 37
theorem sc_is_even_split : FnScope ["step", "word", "sheet", "side", "pieces", "copies", "a", "b"] ["step"] (defScope s_is_even_split) := ⟨rfl, rfl, rfl, by decide +kernel, rfl, by decide +kernel, by decide +kernel⟩
abbrev s_is_even_glue : Stmt := topS 38
theorem sc_is_even_glue : FnScope ["step", "word", "sheet", "second", "side", "copies"] ["step"] (defScope s_is_even_glue) := ⟨rfl, rfl, rfl, by decide +kernel, rfl, by decide +kernel, by decide +kernel⟩
abbrev s_is_step : Stmt := topS 39
theorem sc_is_step : FnScope ["step"] ["step"] (defScope s_is_step) := ⟨rfl, rfl, rfl, by decide +kernel, rfl, by decide +kernel, by decide +kernel⟩
abbrev s_check_steps : Stmt := topS 40
theorem sc_check_steps : FnScope ["steps", "at", "step"] ["steps"] (defScope s_check_steps) := ⟨rfl, rfl, rfl, by decide +kernel, rfl, by decide +kernel, by decide +kernel⟩
abbrev s_is_allowed : Stmt := topS 41
theorem sc_is_allowed : FnScope ["step", "turning"] ["step", "turning"] (defScope s_is_allowed) := ⟨rfl, rfl, rfl, by decide +kernel, rfl, by decide +kernel, by decide +kernel⟩
abbrev s_check_allowed : Stmt := topS 58
theorem sc_check_allowed : FnScope ["steps", "turning", "at", "step"] ["steps", "turning"] (defScope s_check_allowed) := ⟨rfl, rfl, rfl, by decide +kernel, rfl, by decide +kernel, by decide +kernel⟩
abbrev s_Recipe_init : Stmt := inClass (topS 60) 0
theorem sc_Recipe_init : FnScope ["self", "steps", "turning"] ["self", "steps", "turning"] (defScope s_Recipe_init) := ⟨rfl, rfl, rfl, by decide +kernel, rfl, by decide +kernel, by decide +kernel⟩
abbrev s_Recipe_steps : Stmt := inClass (topS 60) 1
theorem sc_Recipe_steps : FnScope ["self"] ["self"] (defScope s_Recipe_steps) := ⟨rfl, rfl, rfl, by decide +kernel, rfl, by decide +kernel, by decide +kernel⟩
abbrev s_Recipe_turning : Stmt := inClass (topS 60) 2
theorem sc_Recipe_turning : FnScope ["self"] ["self"] (defScope s_Recipe_turning) := ⟨rfl, rfl, rfl, by decide +kernel, rfl, by decide +kernel, by decide +kernel⟩
abbrev s_Recipe_eq : Stmt := inClass (topS 60) 7
theorem sc_Recipe_eq : FnScope ["self", "other"] ["self", "other"] (defScope s_Recipe_eq) := ⟨rfl, rfl, rfl, by decide +kernel, rfl, by decide +kernel, by decide +kernel⟩
abbrev s_Recipe_len : Stmt := inClass (topS 60) 8
theorem sc_Recipe_len : FnScope ["self"] ["self"] (defScope s_Recipe_len) := ⟨rfl, rfl, rfl, by decide +kernel, rfl, by decide +kernel, by decide +kernel⟩
abbrev s_Recipe_repr : Stmt := inClass (topS 60) 9
theorem sc_Recipe_repr : FnScope ["self"] ["self"] (defScope s_Recipe_repr) := ⟨rfl, rfl, rfl, by decide +kernel, rfl, by decide +kernel, by decide +kernel⟩
abbrev s_source : Stmt := topS 62
theorem sc_source : FnScope ["_law_script", "_law_mix", "_law_cell"] ["_law_script"] (defScope s_source) := ⟨rfl, rfl, rfl, by decide +kernel, rfl, by decide +kernel, by decide +kernel⟩
abbrev s_pull : Stmt := topS 63
theorem sc_pull : FnScope ["_law_bag", "_law_size", "_law_mix", "_law_cell", "_law_found"] ["_law_bag", "_law_size"] (defScope s_pull) := ⟨rfl, rfl, rfl, by decide +kernel, rfl, by decide +kernel, by decide +kernel⟩
abbrev s_of : Stmt := topS 64
theorem sc_of : FnScope ["_law_bag", "_law_some"] ["_law_bag", "_law_some"] (defScope s_of) := ⟨rfl, rfl, rfl, by decide +kernel, rfl, by decide +kernel, by decide +kernel⟩
abbrev s_roots : Stmt := topS 65
theorem sc_roots : FnScope ["_law_d"] [] (defScope s_roots) := ⟨rfl, rfl, rfl, by decide +kernel, rfl, by decide +kernel, by decide +kernel⟩
abbrev s_a_root : Stmt := topS 66
theorem sc_a_root : FnScope ["_law_bag"] ["_law_bag"] (defScope s_a_root) := ⟨rfl, rfl, rfl, by decide +kernel, rfl, by decide +kernel, by decide +kernel⟩
abbrev s_any_pair : Stmt := topS 67
theorem sc_any_pair : FnScope ["_law_bag", "_law_size"] ["_law_bag"] (defScope s_any_pair) := ⟨rfl, rfl, rfl, by decide +kernel, rfl, by decide +kernel, by decide +kernel⟩
abbrev s_lsign : Stmt := topS 68
theorem sc_lsign : FnScope ["_law_pair", "_law_root", "_law_value"] ["_law_pair", "_law_root"] (defScope s_lsign) := ⟨rfl, rfl, rfl, by decide +kernel, rfl, by decide +kernel, by decide +kernel⟩
abbrev s_a_length : Stmt := topS 69
theorem sc_a_length : FnScope ["_law_bag", "_law_root", "_law_pair"] ["_law_bag", "_law_root"] (defScope s_a_length) := ⟨rfl, rfl, rfl, by decide +kernel, rfl, by decide +kernel, by decide +kernel⟩
abbrev s_a_sheet : Stmt := topS 70
theorem sc_a_sheet : FnScope ["_law_bag", "_law_root", "_law_one"] ["_law_bag", "_law_root"] (defScope s_a_sheet) := ⟨rfl, rfl, rfl, by decide +kernel, rfl, by decide +kernel, by decide +kernel⟩
abbrev s_lscaled : Stmt := topS 71
theorem sc_lscaled : FnScope ["_law_pair", "_law_number"] ["_law_pair", "_law_number"] (defScope s_lscaled) := ⟨rfl, rfl, rfl, by decide +kernel, rfl, by decide +kernel, by decide +kernel⟩
abbrev s_lside_of : Stmt := topS 72
theorem sc_lside_of : FnScope ["_law_sheet", "_law_side"] ["_law_sheet", "_law_side"] (defScope s_lside_of) := ⟨rfl, rfl, rfl, by decide +kernel, rfl, by decide +kernel, by decide +kernel⟩
abbrev s_with : Stmt := topS 73
theorem sc_with : FnScope ["_law_sheet", "_law_side", "_law_pair"] ["_law_sheet", "_law_side", "_law_pair"] (defScope s_with) := ⟨rfl, rfl, rfl, by decide +kernel, rfl, by decide +kernel, by decide +kernel⟩
abbrev s_any_step : Stmt := topS 74
theorem sc_any_step : FnScope ["_law_bag", "_law_root", "_law_sheet", "_law_side", "_law_copies", "_law_way", "_law_second", "_law_pieces", "_law_whole"] ["_law_bag", "_law_root"] (defScope s_any_step) := ⟨rfl, rfl, rfl, by decide +kernel, rfl, by decide +kernel, by decide +kernel⟩
abbrev s_odd_step : Stmt := topS 75
theorem sc_odd_step : FnScope ["_law_bag", "_law_step", "_law_at", "_law_way", "_law_odd"] ["_law_bag", "_law_step"] (defScope s_odd_step) := ⟨rfl, rfl, rfl, by decide +kernel, rfl, by decide +kernel, by decide +kernel⟩
abbrev s_lis_pair : Stmt := topS 76
theorem sc_lis_pair : FnScope ["_law_x"] ["_law_x"] (defScope s_lis_pair) := ⟨rfl, rfl, rfl, by decide +kernel, rfl, by decide +kernel, by decide +kernel⟩
abbrev s_is_pairs : Stmt := topS 77
theorem sc_is_pairs : FnScope ["_law_x"] ["_law_x"] (defScope s_is_pairs) := ⟨rfl, rfl, rfl, by decide +kernel, rfl, by decide +kernel, by decide +kernel⟩
abbrev s_at_least : Stmt := topS 78
theorem sc_at_least : FnScope ["_law_x", "_law_least"] ["_law_x", "_law_least"] (defScope s_at_least) := ⟨rfl, rfl, rfl, by decide +kernel, rfl, by decide +kernel, by decide +kernel⟩
abbrev s_good_step : Stmt := topS 79
theorem sc_good_step : FnScope ["_law_step", "_law_sizes", "_law_word", "_law_side", "_law_length", "_law_other"] ["_law_step"] (defScope s_good_step) := ⟨rfl, rfl, rfl, by decide +kernel, rfl, by decide +kernel, by decide +kernel⟩
abbrev s_field_of : Stmt := topS 80
theorem sc_field_of : FnScope ["_law_e"] ["_law_e"] (defScope s_field_of) := ⟨rfl, rfl, rfl, by decide +kernel, rfl, by decide +kernel, by decide +kernel⟩
abbrev s_try : Stmt := topS 81
theorem sc_try : FnScope ["_law_ask", "_law_e"] ["_law_ask"] (defScope s_try) := ⟨rfl, rfl, rfl, by decide +kernel, rfl, by decide +kernel, by decide +kernel⟩
abbrev s_like : Stmt := topS 82
theorem sc_like : FnScope ["_law_found", "_law_due", "_law_k"] ["_law_found", "_law_due"] (defScope s_like) := ⟨rfl, rfl, rfl, by decide +kernel, rfl, by decide +kernel, by decide +kernel⟩
abbrev s_law : Stmt := topS 83
theorem sc_law : FnScope ["_law_script", "_law_bag", "_law_turn", "_law_blank", "_law_k", "_law_bad", "_law_handed", "_law_found", "_law_recipe", "_law_due", "_law_same", "_law_root", "_law_spins", "_law_steps", "_law_step"] ["_law_script"] (defScope s_law) := ⟨rfl, rfl, rfl, by decide +kernel, rfl, by decide +kernel, by decide +kernel⟩
abbrev i_BadRoot : Stmt := inClass (topS 4) 0
theorem sc_iBadRoot : NScope ["self", "number", "__class__"] ["self", "number"] ["__class__"] (defScope i_BadRoot) := nscope_by (by decide +kernel)
abbrev i_BadCount : Stmt := inClass (topS 5) 0
theorem sc_iBadCount : NScope ["self", "number", "__class__"] ["self", "number"] ["__class__"] (defScope i_BadCount) := nscope_by (by decide +kernel)
abbrev i_BadRow : Stmt := inClass (topS 6) 0
theorem sc_iBadRow : NScope ["self", "at", "__class__"] ["self", "at"] ["__class__"] (defScope i_BadRow) := nscope_by (by decide +kernel)
abbrev i_OtherRoot : Stmt := inClass (topS 7) 0
theorem sc_iOtherRoot : NScope ["self", "__class__"] ["self"] ["__class__"] (defScope i_OtherRoot) := nscope_by (by decide +kernel)
abbrev i_BadStep : Stmt := inClass (topS 8) 0
theorem sc_iBadStep : NScope ["self", "at", "__class__"] ["self", "at"] ["__class__"] (defScope i_BadStep) := nscope_by (by decide +kernel)
abbrev i_NoSheet : Stmt := inClass (topS 9) 0
theorem sc_iNoSheet : NScope ["self", "sheet", "__class__"] ["self", "sheet"] ["__class__"] (defScope i_NoSheet) := nscope_by (by decide +kernel)
abbrev i_NothingLeft : Stmt := inClass (topS 10) 0
theorem sc_iNothingLeft : NScope ["self", "__class__"] ["self"] ["__class__"] (defScope i_NothingLeft) := nscope_by (by decide +kernel)
structure Txt (K : PySem.W.Frag) (mg : Str → Option Value) where
  f_turned : Addr
  d_turned : FuncData
  F_turned : Fun K "turned" "turned" s_turned f_turned d_turned
  g_turned : mg "turned" = some (.ref f_turned)
  b_turned : Binds K d_turned ["sheet"] []
  f_is_pair : Addr
  d_is_pair : FuncData
  F_is_pair : Fun K "is_pair" "is_pair" s_is_pair f_is_pair d_is_pair
  g_is_pair : mg "is_pair" = some (.ref f_is_pair)
  b_is_pair : Binds K d_is_pair ["item"] []
  f_is_two_pairs : Addr
  d_is_two_pairs : FuncData
  F_is_two_pairs : Fun K "is_two_pairs" "is_two_pairs" s_is_two_pairs f_is_two_pairs d_is_two_pairs
  g_is_two_pairs : mg "is_two_pairs" = some (.ref f_is_two_pairs)
  b_is_two_pairs : Binds K d_is_two_pairs ["item"] []
  f_fits : Addr
  d_fits : FuncData
  F_fits : Fun K "fits" "fits" s_fits f_fits d_fits
  g_fits : mg "fits" = some (.ref f_fits)
  b_fits : Binds K d_fits ["item", "kind"] []
  f_has_shape : Addr
  d_has_shape : FuncData
  F_has_shape : Fun K "has_shape" "has_shape" s_has_shape f_has_shape d_has_shape
  g_has_shape : mg "has_shape" = some (.ref f_has_shape)
  b_has_shape : Binds K d_has_shape ["step"] []
  f_side_of : Addr
  d_side_of : FuncData
  F_side_of : Fun K "side_of" "side_of" s_side_of f_side_of d_side_of
  g_side_of : mg "side_of" = some (.ref f_side_of)
  b_side_of : Binds K d_side_of ["sheet", "side"] []
  f_is_even_split : Addr
  d_is_even_split : FuncData
  F_is_even_split : Fun K "is_even_split" "is_even_split" s_is_even_split f_is_even_split d_is_even_split
  g_is_even_split : mg "is_even_split" = some (.ref f_is_even_split)
  b_is_even_split : Binds K d_is_even_split ["step"] []
  f_is_even_glue : Addr
  d_is_even_glue : FuncData
  F_is_even_glue : Fun K "is_even_glue" "is_even_glue" s_is_even_glue f_is_even_glue d_is_even_glue
  g_is_even_glue : mg "is_even_glue" = some (.ref f_is_even_glue)
  b_is_even_glue : Binds K d_is_even_glue ["step"] []
  f_is_step : Addr
  d_is_step : FuncData
  F_is_step : Fun K "is_step" "is_step" s_is_step f_is_step d_is_step
  g_is_step : mg "is_step" = some (.ref f_is_step)
  b_is_step : Binds K d_is_step ["step"] []
  f_check_steps : Addr
  d_check_steps : FuncData
  F_check_steps : Fun K "check_steps" "check_steps" s_check_steps f_check_steps d_check_steps
  g_check_steps : mg "check_steps" = some (.ref f_check_steps)
  b_check_steps : Binds K d_check_steps ["steps"] []
  f_is_allowed : Addr
  d_is_allowed : FuncData
  F_is_allowed : Fun K "is_allowed" "is_allowed" s_is_allowed f_is_allowed d_is_allowed
  g_is_allowed : mg "is_allowed" = some (.ref f_is_allowed)
  b_is_allowed : Binds K d_is_allowed ["step", "turning"] []
  f_check_allowed : Addr
  d_check_allowed : FuncData
  F_check_allowed : Fun K "check_allowed" "check_allowed" s_check_allowed f_check_allowed d_check_allowed
  g_check_allowed : mg "check_allowed" = some (.ref f_check_allowed)
  b_check_allowed : Binds K d_check_allowed ["steps", "turning"] []
  C_Recipe : Addr
  cl_Recipe : Cls K C_Recipe
  g_Recipe : mg "Recipe" = some (.ref C_Recipe)
  sf_Recipe : PySem.W.selfFirst K C_Recipe = true
  nq_Recipe : PySem.W.noSeq K C_Recipe = true
  n_Recipe_listed : NoAttr K C_Recipe "listed"
  n_Recipe_allowed : NoAttr K C_Recipe "allowed"
  mo_Recipe : PySem.W.mroIn K C_Recipe (.type "object") = some true
  ne_Recipe : PySem.W.findIn K (.ref C_Recipe) "__ne__" = some (some (.builtin "object.__ne__"))
  ca_Recipe : PySem.W.findIn K (.ref C_Recipe) "__class__" = some (some (.builtin "object.__class__"))
  x_Recipe_rmul : PySem.W.findIn K (.ref C_Recipe) "__rmul__" = some none
  i_mul : PySem.W.findIn K (.type "int") "__mul__" = some (some (.builtin "int.__mul__"))
  i_rmul : PySem.W.findIn K (.type "int") "__rmul__" = some (some (.builtin "int.__rmul__"))
  is_Recipe : PySem.W.subIn K (.type "int") (.ref C_Recipe) = some false
  nl_Recipe : PySem.W.subIn K (.type "list") (.ref C_Recipe) = some false
  ic_Recipe : PySem.W.isClsIn K C_Recipe = true
  tw_Recipe : PySem.W.typeIn K (.ref C_Recipe) = some (.type "type")
  f_Recipe_init : Addr
  d_Recipe_init : FuncData
  r0_Recipe_init : Addr
  F_Recipe_init : FunD K "__init__" "Recipe.__init__" (defArgs s_Recipe_init) (defBody s_Recipe_init) (defScope s_Recipe_init) [.ref r0_Recipe_init] [("turning", .bl false)] f_Recipe_init d_Recipe_init
  b_Recipe_init : Binds K d_Recipe_init ["self", "steps", "turning"] [.bool false]
  b0_Recipe_init : Binds K d_Recipe_init ["self", "steps", "turning"] [.ref r0_Recipe_init, .bool false]
  v0_Recipe_init : Vals [.ref r0_Recipe_init, .bl false] [.ref r0_Recipe_init, .bool false]
  v1_Recipe_init : Vals [.bl false] [.bool false]
  z0_Recipe_init : Dfl0 K r0_Recipe_init
  M_Recipe : Mk K C_Recipe f_Recipe_init
  f_Recipe_steps : Addr
  d_Recipe_steps : FuncData
  F_Recipe_steps : Fun K "steps" "Recipe.steps" s_Recipe_steps f_Recipe_steps d_Recipe_steps
  b_Recipe_steps : Binds K d_Recipe_steps ["self"] []
  m_Recipe_steps : Meth K C_Recipe "steps" f_Recipe_steps
  f_Recipe_turning : Addr
  d_Recipe_turning : FuncData
  F_Recipe_turning : Fun K "turning" "Recipe.turning" s_Recipe_turning f_Recipe_turning d_Recipe_turning
  b_Recipe_turning : Binds K d_Recipe_turning ["self"] []
  p_Recipe_turning : Addr
  pr_Recipe_turning : PropOf K C_Recipe "turning" p_Recipe_turning f_Recipe_turning
  f_Recipe_eq : Addr
  d_Recipe_eq : FuncData
  F_Recipe_eq : Fun K "__eq__" "Recipe.__eq__" s_Recipe_eq f_Recipe_eq d_Recipe_eq
  b_Recipe_eq : Binds K d_Recipe_eq ["self", "other"] []
  m_Recipe_eq : Meth K C_Recipe "__eq__" f_Recipe_eq
  f_Recipe_len : Addr
  d_Recipe_len : FuncData
  F_Recipe_len : Fun K "__len__" "Recipe.__len__" s_Recipe_len f_Recipe_len d_Recipe_len
  b_Recipe_len : Binds K d_Recipe_len ["self"] []
  m_Recipe_len : Meth K C_Recipe "__len__" f_Recipe_len
  f_Recipe_repr : Addr
  d_Recipe_repr : FuncData
  F_Recipe_repr : Fun K "__repr__" "Recipe.__repr__" s_Recipe_repr f_Recipe_repr d_Recipe_repr
  b_Recipe_repr : Binds K d_Recipe_repr ["self"] []
  m_Recipe_repr : Meth K C_Recipe "__repr__" f_Recipe_repr
  f_source : Addr
  d_source : FuncData
  F_source : Fun K "_law_source" "_law_source" s_source f_source d_source
  g_source : mg "_law_source" = some (.ref f_source)
  b_source : Binds K d_source ["_law_script"] []
  f_pull : Addr
  d_pull : FuncData
  F_pull : Fun K "_law_pull" "_law_pull" s_pull f_pull d_pull
  g_pull : mg "_law_pull" = some (.ref f_pull)
  b_pull : Binds K d_pull ["_law_bag", "_law_size"] []
  f_of : Addr
  d_of : FuncData
  F_of : Fun K "_law_of" "_law_of" s_of f_of d_of
  g_of : mg "_law_of" = some (.ref f_of)
  b_of : Binds K d_of ["_law_bag", "_law_some"] []
  f_roots : Addr
  d_roots : FuncData
  F_roots : Fun K "_law_roots" "_law_roots" s_roots f_roots d_roots
  g_roots : mg "_law_roots" = some (.ref f_roots)
  b_roots : Binds K d_roots [] []
  f_a_root : Addr
  d_a_root : FuncData
  F_a_root : Fun K "_law_a_root" "_law_a_root" s_a_root f_a_root d_a_root
  g_a_root : mg "_law_a_root" = some (.ref f_a_root)
  b_a_root : Binds K d_a_root ["_law_bag"] []
  f_any_pair : Addr
  d_any_pair : FuncData
  F_any_pair : Fun K "_law_any_pair" "_law_any_pair" s_any_pair f_any_pair d_any_pair
  g_any_pair : mg "_law_any_pair" = some (.ref f_any_pair)
  b_any_pair : Binds K d_any_pair ["_law_bag"] []
  f_lsign : Addr
  d_lsign : FuncData
  F_lsign : Fun K "_law_sign" "_law_sign" s_lsign f_lsign d_lsign
  g_lsign : mg "_law_sign" = some (.ref f_lsign)
  b_lsign : Binds K d_lsign ["_law_pair", "_law_root"] []
  f_a_length : Addr
  d_a_length : FuncData
  F_a_length : Fun K "_law_a_length" "_law_a_length" s_a_length f_a_length d_a_length
  g_a_length : mg "_law_a_length" = some (.ref f_a_length)
  b_a_length : Binds K d_a_length ["_law_bag", "_law_root"] []
  f_a_sheet : Addr
  d_a_sheet : FuncData
  F_a_sheet : Fun K "_law_a_sheet" "_law_a_sheet" s_a_sheet f_a_sheet d_a_sheet
  g_a_sheet : mg "_law_a_sheet" = some (.ref f_a_sheet)
  b_a_sheet : Binds K d_a_sheet ["_law_bag", "_law_root"] []
  f_lscaled : Addr
  d_lscaled : FuncData
  F_lscaled : Fun K "_law_scaled" "_law_scaled" s_lscaled f_lscaled d_lscaled
  g_lscaled : mg "_law_scaled" = some (.ref f_lscaled)
  b_lscaled : Binds K d_lscaled ["_law_pair", "_law_number"] []
  f_lside_of : Addr
  d_lside_of : FuncData
  F_lside_of : Fun K "_law_side_of" "_law_side_of" s_lside_of f_lside_of d_lside_of
  g_lside_of : mg "_law_side_of" = some (.ref f_lside_of)
  b_lside_of : Binds K d_lside_of ["_law_sheet", "_law_side"] []
  f_with : Addr
  d_with : FuncData
  F_with : Fun K "_law_with" "_law_with" s_with f_with d_with
  g_with : mg "_law_with" = some (.ref f_with)
  b_with : Binds K d_with ["_law_sheet", "_law_side", "_law_pair"] []
  f_any_step : Addr
  d_any_step : FuncData
  F_any_step : Fun K "_law_any_step" "_law_any_step" s_any_step f_any_step d_any_step
  g_any_step : mg "_law_any_step" = some (.ref f_any_step)
  b_any_step : Binds K d_any_step ["_law_bag", "_law_root"] []
  f_odd_step : Addr
  d_odd_step : FuncData
  F_odd_step : Fun K "_law_odd_step" "_law_odd_step" s_odd_step f_odd_step d_odd_step
  g_odd_step : mg "_law_odd_step" = some (.ref f_odd_step)
  b_odd_step : Binds K d_odd_step ["_law_bag", "_law_step"] []
  f_lis_pair : Addr
  d_lis_pair : FuncData
  F_lis_pair : Fun K "_law_is_pair" "_law_is_pair" s_lis_pair f_lis_pair d_lis_pair
  g_lis_pair : mg "_law_is_pair" = some (.ref f_lis_pair)
  b_lis_pair : Binds K d_lis_pair ["_law_x"] []
  f_is_pairs : Addr
  d_is_pairs : FuncData
  F_is_pairs : Fun K "_law_is_pairs" "_law_is_pairs" s_is_pairs f_is_pairs d_is_pairs
  g_is_pairs : mg "_law_is_pairs" = some (.ref f_is_pairs)
  b_is_pairs : Binds K d_is_pairs ["_law_x"] []
  f_at_least : Addr
  d_at_least : FuncData
  F_at_least : Fun K "_law_at_least" "_law_at_least" s_at_least f_at_least d_at_least
  g_at_least : mg "_law_at_least" = some (.ref f_at_least)
  b_at_least : Binds K d_at_least ["_law_x", "_law_least"] []
  f_good_step : Addr
  d_good_step : FuncData
  F_good_step : Fun K "_law_good_step" "_law_good_step" s_good_step f_good_step d_good_step
  g_good_step : mg "_law_good_step" = some (.ref f_good_step)
  b_good_step : Binds K d_good_step ["_law_step"] []
  f_field_of : Addr
  d_field_of : FuncData
  F_field_of : Fun K "_law_field_of" "_law_field_of" s_field_of f_field_of d_field_of
  g_field_of : mg "_law_field_of" = some (.ref f_field_of)
  b_field_of : Binds K d_field_of ["_law_e"] []
  f_try : Addr
  d_try : FuncData
  F_try : Fun K "_law_try" "_law_try" s_try f_try d_try
  g_try : mg "_law_try" = some (.ref f_try)
  b_try : Binds K d_try ["_law_ask"] []
  f_like : Addr
  d_like : FuncData
  F_like : Fun K "_law_like" "_law_like" s_like f_like d_like
  g_like : mg "_law_like" = some (.ref f_like)
  b_like : Binds K d_like ["_law_found", "_law_due"] []
  n_ValueError : mg "ValueError" = none
  n_LookupError : mg "LookupError" = none
  n_IndexError : mg "IndexError" = none
  n_enumerate : mg "enumerate" = none
  n_isinstance : mg "isinstance" = none
  n_range : mg "range" = none
  n_str : mg "str" = none
  n_sum : mg "sum" = none
  n_list : mg "list" = none
  n_bool : mg "bool" = none
  n_len : mg "len" = none
  n_tuple : mg "tuple" = none
  n_int : mg "int" = none
  n_all : mg "all" = none
  n_abs : mg "abs" = none
  n_sorted : mg "sorted" = none
  n_repr : mg "repr" = none
  n_zip : mg "zip" = none
  u_SHAPES : Addr
  g_SHAPES : mg "SHAPES" = some (.ref u_SHAPES)
  p_SHAPES_saw : Addr
  h_SHAPES_saw : PySem.W.nsIn K u_SHAPES "saw" = some (some (.ref p_SHAPES_saw))
  q_SHAPES_saw : ∀ H, SqT K H p_SHAPES_saw [.str "sheet", .str "side", .str "pair", .str "copies"]
  p_SHAPES_split : Addr
  h_SHAPES_split : PySem.W.nsIn K u_SHAPES "split" = some (some (.ref p_SHAPES_split))
  q_SHAPES_split : ∀ H, SqT K H p_SHAPES_split [.str "sheet", .str "side", .str "pieces", .str "copies"]
  p_SHAPES_glue : Addr
  h_SHAPES_glue : PySem.W.nsIn K u_SHAPES "glue" = some (some (.ref p_SHAPES_glue))
  q_SHAPES_glue : ∀ H, SqT K H p_SHAPES_glue [.str "sheet", .str "sheet", .str "side", .str "copies"]
  p_SHAPES_stack : Addr
  h_SHAPES_stack : PySem.W.nsIn K u_SHAPES "stack" = some (some (.ref p_SHAPES_stack))
  q_SHAPES_stack : ∀ H, SqT K H p_SHAPES_stack [.str "sheet", .str "side", .str "pieces", .str "copies"]
  p_SHAPES_turn : Addr
  h_SHAPES_turn : PySem.W.nsIn K u_SHAPES "turn" = some (some (.ref p_SHAPES_turn))
  q_SHAPES_turn : ∀ H, SqT K H p_SHAPES_turn [.str "sheet", .str "copies"]
  m0_SHAPES : PySem.W.nsIn K u_SHAPES "Saw" = some none
  m1_SHAPES : PySem.W.nsIn K u_SHAPES "across" = some none
  m2_SHAPES : PySem.W.nsIn K u_SHAPES "along" = some none
  m3_SHAPES : PySem.W.nsIn K u_SHAPES "" = some none
  m4_SHAPES : PySem.W.nsIn K u_SHAPES "Across" = some none
  C_Heap : Addr
  g_Heap : mg "Heap" = some (.ref C_Heap)
  cr_Heap : ClX.CRead K C_Heap (.type "type")
  s_SIDES : Addr
  cv_SIDES : ClX.CVal K C_Heap (.type "type") "SIDES" (.ref s_SIDES) (.ref s_SIDES)
  sq_SIDES : ∀ H, SqT K H s_SIDES [.str "across", .str "along"]
  kb_Recipe_init_turning : KBn K d_Recipe_init ["self", "steps", "turning"] 2 ["turning"] (fun us ws : List Value => [us.getD 0 .none, us.getD 1 .none, ws.getD 0 .none]) (fun us ws : List V => [us.getD 0 .non, us.getD 1 .non, ws.getD 0 .non])
  r_GrainError : Addr
  g_GrainError : mg "GrainError" = some (.ref r_GrainError)
  c_GrainError : ∃ cd : ClassData, PySem.W.clsIn K r_GrainError = some cd ∧ cd.name = "GrainError"
  t_GrainError : PySem.W.typeIn K (.ref r_GrainError) = some (.type "type")
  sb_GrainError : PySem.W.subIn K (.ref r_GrainError) (.type "BaseException") = some true
  r_GrainMissing : Addr
  g_GrainMissing : mg "GrainMissing" = some (.ref r_GrainMissing)
  c_GrainMissing : ∃ cd : ClassData, PySem.W.clsIn K r_GrainMissing = some cd ∧ cd.name = "GrainMissing"
  t_GrainMissing : PySem.W.typeIn K (.ref r_GrainMissing) = some (.type "type")
  sb_GrainMissing : PySem.W.subIn K (.ref r_GrainMissing) (.type "BaseException") = some true
  e_BadRoot : Er PySem.Challenge.pw_grainyard_k24_recipes_as_lists K mg "ValueError" "ValueError.__new__" "ValueError.__init__" [.type "ValueError", .type "Exception", .type "BaseException", .type "object"] [.ref r_GrainError] i_BadRoot "BadRoot" "BadRoot.__init__"
  x_BadRoot_word : PySem.W.findIn K (.ref e_BadRoot.C) "word" = some none
  x_BadRoot_number : PySem.W.findIn K (.ref e_BadRoot.C) "number" = some none
  e_BadCount : Er PySem.Challenge.pw_grainyard_k24_recipes_as_lists K mg "ValueError" "ValueError.__new__" "ValueError.__init__" [.type "ValueError", .type "Exception", .type "BaseException", .type "object"] [.ref r_GrainError] i_BadCount "BadCount" "BadCount.__init__"
  x_BadCount_word : PySem.W.findIn K (.ref e_BadCount.C) "word" = some none
  x_BadCount_number : PySem.W.findIn K (.ref e_BadCount.C) "number" = some none
  e_BadRow : Er PySem.Challenge.pw_grainyard_k24_recipes_as_lists K mg "ValueError" "ValueError.__new__" "ValueError.__init__" [.type "ValueError", .type "Exception", .type "BaseException", .type "object"] [.ref r_GrainError] i_BadRow "BadRow" "BadRow.__init__"
  x_BadRow_word : PySem.W.findIn K (.ref e_BadRow.C) "word" = some none
  x_BadRow_at : PySem.W.findIn K (.ref e_BadRow.C) "at" = some none
  e_OtherRoot : Er PySem.Challenge.pw_grainyard_k24_recipes_as_lists K mg "ValueError" "ValueError.__new__" "ValueError.__init__" [.type "ValueError", .type "Exception", .type "BaseException", .type "object"] [.ref r_GrainError] i_OtherRoot "OtherRoot" "OtherRoot.__init__"
  x_OtherRoot_word : PySem.W.findIn K (.ref e_OtherRoot.C) "word" = some none
  e_BadStep : Er PySem.Challenge.pw_grainyard_k24_recipes_as_lists K mg "ValueError" "ValueError.__new__" "ValueError.__init__" [.type "ValueError", .type "Exception", .type "BaseException", .type "object"] [.ref r_GrainError] i_BadStep "BadStep" "BadStep.__init__"
  x_BadStep_word : PySem.W.findIn K (.ref e_BadStep.C) "word" = some none
  x_BadStep_at : PySem.W.findIn K (.ref e_BadStep.C) "at" = some none
  e_NoSheet : Er PySem.Challenge.pw_grainyard_k24_recipes_as_lists K mg "LookupError" "LookupError.__new__" "LookupError.__init__" [.type "LookupError", .type "Exception", .type "BaseException", .type "object"] [.ref r_GrainMissing] i_NoSheet "NoSheet" "NoSheet.__init__"
  x_NoSheet_word : PySem.W.findIn K (.ref e_NoSheet.C) "word" = some none
  x_NoSheet_sheet : PySem.W.findIn K (.ref e_NoSheet.C) "sheet" = some none
  e_NothingLeft : Er PySem.Challenge.pw_grainyard_k24_recipes_as_lists K mg "IndexError" "IndexError.__new__" "IndexError.__init__" [.type "IndexError", .type "LookupError", .type "Exception", .type "BaseException", .type "object"] [] i_NothingLeft "NothingLeft" "NothingLeft.__init__"
  x_NothingLeft_word : PySem.W.findIn K (.ref e_NothingLeft.C) "word" = some none
  hn : PySem.W.specialIn K (.builtin "object.__class__") "__get__" = some (some (.builtin "getset_descriptor.__get__"))
  ht : PySem.W.takesIn K (.builtin "object.__class__") = some true
theorem vals_getD : ∀ {zs : List V} {ws : List Value} (_ : Vals zs ws) (i : Nat), RelV (zs.getD i .non) (ws.getD i .none)
  | _, _, .nil, _ => rfl
  | _, _, .cons r _, 0 => r
  | _, _, .cons _ t, i + 1 => vals_getD t i
theorem kbn_Recipe_init_turning {K : PySem.W.Frag} {f : Addr} {fd : FuncData} {r : Addr} (F : FunD K "__init__" "Recipe.__init__" (defArgs s_Recipe_init) (defBody s_Recipe_init) (defScope s_Recipe_init) [.ref r] [("turning", .bl false)] f fd) : KBn K fd ["self", "steps", "turning"] 2 ["turning"] (fun us ws : List Value => [us.getD 0 .none, us.getD 1 .none, ws.getD 0 .none]) (fun us ws : List V => [us.getD 0 .non, us.getD 1 .non, ws.getD 0 .non]) := by
  obtain ⟨oc, od, dV, kV, doc, pm, an, cdv, ct, osl, rfl, lk, hcd, hD, hK⟩ := F.ex
  rcases hD with ⟨e, _⟩ | ⟨_, T, o, its, m, rfl, lT, oT, rT⟩
  · cases e
  · refine ⟨fun s us ws X l1 l2 => ?_, fun r1 r2 => .cons (vals_getD r1 0) (.cons (vals_getD r1 1) (.cons (vals_getD r2 0) (.nil)))⟩
    match us, ws, its, l1, l2, rT.length with
    | [_, _], [_], [_], _, _, _ =>
      refine BindsTo.of_looks fun M => ?_
      exact looks_items X lT oT (.of_pure rfl)
section
variable {base : Heap} {K : PySem.W.Frag} {mg : Str → Option Value} {w : World}
theorem ini_BadRoot (T : Txt K mg) : FnOk PySem.Challenge.pw_grainyard_k24_recipes_as_lists w K mg base CX0 1 T.e_BadRoot.f ((NFI i_BadRoot "BadRoot.__init__" T.e_BadRoot.cc T.e_BadRoot.c).fd T.e_BadRoot.doc T.e_BadRoot.pm T.e_BadRoot.ctv) ["self", "number"] (spIni T.e_BadRoot.C 1 fun ws => [("number", ws.getD 0 .non), ("word", .str "BadRoot")]) := ok_ini1 erb_VE T.e_BadRoot sc_iBadRoot rfl T.x_BadRoot_word T.x_BadRoot_number
theorem bi_BadRoot (T : Txt K mg) : Binds K ((NFI i_BadRoot "BadRoot.__init__" T.e_BadRoot.cc T.e_BadRoot.c).fd T.e_BadRoot.doc T.e_BadRoot.pm T.e_BadRoot.ctv) ["self", "number"] [] := .all fun us hl => match us, hl with | [_, _], _ => rfl
theorem ini_BadCount (T : Txt K mg) : FnOk PySem.Challenge.pw_grainyard_k24_recipes_as_lists w K mg base CX0 1 T.e_BadCount.f ((NFI i_BadCount "BadCount.__init__" T.e_BadCount.cc T.e_BadCount.c).fd T.e_BadCount.doc T.e_BadCount.pm T.e_BadCount.ctv) ["self", "number"] (spIni T.e_BadCount.C 1 fun ws => [("number", ws.getD 0 .non), ("word", .str "BadCount")]) := ok_ini1 erb_VE T.e_BadCount sc_iBadCount rfl T.x_BadCount_word T.x_BadCount_number
theorem bi_BadCount (T : Txt K mg) : Binds K ((NFI i_BadCount "BadCount.__init__" T.e_BadCount.cc T.e_BadCount.c).fd T.e_BadCount.doc T.e_BadCount.pm T.e_BadCount.ctv) ["self", "number"] [] := .all fun us hl => match us, hl with | [_, _], _ => rfl
theorem ini_BadRow (T : Txt K mg) : FnOk PySem.Challenge.pw_grainyard_k24_recipes_as_lists w K mg base CX0 1 T.e_BadRow.f ((NFI i_BadRow "BadRow.__init__" T.e_BadRow.cc T.e_BadRow.c).fd T.e_BadRow.doc T.e_BadRow.pm T.e_BadRow.ctv) ["self", "at"] (spIni T.e_BadRow.C 1 fun ws => [("at", ws.getD 0 .non), ("word", .str "BadRow")]) := ok_ini1 erb_VE T.e_BadRow sc_iBadRow rfl T.x_BadRow_word T.x_BadRow_at
theorem bi_BadRow (T : Txt K mg) : Binds K ((NFI i_BadRow "BadRow.__init__" T.e_BadRow.cc T.e_BadRow.c).fd T.e_BadRow.doc T.e_BadRow.pm T.e_BadRow.ctv) ["self", "at"] [] := .all fun us hl => match us, hl with | [_, _], _ => rfl
theorem ini_OtherRoot (T : Txt K mg) : FnOk PySem.Challenge.pw_grainyard_k24_recipes_as_lists w K mg base CX0 1 T.e_OtherRoot.f ((NFI i_OtherRoot "OtherRoot.__init__" T.e_OtherRoot.cc T.e_OtherRoot.c).fd T.e_OtherRoot.doc T.e_OtherRoot.pm T.e_OtherRoot.ctv) ["self"] (spIni T.e_OtherRoot.C 0 fun _ => [("word", .str "OtherRoot")]) := ok_ini0 erb_VE T.e_OtherRoot sc_iOtherRoot rfl T.x_OtherRoot_word
theorem bi_OtherRoot (T : Txt K mg) : Binds K ((NFI i_OtherRoot "OtherRoot.__init__" T.e_OtherRoot.cc T.e_OtherRoot.c).fd T.e_OtherRoot.doc T.e_OtherRoot.pm T.e_OtherRoot.ctv) ["self"] [] := .all fun us hl => match us, hl with | [_], _ => rfl
theorem ini_BadStep (T : Txt K mg) : FnOk PySem.Challenge.pw_grainyard_k24_recipes_as_lists w K mg base CX0 1 T.e_BadStep.f ((NFI i_BadStep "BadStep.__init__" T.e_BadStep.cc T.e_BadStep.c).fd T.e_BadStep.doc T.e_BadStep.pm T.e_BadStep.ctv) ["self", "at"] (spIni T.e_BadStep.C 1 fun ws => [("at", ws.getD 0 .non), ("word", .str "BadStep")]) := ok_ini1 erb_VE T.e_BadStep sc_iBadStep rfl T.x_BadStep_word T.x_BadStep_at
theorem bi_BadStep (T : Txt K mg) : Binds K ((NFI i_BadStep "BadStep.__init__" T.e_BadStep.cc T.e_BadStep.c).fd T.e_BadStep.doc T.e_BadStep.pm T.e_BadStep.ctv) ["self", "at"] [] := .all fun us hl => match us, hl with | [_, _], _ => rfl
theorem ini_NoSheet (T : Txt K mg) : FnOk PySem.Challenge.pw_grainyard_k24_recipes_as_lists w K mg base CX0 1 T.e_NoSheet.f ((NFI i_NoSheet "NoSheet.__init__" T.e_NoSheet.cc T.e_NoSheet.c).fd T.e_NoSheet.doc T.e_NoSheet.pm T.e_NoSheet.ctv) ["self", "sheet"] (spIni T.e_NoSheet.C 1 fun ws => [("sheet", ws.getD 0 .non), ("word", .str "NoSheet")]) := ok_ini1 erb_LE T.e_NoSheet sc_iNoSheet rfl T.x_NoSheet_word T.x_NoSheet_sheet
theorem bi_NoSheet (T : Txt K mg) : Binds K ((NFI i_NoSheet "NoSheet.__init__" T.e_NoSheet.cc T.e_NoSheet.c).fd T.e_NoSheet.doc T.e_NoSheet.pm T.e_NoSheet.ctv) ["self", "sheet"] [] := .all fun us hl => match us, hl with | [_, _], _ => rfl
theorem ini_NothingLeft (T : Txt K mg) : FnOk PySem.Challenge.pw_grainyard_k24_recipes_as_lists w K mg base CX0 1 T.e_NothingLeft.f ((NFI i_NothingLeft "NothingLeft.__init__" T.e_NothingLeft.cc T.e_NothingLeft.c).fd T.e_NothingLeft.doc T.e_NothingLeft.pm T.e_NothingLeft.ctv) ["self"] (spIni T.e_NothingLeft.C 0 fun _ => [("word", .str "NothingLeft")]) := ok_ini0 erb_IE T.e_NothingLeft sc_iNothingLeft rfl T.x_NothingLeft_word
theorem bi_NothingLeft (T : Txt K mg) : Binds K ((NFI i_NothingLeft "NothingLeft.__init__" T.e_NothingLeft.cc T.e_NothingLeft.c).fd T.e_NothingLeft.doc T.e_NothingLeft.pm T.e_NothingLeft.ctv) ["self"] [] := .all fun us hl => match us, hl with | [_], _ => rfl
end
/-! ### heaps, and the bag that the draws change -/
def Keep (b : Addr) (H H' : Hp) : Prop := ∀ a o, a ≠ b → H a = some o → H' a = some o
theorem Keep.refl {b : Addr} (H : Hp) : Keep b H H := fun _ _ _ e => e
theorem Keep.trans {b : Addr} {H H1 H2 : Hp} (x : Keep b H H1) (y : Keep b H1 H2) : Keep b H H2 := fun a o n e => y a o n (x a o n e)
theorem keep_put {b : Addr} {H : Hp} {o : HO} : Keep b H (upd H b o) := fun a u n e => (upd_ne n).trans e
theorem keep_new {b p : Addr} {H : Hp} {o : HO} (hp : H p = none) : Keep b H (upd H p o) := fun a u _ e => (upd_ne (ne_of_none e hp)).trans e
theorem same_new {p : Addr} {H : Hp} {o : HO} (hp : H p = none) : Same H (upd H p o) := fun a u e => (upd_ne (ne_of_none e hp)).trans e
theorem keep_of {b : Addr} {H H' : Hp} (s : Same H H') : Keep b H H' := fun a o _ e => s a o e
theorem Same.keep {b : Addr} {H H1 H2 : Hp} (s : Same H H1) (k : Keep b H1 H2) (hb : H b = none) : Same H H2 := fun a o e => k a o (ne_of_none e hb) (s a o e)
structure BagAt (H : Hp) (b s : Addr) (ns : List Int) (i j m c : Int) : Prop where
  hb : H b = some (.lst [.ref s, .int i, .int j, .int m, .int c])
  hs : H s = some (.lst (ns.map V.int))
  i0 : 0 ≤ i
  i1 : i ≤ (ns.length : Int)
  m0 : 0 ≤ m
  m1 : m < 2147483399
def Bag (H : Hp) (b sb : Addr) : Prop := ∃ (ns : List Int) (i j m c : Int), BagAt H b sb ns i j m c
theorem BagAt.ne {H : Hp} {b s : Addr} {ns : List Int} {i j m c : Int} (B : BagAt H b s ns i j m c) : s ≠ b := ne_of B.hs B.hb (by
  intro e
  injection e with e
  cases ns with
  | nil => simp at e
  | cons x r => simp at e)
theorem BagAt.put {H : Hp} {b s : Addr} {ns : List Int} {i j m c : Int} (B : BagAt H b s ns i j m c) {i' j' m' c' : Int} (h0 : 0 ≤ i') (h1 : i' ≤ (ns.length : Int)) (h2 : 0 ≤ m') (h3 : m' < 2147483399) :
    BagAt (upd H b (.lst [.ref s, .int i', .int j', .int m', .int c'])) b s ns i' j' m' c' := ⟨upd_same, (upd_ne B.ne).trans B.hs, h0, h1, h2, h3⟩
theorem BagAt.same {H H' : Hp} {b s : Addr} {ns : List Int} {i j m c : Int} (B : BagAt H b s ns i j m c) (e : Same H H') : BagAt H' b s ns i j m c := ⟨e _ _ B.hb, e _ _ B.hs, B.i0, B.i1, B.m0, B.m1⟩
theorem Bag.same {H H' : Hp} {b sb : Addr} (B : Bag H b sb) (e : Same H H') : Bag H' b sb := by
  obtain ⟨ns, i, j, m, c, B⟩ := B
  exact ⟨ns, i, j, m, c, B.same e⟩
theorem Bag.new {H : Hp} {b sb p : Addr} {o : HO} (B : Bag H b sb) (hp : H p = none) : Bag (upd H p o) b sb := B.same (same_new hp)
theorem Bag.ne {H : Hp} {b sb p : Addr} (B : Bag H b sb) (hp : H p = none) : p ≠ b := by
  obtain ⟨ns, i, j, m, c, B⟩ := B
  exact (ne_of_none B.hb hp).symm
theorem Bag.ne2 {H : Hp} {b sb p : Addr} (B : Bag H b sb) (hp : H p = none) : p ≠ sb := by
  obtain ⟨ns, i, j, m, c, B⟩ := B
  exact (ne_of_none B.hs hp).symm
theorem Bag.tup {H : Hp} {b sb p : Addr} {xs : List V} (B : Bag H b sb) (hp : H p = some (.tup xs)) : p ≠ b := by
  obtain ⟨ns, i, j, m, c, B⟩ := B
  exact ne_of hp B.hb (by intro z; cases z)
theorem Bag.put {H : Hp} {b sb l : Addr} {o : HO} (B : Bag H b sb) (h1 : l ≠ b) (h2 : l ≠ sb) : Bag (upd H l o) b sb := by
  obtain ⟨ns, i, j, m, c, B⟩ := B
  exact ⟨ns, i, j, m, c, (upd_ne h1.symm).trans B.hb, (upd_ne h2.symm).trans B.hs, B.i0, B.i1, B.m0, B.m1⟩
theorem Keep.list {K : PySem.W.Frag} {H H' : Hp} {b p : Addr} {xs : List V} (k : Keep b H H') (hp : p ≠ b) (h : H p = some (.lst xs)) : SqL K H' p xs := SqL.of (k _ _ hp h)
theorem at_some {α : Type} {xs : List α} {i : Int} (h0 : 0 ≤ i) (h1 : i < (xs.length : Int)) : ∃ v, xs[i.toNat]? = some v ∧ atI xs i = some v := by
  obtain ⟨n, rfl⟩ := Int.eq_ofNat_of_zero_le h0
  have hl : n < xs.length := by omega
  exact ⟨xs[n], by simp [hl], atI_nat (by simp [hl])⟩
theorem at_ex {ns : List Int} {i : Int} (h0 : 0 ≤ i) (h1 : i < (ns.length : Int)) : ∃ z, atI (ns.map V.int) i = some (.int z) := by
  obtain ⟨n, rfl⟩ := Int.eq_ofNat_of_zero_le h0
  have hl : n < ns.length := by omega
  exact ⟨ns[n], atI_nat (by simp [hl])⟩
/-! ### f(k = v, ..): keywords alone -/
section
variable {X : Cx}
theorem pe_kwOnly {CX : CXT} {k : Nat} {f : Addr} {fd : FuncData} {ps ks : List Str} {sp : Sp} {E : XK} {x : Str} {p pos : Pos} {kws : List Keyword} {tk : TA} {g : List Value → List Value → List Value} {gV : List V → List V → List V}
    (F : FnOk X.prog X.w X.K X.mg X.base CX k f fd ps sp) (hr : Room k X.A) (hg : Gl X x) (hm : X.mg x = some (.ref f))
    (hk : PySem.W.keepIn X.K (.ref f) = true) (hb : KBn X.K fd ps 0 ks g gV) (hx : Passes CX X E) (hkw : PK X kws tk)
    (hall : (backToKw pos (keywordEach kws X.env)).all (·.1.isSome) = true := by rfl)
    (hks : (backToKw pos (keywordEach kws X.env)).filterMap (·.1) = ks := by rfl)
    (hdb : (x == ("__debug__" : Str)) = false := by decide)
    (hpl : ((backTo pos (starEach [] X.env)).any (·.1) || (backToKw pos (keywordEach kws X.env)).any (·.1.isNone)) = false := by rfl) :
    PE X (.Call (.Name x p) [] kws pos) (fun σ H Q => tk σ H fun zs H2 => zs.length = ks.length ∧ sp (gV [] zs) H2 Q E) := by
  refine ⟨fun pins s σ H Q I h => wpAny_Call_Name_kw (ld_glob I hg hm ?_ hdb)⟩
  refine PySem.W.callWith_KW0 (h₀ := X.base) I.ok.mod.kin hk hall ?_ hpl
  refine thn (hkw.run pos pins s σ H _ I h) fun ws s2 ⟨zs, H2, I2, rz, l2, q2⟩ => ⟨I2.kIn, ?_⟩
  rw [hks]
  exact run_fnN (us := []) (vs := []) F hr hb hx I2 .nil rz rfl l2 q2
end
/-! ### dicts whose keys are sheets -/
abbrev Sh := Int × Int × Int × Int
def shK (x : Sh) : NestedKey := .tup [.tup [.num x.1, .num x.2.1], .tup [.num x.2.2.1, .num x.2.2.2]]
theorem shK_inj {x y : Sh} (h : shK x = shK y) : x = y := by
  obtain ⟨a, b, c, e⟩ := x
  obtain ⟨a', b', c', e'⟩ := y
  simp only [shK, NestedKey.tup.injEq, List.cons.injEq, NestedKey.num.injEq, and_true] at h
  obtain ⟨⟨rfl, rfl⟩, rfl, rfl⟩ := h
  rfl
theorem shK_depth (x : Sh) : (shK x).depth ≤ 8 := by
  simp [shK, NestedKey.depth, NestedKey.depthAll]
/-- the sheet x, as a tuple of two tuples at p -/
def ShAt (H : Hp) (p : Addr) (x : Sh) : Prop := ∃ u v : Addr, H p = some (.tup [.ref u, .ref v]) ∧ H u = some (.tup [.int x.1, .int x.2.1]) ∧ H v = some (.tup [.int x.2.2.1, .int x.2.2.2])
theorem ShAt.mono {H H' : Hp} (k : ∀ p xs, H p = some (.tup xs) → H' p = some (.tup xs)) {p : Addr} {x : Sh} (h : ShAt H p x) : ShAt H' p x := by
  obtain ⟨u, v, h1, h2, h3⟩ := h
  exact ⟨u, v, k _ _ h1, k _ _ h2, k _ _ h3⟩
theorem ShAt.same {H H' : Hp} (s : Same H H') {p : Addr} {x : Sh} (h : ShAt H p x) : ShAt H' p x := h.mono fun p xs z => s p _ z
/-- the entries of such a dict, in order: the sheet, where it stands, its number -/
abbrev DEs := List (Sh × Addr × Int)
def DRel (p : Sh × Addr × Int) (q : NestedKey × Addr × Value) : Prop := q.1 = shK p.1 ∧ q.2.1 = p.2.1 ∧ RelV (.int p.2.2) q.2.2
def DsH (P : Program) (w : World) (d : Addr) (es : DEs) (h : Heap) : Prop := (d == sysModules) = false ∧ es.length ≤ sizeLine ∧ ∃ xs : List (NestedKey × Addr × Value), Paired DRel es xs ∧
  ∃ o en ep, h.get? d = some o ∧ o.ExactDict ∧ o.data = .dict en ep ∧ en.toList = xs.map (entryOfKey (nestedKind P w)) ∧ (xs.map (·.1)).Nodup
def DS (P : Program) (w : World) (d : Addr) (es : DEs) : HO := .ext (DsH P w d es)
structure DAt (P : Program) (w : World) (H : Hp) (d : Addr) (es : DEs) : Prop where
  hd : H d = some (DS P w d es)
  ks : ∀ x ∈ es, ShAt H x.2.1 x.1
/-- as it may be read: also while a loop walks it -/
structure DRd (P : Program) (w : World) (H : Hp) (d : Addr) (es : DEs) : Prop where
  hd : Rd H d (DS P w d es)
  ks : ∀ x ∈ es, ShAt H x.2.1 x.1
theorem DAt.rd {P : Program} {w : World} {H : Hp} {d : Addr} {es : DEs} (D : DAt P w H d es) : DRd P w H d es := ⟨.inl D.hd, D.ks⟩
section
variable {P : Program} {w : World} {H : Hp} {h : Heap} {d : Addr} {es : DEs}
theorem DsH.stay {h' : Heap} (z : DsH P w d es h) (k : ∀ o, h.get? d = some o → h'.get? d = some o) : DsH P w d es h' := by
  obtain ⟨z1, z2, xs, r, o, en, ep, ho, z3⟩ := z
  exact ⟨z1, z2, xs, r, o, en, ep, k o ho, z3⟩
theorem ds_obj {H' : Hp} (z : DsH P w d es h) : ObjOk P w H' h d (DS P w d es) := by
  refine ⟨z, ?_, fun h1 h2 z1 k => z1.stay k⟩
  obtain ⟨_, _, _, _, o, _, _, ho, _⟩ := z
  exact ⟨o, ho⟩
theorem ints_at (ok : HOk P w H h) {a : Addr} {x y : Int} (e : H a = some (.tup [.int x, .int y])) : NestedIs h (.tup [.num x, .num y]) (.ref a) := by
  obtain ⟨_, its, r, o, ho, hc, n, hdat⟩ := ok a _ e
  cases r with
  | cons r1 t =>
    cases t with
    | cons r2 t =>
      cases t
      obtain ⟨t1, rfl⟩ := r1
      obtain ⟨t2, rfl⟩ := r2
      exact .tup ho hc hdat (.cons (.int x t1) (.cons (.int y t2) .nil))
theorem sh_key (ok : HOk P w H h) {p : Addr} {x : Sh} (e : ShAt H p x) : (nestedKind P w).is h (shK x) p := by
  obtain ⟨u, v, h1, h2, h3⟩ := e
  obtain ⟨_, its, r, o, ho, hc, n, hdat⟩ := ok p _ h1
  cases r with
  | cons r1 t =>
    cases t with
    | cons r2 t =>
      cases t
      cases r1
      cases r2
      exact ⟨.tup ho hc hdat (.cons (ints_at ok h2) (.cons (ints_at ok h3) .nil)), shK_depth x⟩
theorem Paired.getR {α β : Type} {F : α → β → Prop} : ∀ {l₁ : List α} {l₂ : List β}, Paired F l₁ l₂ → ∀ {b : β}, b ∈ l₂ → ∃ a ∈ l₁, F a b
  | _, _, .nil, _, hb => by cases hb
  | _, _, .cons r t, b, hb => by
    rcases List.mem_cons.mp hb with e | e
    · exact ⟨_, List.mem_cons_self, e ▸ r⟩
    · obtain ⟨a, ha, f⟩ := Paired.getR t e
      exact ⟨a, List.mem_cons_of_mem _ ha, f⟩
theorem ds_of (ok : HOk P w H h) (D : DRd P w H d es) : (d == sysModules) = false ∧ es.length ≤ sizeLine ∧ ∃ xs, Paired DRel es xs ∧ h.DictOfH (nestedKind P w) d xs := by
  obtain ⟨z1, z2, xs, r, o, en, ep, ho, h1, h2, h3, h4⟩ := (D.hd.ok ok).1
  refine ⟨z1, z2, xs, r, o, en, ep, ho, h1, h2, h3, fun y hy => ?_, h4⟩
  obtain ⟨e, he, f1, f2, _⟩ := Paired.getR r hy
  rw [f1, f2]
  exact sh_key ok (D.ks e he)
/-- the number of a sheet -/
def valD (es : DEs) (x : Sh) : Option Int := (es.find? fun e => decide (e.1 = x)).map (·.2.2)
def putD (es : DEs) (x : Sh) (p : Addr) (n : Int) : DEs := if (valD es x).isSome then es.map (fun e => if e.1 = x then (e.1, e.2.1, n) else e) else es ++ [(x, p, n)]
def dropD (es : DEs) (x : Sh) : DEs := es.filter fun e => decide (e.1 ≠ x)
theorem drel_val {xs : List (NestedKey × Addr × Value)} (r : Paired DRel es xs) (x : Sh) : RelO ((valD es x).map V.int) ((atKey xs (shK x)).map (·.2)) := by
  induction r with
  | nil => exact trivial
  | @cons p q l1 l2 h t ih =>
    obtain ⟨h1, h2, h3⟩ := h
    by_cases e : p.1 = x
    · have e2 : q.1 = shK x := by rw [h1, e]
      simp only [valD, atKey, List.find?_cons, e, e2, decide_true, Option.map_some]
      exact h3
    · have e2 : ¬ q.1 = shK x := fun z => e (shK_inj (h1.symm.trans z))
      simpa only [valD, atKey, List.find?_cons, e, e2, decide_false] using ih
theorem drel_map {xs : List (NestedKey × Addr × Value)} (r : Paired DRel es xs) (x : Sh) {n : Int} {v : Value} (rv : RelV (.int n) v) : Paired DRel (es.map fun e => if e.1 = x then (e.1, e.2.1, n) else e) (xs.map (putAt (shK x) v)) := by
  induction r with
  | nil => exact .nil
  | @cons p q l1 l2 h t ih =>
    obtain ⟨h1, h2, h3⟩ := h
    refine .cons ?_ ih
    by_cases e : p.1 = x
    · have e2 : q.1 = shK x := by rw [h1, e]
      show DRel (if p.1 = x then (p.1, p.2.1, n) else p) _
      rw [if_pos e, putAt, if_pos e2]
      exact ⟨h1, h2, rv⟩
    · have e2 : ¬ q.1 = shK x := fun z => e (shK_inj (h1.symm.trans z))
      show DRel (if p.1 = x then (p.1, p.2.1, n) else p) _
      rw [if_neg e, putAt, if_neg e2]
      exact ⟨h1, h2, h3⟩
theorem Paired.snoc {α β : Type} {F : α → β → Prop} {a : α} {b : β} (f : F a b) : ∀ {l₁ : List α} {l₂ : List β}, Paired F l₁ l₂ → Paired F (l₁ ++ [a]) (l₂ ++ [b])
  | _, _, .nil => .cons f .nil
  | _, _, .cons r t => .cons r (Paired.snoc f t)
theorem drel_put {xs : List (NestedKey × Addr × Value)} (r : Paired DRel es xs) (x : Sh) (p : Addr) {n : Int} {v : Value} (rv : RelV (.int n) v) : Paired DRel (putD es x p n) (storedH xs (shK x) p v) := by
  have e := (drel_val r x).isSome_eq
  rw [Option.isSome_map, Option.isSome_map] at e
  unfold putD storedH
  rw [e]
  split
  · exact drel_map r x rv
  · exact Paired.snoc ⟨rfl, rfl, rv⟩ r
theorem drel_drop {xs : List (NestedKey × Addr × Value)} (r : Paired DRel es xs) (x : Sh) : Paired DRel (dropD es x) (withoutH xs (shK x)) := by
  induction r with
  | nil => exact .nil
  | @cons p q l1 l2 h t ih =>
    obtain ⟨h1, h2, h3⟩ := h
    by_cases e : p.1 = x
    · have e2 : q.1 = shK x := by rw [h1, e]
      simpa [dropD, withoutH, List.filter_cons, e, e2] using ih
    · have e2 : ¬ q.1 = shK x := fun z => e (shK_inj (h1.symm.trans z))
      simpa [dropD, withoutH, List.filter_cons, e, e2] using Paired.cons (F := DRel) ⟨h1, h2, h3⟩ ih
theorem putD_len (es : DEs) (x : Sh) (p : Addr) (n : Int) : (putD es x p n).length ≤ es.length + 1 := by
  unfold putD
  split <;> simp
theorem putD_mem {x : Sh} {p : Addr} {n : Int} {y : Sh × Addr × Int} (h : y ∈ putD es x p n) : (y.1 = x ∧ y.2.1 = p) ∨ ∃ z ∈ es, z.1 = y.1 ∧ z.2.1 = y.2.1 := by
  unfold putD at h
  split at h
  · obtain ⟨z, hz, rfl⟩ := List.mem_map.mp h
    refine .inr ⟨z, hz, ?_⟩
    split <;> exact ⟨rfl, rfl⟩
  · rcases List.mem_append.mp h with h | h
    · exact .inr ⟨y, h, rfl, rfl⟩
    · rw [List.mem_singleton.mp h]
      exact .inl ⟨rfl, rfl⟩
theorem dropD_mem {x : Sh} {y : Sh × Addr × Int} (h : y ∈ dropD es x) : y ∈ es := (List.mem_filter.mp h).1
theorem tup_ext {l : Addr} {φ : Heap → Prop} {o : HO} (hl : H l = some (.ext φ)) (p : Addr) (xs : List V) (e : H p = some (.tup xs)) : (upd H l o) p = some (.tup xs) := (upd_ne (ne_of e hl (by intro z; cases z))).trans e
theorem DAt.same {H' : Hp} (D : DAt P w H d es) (s : Same H H') : DAt P w H' d es := ⟨s _ _ D.hd, fun x hx => (D.ks x hx).same s⟩
theorem DAt.put {x : Sh} {p : Addr} {n : Int} (D : DAt P w H d es) (hp : ShAt H p x) : DAt P w (upd H d (DS P w d (putD es x p n))) d (putD es x p n) := by
  refine ⟨upd_same, fun y hy => ?_⟩
  refine ShAt.mono (tup_ext D.hd) ?_
  rcases putD_mem hy with ⟨e1, e2⟩ | ⟨z, hz, e1, e2⟩
  · rw [e1, e2]
    exact hp
  · rw [← e1, ← e2]
    exact D.ks z hz
theorem DAt.drop {x : Sh} (D : DAt P w H d es) : DAt P w (upd H d (DS P w d (dropD es x))) d (dropD es x) := ⟨upd_same, fun y hy => (D.ks y (dropD_mem hy)).mono (tup_ext D.hd)⟩
end
/-! the operations -/
section
variable {X : Cx} {pins : List (Addr × Obj)} {σ : L2.St} {H : Hp} {s : Shared} {d p : Addr} {es : DEs} {x : Sh} {A : Around} {E : Value → Shared → Prop}
theorem ds_getItem {n : Int} {Q : Value → Shared → Prop} (hu : A.units + 9 < cLine) (I : Inv X pins σ H s) (D : DRd X.prog X.w H d es) (hp : ShAt H p x) (hv : valD es x = some n) (q : ∀ t s', Inv X pins σ H s' → Q (.int n t) s') :
    wpAny (model X.prog X.w) A (getItem (.ref d) (.ref p)) Q E s := by
  obtain ⟨_, _, xs, r, dd⟩ := ds_of I.hok D
  have rel := drel_val r x
  rw [hv] at rel
  obtain ⟨w', hw, rw'⟩ := RelO.some_of (v := V.int n) rel
  obtain ⟨y, hy, hy2⟩ := Option.map_eq_some_iff.mp hw
  refine wpAny_getItem_heap (show A.in1.units + 8 < cLine from hu) (sh_key I.hok hp) dd hy ?_
  rw [hy2]
  obtain ⟨t, rfl⟩ := rw'
  exact q t _ (I.tok _)
theorem ds_in {Q : Value → Shared → Prop} (hu : A.units + 9 < cLine) (I : Inv X pins σ H s) (D : DRd X.prog X.w H d es) (hp : ShAt H p x) (q : ∀ s', Inv X pins σ H s' → Q (.bool (valD es x).isSome) s') :
    wpAny (model X.prog X.w) A (compareOp .In (.ref p) (.ref d)) Q E s := by
  obtain ⟨hs, _, xs, r, dd⟩ := ds_of I.hok D
  refine wpAny_in_heap (show A.in1.units + 8 < cLine from hu) (sh_key I.hok hp) hs dd ?_
  have e := (drel_val r x).isSome_eq
  rw [Option.isSome_map, Option.isSome_map] at e
  rw [← e]
  exact q _ (I.tok _)
theorem ds_getOr {n : Int} {r' : Value} {Q : Value → Shared → Prop} (hu : A.units + 9 < cLine) (I : Inv X pins σ H s) (D : DRd X.prog X.w H d es) (hp : ShAt H p x) (rn : RelV (.int n) r') (q : ∀ t s', Inv X pins σ H s' → Q (.int ((valD es x).getD n) t) s') :
    wpAny (model X.prog X.w) A (call (.builtin "dict.get") [.ref d, .ref p, r']) Q E s := by
  obtain ⟨hs, _, xs, r, dd⟩ := ds_of I.hok D
  refine call_meetsIn PySem.F.slot_dict_get dd.typeIs PySem.F.entry_dict_get (PySem.F.args_dict_get_3 _ _ _) (meetsH_dict_get_default (nestedKind X.prog X.w) d p hs r') ⟨show A.in1.units + 8 < cLine from hu, shK x, xs, sh_key I.hok hp, dd, ?_⟩
  have rel := (drel_val r x).getD rn
  have e : ((valD es x).map V.int).getD (.int n) = .int ((valD es x).getD n) := by cases valD es x <;> rfl
  rw [e] at rel
  obtain ⟨t, et⟩ := rel
  rw [et]
  exact q t _ (I.tok _)
theorem ds_setItem {n : Int} {v : Value} {Q : Unit → Shared → Prop} (hu : A.units + 9 < cLine) (I : Inv X pins σ H s) (D : DAt X.prog X.w H d es) (hp : ShAt H p x) (rv : RelV (.int n) v) (hl : es.length < sizeLine)
    (q : ∀ s', Inv X pins σ (upd H d (DS X.prog X.w d (putD es x p n))) s' → Q () s') : wpAny (model X.prog X.w) A (setItem (.ref d) (.ref p) v) Q E s := by
  obtain ⟨hs, hz, xs, r, dd⟩ := ds_of I.hok D.rd
  have hz' : xs.length ≤ sizeLine := by rw [← Paired.length r]; exact hz
  refine wpAny_setItem_heap (hsz := hz') (show A.in1.units + 8 < cLine from hu) (sh_key I.hok hp) dd fun h' dd' hsb => q _ ?_
  obtain ⟨o, en, ep, h1, h2, h3, h4, _, h5⟩ := dd'
  refine d_write I (by rw [D.hd]; exact True.intro) hsb ⟨o, h1⟩ (ds_obj ⟨hs, ?_, _, drel_put r x p rv, o, en, ep, h1, h2, h3, h4, h5⟩)
  have := putD_len es x p n
  omega
theorem ds_del {Q : Unit → Shared → Prop} {n : Int} (hu : A.units + 9 < cLine) (I : Inv X pins σ H s) (D : DAt X.prog X.w H d es) (hp : ShAt H p x) (hv : valD es x = some n)
    (q : ∀ s', Inv X pins σ (upd H d (DS X.prog X.w d (dropD es x))) s' → Q () s') : wpAny (model X.prog X.w) A (delItem (.ref d) (.ref p)) Q E s := by
  obtain ⟨hs, hz, xs, r, dd⟩ := ds_of I.hok D.rd
  have hz' : xs.length ≤ sizeLine := by rw [← Paired.length r]; exact hz
  have rel := drel_val r x
  rw [hv] at rel
  obtain ⟨w', hw, rw'⟩ := RelO.some_of (v := V.int n) rel
  obtain ⟨y, hy, hy2⟩ := Option.map_eq_some_iff.mp hw
  refine wpAny_delItem_heap (hsz := hz') (show A.in1.units + 8 < cLine from hu) (sh_key I.hok hp) hs dd hy fun h' dd' hsb => q _ ?_
  obtain ⟨o, en, ep, h1, h2, h3, h4, _, h5⟩ := dd'
  refine d_write I (by rw [D.hd]; exact True.intro) hsb ⟨o, h1⟩ (ds_obj ⟨hs, ?_, _, drel_drop r x, o, en, ep, h1, h2, h3, h4, h5⟩)
  exact Nat.le_trans (List.length_filter_le _ _) hz
end
/-! as terms -/
section
variable {X : Cx} {pos pos' apos cpos tpos : Pos} {o i e f value : Expr} {td ty tx tv : TE}
theorem pe_dnewS : PE X (.Dict [] [] pos) (fun _ H Q => ∀ p, H p = none → Q (.ref p) (upd H p (DS X.prog X.w p []))) := ⟨fun pins s σ H Q I h => by
  refine wpAny_Dict_empty ⟨.ref s.heap.objs.size, _, I.laid (a := s.heap.objs.size) (o := DS X.prog X.w s.heap.objs.size []) (t' := s.toks) (fun _ _ q => Heap.get?_push_of_some _ q) (Nat.le_refl _) (ds_obj ?_), rfl, h _ (I.hok.fresh (Nat.le_refl _))⟩
  exact ⟨beq_eq_false_iff_ne.mpr (Ne.symm (Nat.ne_of_lt I.big)), Nat.zero_le _, [], .nil, _, #[], 0, Heap.get?_push_size _ rfl, ⟨rfl, rfl, rfl⟩, rfl, rfl, List.nodup_nil⟩⟩
def tSGet (P : Program) (w : World) (td ty : TE) : TE := fun σ H Q => td σ H fun v H1 => ty σ H1 fun y H2 => ∃ d p es x n, v = .ref d ∧ y = .ref p ∧ DRd P w H2 d es ∧ ShAt H2 p x ∧ valD es x = some n ∧ Q (.int n) H2
theorem ds_dict {pins : List (Addr × Obj)} {σ : L2.St} {H : Hp} {s : Shared} {d : Addr} {es : DEs} (I : Inv X pins σ H s) (D : DRd X.prog X.w H d es) : s.TypeIs (.ref d) "dict" ∧ (∀ b, Value.ref d = .ref b → ∃ ob, s.heap.get? b = some ob ∧ ob.dict = none) := by
  obtain ⟨_, _, xs, _, dd⟩ := ds_of I.hok D
  refine ⟨dd.typeIs, fun b z => ?_⟩
  cases z
  obtain ⟨ob, _, _, h1, h2, _⟩ := dd
  exact ⟨ob, h1, h2.2.1⟩
end
/-! ### dicts of sheets: in, d[k], d[k] = v, del d[k], d.get(k, n) -/
section
variable {X : Cx} {pos pos' apos cpos tpos : Pos} {o i e f value : Expr} {td ty tx tv : TE}
def rInDS (P : Program) (w : World) (neg : Bool) : R2 := fun y v H Q => ∃ p d es x, y = .ref p ∧ v = .ref d ∧ DRd P w H d es ∧ ShAt H p x ∧ Q (.bl ((valD es x).isSome != neg)) H
theorem op_inDS (hu : X.A.units + 64 < cLine) : OpR X (compareOp .In) (rInDS X.prog X.w false) := by
  intro pins s σ H y v y' v' Q I ry rv q
  obtain ⟨p, d, es, x, rfl, rfl, D, hp, q⟩ := q
  cases ry
  cases rv
  refine ds_in (by omega) I D hp fun s' I' => ⟨.bl (valD es x).isSome, H, I', rfl, ?_⟩
  rw [show (valD es x).isSome = ((valD es x).isSome != false) by simp]
  exact q
theorem op_notInDS (hu : X.A.units + 64 < cLine) : OpR X (compareOp .NotIn) (rInDS X.prog X.w true) := by
  intro pins s σ H y v y' v' Q I ry rv q
  obtain ⟨p, d, es, x, rfl, rfl, D, hp, q⟩ := q
  cases ry
  cases rv
  obtain ⟨hs, _, xs, r, dd⟩ := ds_of I.hok D
  refine wpAny_notIn_heap (show X.A.in1.units + 8 < cLine from by show X.A.units + 1 + 8 < cLine; omega) (sh_key I.hok hp) hs dd ?_
  have z := (drel_val r x).isSome_eq
  rw [Option.isSome_map, Option.isSome_map] at z
  rw [← z]
  refine ⟨.bl (!(valD es x).isSome), H, I.tok _, rfl, ?_⟩
  rw [show (!(valD es x).isSome) = ((valD es x).isSome != true) by simp]
  exact q
theorem pe_sget (hu : X.A.units + 64 < cLine) (ho : PE X o td) (hi : PE X i ty) (hs : NoSl i) : PE X (.Subscript o i pos) (tSGet X.prog X.w td ty) := by
  refine ⟨fun pins s σ H Q I q => ?_⟩
  refine subD_of PySem.F.slot_dict_getitem.lookup hs (thn (ho.run pins s σ H _ I q) fun u s1 ⟨v, H1, I1, rv, q1⟩ => thn (hi.run pins s1 σ H1 _ I1 q1) fun iv s2 ⟨y, H2, I2, ry, d, p, es, x, n, e1, e2, D, hp, hv, q2⟩ => ?_)
  subst e1 e2
  cases rv
  cases ry
  exact ⟨(ds_dict I2 D).1, ds_getItem (by omega) I2 D hp hv fun t s3 I3 => ⟨.int n, H2, I3, ⟨t, rfl⟩, q2⟩⟩
def sSPut (P : Program) (w : World) (td ty tv : TE) : TS := fun D σ H => tv σ H fun v H1 => td σ H1 fun v2 H2 => ty σ H2 fun y H3 => ∃ d p es x n, v = .int n ∧ v2 = .ref d ∧ y = .ref p ∧ DAt P w H3 d es ∧ ShAt H3 p x ∧ es.length < sizeLine ∧ D.nx σ (upd H3 d (DS P w d (putD es x p n)))
theorem ps_sput (hu : X.A.units + 64 < cLine) (ho : PE X o td) (hi : PE X i ty) (hv : PE X value tv) (hs : swapsWith value (some (.Subscript o i pos')) pos.line X.env = pure false) : PS X (.Assign [.Subscript o i pos'] value pos) (sSPut X.prog X.w td ty tv) := by
  refine ⟨fun pins s σ H D I q => ?_⟩
  refine wpAny_Assign_Subscript (thn (hv.run pins s σ H _ I q) fun r s1 ⟨v, H1, I1, rv, q1⟩ => thn (ho.run pins s1 σ H1 _ I1 q1) fun u s2 ⟨v2, H2, I2, rv2, q2⟩ => thn (hi.run pins s2 σ H2 _ I2 q2) fun iv s3 ⟨y, H3, I3, ry, d, p, es, x, n, e1, e2, e3, DA, hp, hl, q3⟩ => ?_) hs
  subst e1 e2 e3
  cases rv2
  cases ry
  exact ds_setItem (by omega) I3 DA hp rv hl fun s4 I4 => ⟨σ, _, I4, q3⟩
def sSDel (P : Program) (w : World) (td ty : TE) : TS := fun D σ H => td σ H fun v2 H2 => ty σ H2 fun y H3 => ∃ d p es x n, v2 = .ref d ∧ y = .ref p ∧ DAt P w H3 d es ∧ ShAt H3 p x ∧ valD es x = some n ∧ D.nx σ (upd H3 d (DS P w d (dropD es x)))
theorem ps_sdel (hu : X.A.units + 64 < cLine) (ho : PE X o td) (hi : PE X i ty) : PS X (.Delete [.Subscript o i tpos] pos) (sSDel X.prog X.w td ty) := by
  refine ⟨fun pins s σ H D I q => ?_⟩
  refine wpAny_Delete (wpAny_deleteEach_cons (wpAny_delete_Subscript (thn (ho.run pins s σ H _ I q) fun u s1 ⟨v2, H1, I1, rv2, q1⟩ => thn (hi.run pins s1 σ H1 _ I1 q1) fun iv s2 ⟨y, H2, I2, ry, d, p, es, x, n, e2, e3, DA, hp, hv, q2⟩ => ?_)))
  subst e2 e3
  cases rv2
  cases ry
  exact ds_del (by omega) I2 DA hp hv fun s3 I3 => wpAny_deleteEach_nil ⟨σ, _, I3, q2⟩
def sSAug (P : Program) (w : World) (td ty tv : TE) (rd : V → V → Hp → VK → Prop) : TS := fun D σ H => td σ H fun v2 H1 => ty σ H1 fun y H2 => ∃ d p es x n, v2 = .ref d ∧ y = .ref p ∧ DAt P w H2 d es ∧ ShAt H2 p x ∧ valD es x = some n ∧
  tv σ H2 fun y2 H3 => rd (.int n) y2 H3 fun z H4 => ∃ es2 m, z = .int m ∧ DAt P w H4 d es2 ∧ ShAt H4 p x ∧ es2.length < sizeLine ∧ D.nx σ (upd H4 d (DS P w d (putD es2 x p m)))
theorem ps_saug {op : Operator} {rd : V → V → Hp → VK → Prop} (hu : X.A.units + 64 < cLine) (ho : PE X o td) (hi : PE X i ty) (hv : PE X value tv) (hop : InOp X op rd)
    (ha : ∀ ov iv new, augStore i ov iv new = (do holding [new, ov, iv] (setItem ov iv new); release [new, ov, iv] []; pure .next)) : PS X (.AugAssign (.Subscript o i tpos) op value pos) (sSAug X.prog X.w td ty tv rd) := by
  refine ⟨fun pins s σ H D I q => ?_⟩
  refine wpAny_AugAssign_SubscriptAny (thn (ho.run pins s σ H _ I q) fun u s1 ⟨v2, H1, I1, rv2, q1⟩ => thn (hi.run pins s1 σ H1 _ I1 q1) fun iv s2 ⟨y, H2, I2, ry, d, p, es, x, n, e2, e3, DA, hp, hval, q2⟩ => ?_) ha
  subst e2 e3
  cases rv2
  cases ry
  refine ds_getItem (by omega) I2 DA.rd hp hval fun t s3 I3 => thn (hv.run pins s3 σ H2 _ I3 q2) fun w2 s4 ⟨y2, H3, I4, ry2, q3⟩ => ?_
  refine thn (hop pins s4 σ H3 (.int n) y2 (.int n t) w2 _ I4 ⟨t, rfl⟩ ry2 q3) fun w3 s5 ⟨z, H4, I5, rz, es2, m, ez, DA2, hp2, hl, q4⟩ => ?_
  subst ez
  exact ds_setItem (by omega) I5 DA2 hp2 rz hl fun s6 I6 => ⟨σ, _, I6, q4⟩
def tSGet2 (P : Program) (w : World) (td ty tx : TE) : TE := fun σ H Q => td σ H fun v H1 => ∃ d es, v = .ref d ∧ DRd P w H1 d es ∧ ty σ H1 fun y H2 => tx σ H2 fun z H3 => ∃ p x n es3, y = .ref p ∧ z = .int n ∧ DRd P w H3 d es3 ∧ ShAt H3 p x ∧ Q (.int ((valD es3 x).getD n)) H3
theorem pe_sget2 (hu : X.A.units + 64 < cLine) (ho : PE X o td) (he : PE X e ty) (hf : PE X f tx) (m : M2 X o "get" apos e f cpos) : PE X (.Call (.Attribute o "get" apos) [e, f] [] cpos) (tSGet2 X.prog X.w td ty tx) := by
  refine ⟨fun pins s σ H Q I q => ?_⟩
  refine wpAny_Call_method m.base m.few m.line PySem.F.plainAttrs_dict PySem.F.slot_dict_get PySem.F.type_dict_get (thn (ho.run pins s σ H _ I q) fun u s1 ⟨v, H1, I1, rv, d, es, ev, DA, q1⟩ => ?_)
  subst ev
  cases rv
  obtain ⟨t1, t2⟩ := ds_dict I1 DA
  refine ⟨t1, t2, ?_⟩
  rw [m.trees]
  refine Calls.callWith_builtin rfl (Calls.evalArgs_plain (Calls.spliced_cons (thn (he.run pins s1 σ H1 _ I1 q1) fun iv s2 ⟨y, H2, I2, ry, q2⟩ => ?_)))
  refine Calls.spliced_cons (thn (hf.run pins s2 σ H2 _ I2 q2) fun fv s3 ⟨z, H3, I3, rz, p, x, n, es3, ey, ez, DA3, hp, q3⟩ => Calls.spliced_nil ?_)
  subst ey ez
  cases ry
  exact ds_getOr (by omega) I3 DA3 hp rz fun t s4 I4 => ⟨.int _, H3, I4, ⟨t, rfl⟩, q3⟩
end
/-! ### many new objects at once -/
def addAll (H : Hp) : List (Addr × HO) → Hp
  | [] => H
  | z :: zs => addAll (upd H z.1 z.2) zs
theorem addAll_other {a : Addr} : ∀ {zs : List (Addr × HO)} {H : Hp}, (∀ z ∈ zs, z.1 ≠ a) → addAll H zs a = H a
  | [], _, _ => rfl
  | z :: zs, H, h => by
    show addAll (upd H z.1 z.2) zs a = H a
    rw [addAll_other fun y hy => h y (List.mem_cons_of_mem _ hy), upd_ne (Ne.symm (h z List.mem_cons_self))]
theorem addAll_at {a : Addr} {o : HO} : ∀ {zs : List (Addr × HO)} {H : Hp}, (zs.map (·.1)).Nodup → (a, o) ∈ zs → addAll H zs a = some o
  | [], _, _, h => by cases h
  | z :: zs, H, n, h => by
    rw [List.map_cons, List.nodup_cons] at n
    show addAll (upd H z.1 z.2) zs a = some o
    rcases List.mem_cons.mp h with e | e
    · rw [← e, addAll_other fun y hy z' => n.1 (List.mem_map.mpr ⟨y, hy, by rw [z', ← e]⟩), upd_same]
    · exact addAll_at n.2 e
theorem addAll_mem {a : Addr} {o : HO} : ∀ {zs : List (Addr × HO)} {H : Hp}, addAll H zs a = some o → (a, o) ∈ zs ∨ H a = some o
  | [], _, h => .inr h
  | z :: zs, H, h => by
    rcases addAll_mem (zs := zs) (H := upd H z.1 z.2) h with e | e
    · exact .inl (List.mem_cons_of_mem _ e)
    · by_cases ha : a = z.1
      · subst ha
        rw [upd_same] at e
        cases e
        exact .inl List.mem_cons_self
      · rw [upd_ne ha] at e
        exact .inr e
theorem addAll_same {zs : List (Addr × HO)} {H : Hp} (n : ∀ z ∈ zs, H z.1 = none) : Same H (addAll H zs) := fun a o e => (addAll_other fun z hz => (ne_of_none e (n z hz)).symm).trans e
section
variable {X : Cx} {pins : List (Addr × Obj)} {σ : L2.St} {H : Hp} {s : Shared}
theorem Inv.lays {h' : Heap} {t' : Nat} {zs : List (Addr × HO)} (I : Inv X pins σ H s) (k : ∀ b u, s.heap.get? b = some u → h'.get? b = some u) (hp : ∀ z ∈ zs, s.heap.objs.size ≤ z.1)
    (new : ∀ z ∈ zs, ObjOk X.prog X.w (addAll H zs) h' z.1 z.2) : Inv X pins σ (addAll H zs) { s with heap := h', toks := t' } := by
  have hn : ∀ z ∈ zs, H z.1 = none := fun z hz => I.hok.fresh (hp z hz)
  have sm := addAll_same hn
  refine I.call (ch := []) (g' := s.gens) (d' := s.drawn) ⟨fun b u q _ _ _ => k b u q, fun b u q _ _ _ => ⟨u.slots, k b u q⟩, fun b u q n _ => ?_, fun b u q _ => ⟨u, k b u q⟩, fun b xs q => sm _ _ q, fun b u v q => sm _ _ q, fun b ps q => ⟨#[], by rw [sm _ _ q]; simp⟩⟩ (fun b o q => ?_) I.bare (fun _ z => nomatch z)
  · rw [addAll_other fun z hz e => ?_]
    · exact n
    · have y := hp z hz
      rw [e] at y
      exact absurd (Nat.lt_of_lt_of_le (Heap.lt_size q) y) (Nat.lt_irrefl _)
  · rcases addAll_mem q with z | z
    · exact new _ z
    · exact (I.hok b o z).stay (fun c v _ y => k c v y) (fun c y => sm _ _ y) fun c xs y => sm _ _ y
end
/-! ### dicts of sheets: items, keys, values as lists; sorted -/
theorem Paired.getL {α β : Type} {F : α → β → Prop} : ∀ {l₁ : List α} {l₂ : List β}, Paired F l₁ l₂ → ∀ {j : Nat} {a : α}, l₁[j]? = some a → ∃ b, l₂[j]? = some b ∧ F a b
  | _, _, .nil, j, a, h => by simp at h
  | _, _, .cons r t, 0, a, h => by cases h; exact ⟨_, rfl, r⟩
  | _, _, .cons r t, j + 1, a, h => Paired.getL t (j := j) (by simpa using h)
theorem Paired.byIx {α β : Type} {F : α → β → Prop} : ∀ {l₁ : List α} {l₂ : List β}, l₁.length = l₂.length → (∀ (j : Nat) (a : α) (b : β), l₁[j]? = some a → l₂[j]? = some b → F a b) → Paired F l₁ l₂
  | [], [], _, _ => .nil
  | a :: l₁, b :: l₂, h, f => .cons (f 0 a b rfl rfl) (Paired.byIx (by simpa using h) fun j x y h1 h2 => f (j + 1) x y (by simpa using h1) (by simpa using h2))
  | [], _ :: _, h, _ => by simp at h
  | _ :: _, [], h, _ => by simp at h
section
variable {P : Program} {w : World} {es : DEs}
theorem ds_ent {xs : List (NestedKey × Addr × Value)} {en : Array DictEntry} (he : en.toList = xs.map (entryOfKey (nestedKind P w))) (r : Paired DRel es xs) {j : Nat} {e : Sh × Addr × Int} (h : es[j]? = some e) :
    ∃ hs v, en[j]? = some ⟨hs, .ref e.2.1, v⟩ ∧ RelV (.int e.2.2) v := by
  obtain ⟨y, hy, h1, h2, h3⟩ := Paired.getL r h
  refine ⟨(nestedKind P w).hash y.1, y.2.2, ?_, h3⟩
  rw [entry_at he j, hy, ← h2]
  rfl
theorem ds_size {xs : List (NestedKey × Addr × Value)} {en : Array DictEntry} (he : en.toList = xs.map (entryOfKey (nestedKind P w))) (r : Paired DRel es xs) : en.size = es.length := (size_of_entries he).trans (Paired.length r).symm
end
section
variable {X : Cx}
def rItemsDS (P : Program) (w : World) : V → List V → Hp → VK → Prop := fun x xs H Q => ∃ d es, x = .ref d ∧ xs = [] ∧ DAt P w H d es ∧ ∀ p, H p = none → Q (.ref p) (upd H p (DX.itemsO p d))
theorem mt_itemsDS : MtR X "dict.items" (rItemsDS X.prog X.w) := by
  intro pins s σ H x xs v us Q I rx rxs q
  obtain ⟨d, es, rfl, rfl, D, q⟩ := q
  cases rx
  cases rxs
  obtain ⟨hs, _, ys, r, o, en, ep, ho, hx, hdat, _⟩ := (I.hok d _ D.hd).1
  refine DT.callItems (es := en) (ep := ep) hs ⟨o, ho, hx, hdat⟩ ?_
  exact ⟨.ref s.heap.objs.size, upd H s.heap.objs.size (DX.itemsO s.heap.objs.size d), I.laid (t' := s.toks) (fun b u z => Heap.get?_push_of_some _ z) (Nat.le_refl _) (DX.itemsO_ok (Heap.get?_push_size _ rfl)), rfl, q _ (I.hok.fresh (Nat.le_refl _))⟩
/-- rows: a list of tuples of a sheet and its number -/
def RowsAt (H : Hp) (as : List Addr) (es : DEs) : Prop := Paired (fun a (e : Sh × Addr × Int) => H a = some (.tup [.ref e.2.1, .int e.2.2])) as es
theorem RowsAt.mono {H H' : Hp} {as : List Addr} {es : DEs} (h : RowsAt H as es) (k : ∀ p xs, H p = some (.tup xs) → H' p = some (.tup xs)) : RowsAt H' as es := Paired.mapP h fun a e z => k _ _ z
def rListItems (P : Program) (w : World) : List V → Hp → VK → Prop := fun vs H Q => ∃ p d es, vs = [.ref p] ∧ H p = some (DX.itemsO p d) ∧ DAt P w H d es ∧
  ∀ l as H', H l = none → Same H H' → H' l = some (.lst (as.map V.ref)) → RowsAt H' as es → Q (.ref l) H'
theorem call_list_itemsDS (hc : X.calm = true) : CallR X (.type "list") (rListItems X.prog X.w) := by
  intro pins s σ H vs us Q I r q
  obtain ⟨p, d, es, rfl, hp, D, q⟩ := q
  obtain ⟨u, rfl, rx⟩ := r.one
  cases rx
  obtain ⟨hs, hz, ys, rel, o, en, ep, ho, hx, hdat, he, _⟩ := (I.hok d _ D.hd).1
  have view : s.heap.IsItemsView p d := (I.hok p _ hp).1
  have hsz := ds_size he rel
  refine PySem.W.dil_call (es := en) (ep := ep) (I.ok.hd hc) view ⟨o, ho, hx, hdat⟩ (by omega) fun h' tk acc c as hk hS hl hG hacc => ?_
  have hal : as.length = es.length := by omega
  have ab : ∀ a ∈ as, s.heap.objs.size < a := hG.above
  have nd : as.Nodup := hG.rise.imp fun h => Nat.ne_of_lt h
  have hin : ∀ z ∈ (s.heap.objs.size, HO.lst (as.map V.ref)) :: (as.zip es).map (fun z => (z.1, HO.tup [.ref z.2.2.1, .int z.2.2.2])), s.heap.objs.size ≤ z.1 := by
    intro z hz
    rcases List.mem_cons.mp hz with e | e
    · rw [e]
      exact Nat.le_refl _
    · obtain ⟨y, hy, rfl⟩ := List.mem_map.mp e
      exact Nat.le_of_lt (ab _ (List.of_mem_zip hy).1)
  have hm : ((as.zip es).map (fun z : Addr × Sh × Addr × Int => (z.1, HO.tup [.ref z.2.2.1, .int z.2.2.2]))).map (·.1) = as := by
    rw [List.map_map]
    show (as.zip es).map (fun z => z.1) = as
    exact List.map_fst_zip (by omega)
  have hnd : (((s.heap.objs.size, HO.lst (as.map V.ref)) :: (as.zip es).map (fun z => (z.1, HO.tup [.ref z.2.2.1, .int z.2.2.2]))).map (·.1)).Nodup := by
    rw [List.map_cons, hm, List.nodup_cons]
    exact ⟨fun z => Nat.lt_irrefl _ (ab _ z), nd⟩
  have J := Inv.lays (t' := tk) I hk hin fun z hz => by
    rcases List.mem_cons.mp hz with e | e
    · rw [e]
      refine ⟨by rw [List.length_map]; omega, acc.toList, c, ?_, by rw [Array.toArray_toList]; exact hS⟩
      rw [hacc]
      exact vals_refs as
    · obtain ⟨y, hy, rfl⟩ := List.mem_map.mp e
      obtain ⟨j, hj⟩ := List.mem_iff_getElem?.mp hy
      rw [List.getElem?_zip_eq_some] at hj
      obtain ⟨hlt, hpair⟩ := hG.pairs j _ hj.1
      obtain ⟨hsh, v, hv, rv⟩ := ds_ent he rel hj.2
      have e1 : en[j] = ⟨hsh, .ref y.2.2.1, v⟩ := by
        rw [Array.getElem?_eq_getElem hlt] at hv
        exact Option.some.inj hv
      rw [e1] at hpair
      exact ⟨by show 2 ≤ sizeLine; decide, [.ref y.2.2.1, v], .cons rfl (.cons rv .nil), _, hpair, rfl, _, rfl⟩
  have fr := fun z hz => I.hok.fresh (hin z hz)
  refine ⟨.ref s.heap.objs.size, _, J, rfl, q _ as _ (I.hok.fresh (Nat.le_refl _)) (addAll_same fr) (addAll_at hnd List.mem_cons_self) ?_⟩
  refine Paired.byIx hal fun j a e h1 h2 => addAll_at hnd (List.mem_cons_of_mem _ (List.mem_map.mpr ⟨(a, e), ?_, rfl⟩))
  exact List.mem_of_getElem? (List.getElem?_zip_eq_some.mpr ⟨h1, h2⟩)
theorem refs_by {ys : List (NestedKey × Addr × Value)} {en : Array DictEntry} {es : DEs} {acc : Array Value} (he : en.toList = ys.map (entryOfKey (nestedKind X.prog X.w))) (rel : Paired DRel es ys)
    (hl : acc.size = en.size) (hv : ∀ (j : Nat) (v : Value), acc[j]? = some v → ∃ e : DictEntry, en[j]? = some e ∧ v = e.key) : acc.toList = (es.map fun e => e.2.1).map Value.ref := by
  have hs := ds_size he rel
  apply List.ext_getElem?
  intro j
  rw [List.getElem?_map, List.getElem?_map, Array.getElem?_toList]
  cases hj : acc[j]? with
  | none =>
    have : acc.size ≤ j := by simpa using hj
    rw [List.getElem?_eq_none (by omega)]
    rfl
  | some v =>
    obtain ⟨e, h1, rfl⟩ := hv j v hj
    have : j < acc.size := by
      rcases Nat.lt_or_ge j acc.size with z | z
      · exact z
      · rw [Array.getElem?_eq_none z] at hj
        cases hj
    obtain ⟨e2, h2⟩ : ∃ e2, es[j]? = some e2 := ⟨es[j]'(by omega), List.getElem?_eq_getElem (by omega)⟩
    obtain ⟨hsh, v, h3, _⟩ := ds_ent he rel h2
    rw [h1] at h3
    rw [h2, Option.some.inj h3]
    rfl
/-- list(d) -/
def rListKeys (P : Program) (w : World) : List V → Hp → VK → Prop := fun vs H Q => ∃ d es, vs = [.ref d] ∧ DAt P w H d es ∧ ∀ p, H p = none → Q (.ref p) (upd H p (.lst (es.map fun e => V.ref e.2.1)))
theorem call_list_DS (hc : X.calm = true) : CallR X (.type "list") (rListKeys X.prog X.w) := by
  intro pins s σ H vs us Q I r q
  obtain ⟨d, es, rfl, D, q⟩ := q
  obtain ⟨u, rfl, rx⟩ := r.one
  cases rx
  obtain ⟨hs, hz, ys, rel, o, en, ep, ho, hx, hdat, he, _⟩ := (I.hok d _ D.hd).1
  have hsz := ds_size he rel
  refine PySem.W.kdl_call (kdl_raw hs hx hdat) (I.ok.hd hc) ho (by omega) fun h' tk acc c kp e it => ?_
  have ea := refs_by (X := X) he rel it.1 fun j v hv => it.2 j v hv
  refine ⟨.ref s.heap.objs.size, _, I.laid (t' := tk) (o := .lst (es.map fun e => V.ref e.2.1)) kp (Nat.le_refl _) ?_, rfl, q _ (I.hok.fresh (Nat.le_refl _))⟩
  refine ⟨by rw [List.length_map]; exact hz, acc.toList, c, ?_, by rw [Array.toArray_toList]; exact e⟩
  rw [ea, show (es.map fun e => V.ref e.2.1) = (es.map fun e => e.2.1).map V.ref by rw [List.map_map]; rfl]
  exact vals_refs _
end
/-! the order of sheets -/
def encS (x : Sh) : PyData := .tuple [.tuple [.int x.1, .int x.2.1], .tuple [.int x.2.2.1, .int x.2.2.2]]
def ltS (x y : Sh) : Prop := x.1 < y.1 ∨ (x.1 = y.1 ∧ (x.2.1 < y.2.1 ∨ (x.2.1 = y.2.1 ∧ (x.2.2.1 < y.2.2.1 ∨ (x.2.2.1 = y.2.2.1 ∧ x.2.2.2 < y.2.2.2)))))
instance (x y : Sh) : Decidable (ltS x y) := by unfold ltS; infer_instance
def leS (x y : Sh) : Bool := !decide (ltS y x)
theorem lt_encS (x y : Sh) : PySem.W.dataLt (encS x) (encS y) = decide (ltS x y) := by
  unfold encS
  rw [PySem.W.dataLt_pair (by simp [PySem.W.alike, PySem.W.alikeAll]) (by simp [PySem.W.alike, PySem.W.alikeAll]), PySem.W.dataLt_ii, PySem.W.dataLt_ii]
  simp only [PyData.eqv, PyData.eqvAll, Bool.and_true, Bool.and_eq_true, beq_iff_eq]
  obtain ⟨a, b, c, e⟩ := x
  obtain ⟨a', b', c', e'⟩ := y
  dsimp only
  rw [Bool.eq_iff_iff, decide_eq_true_iff]
  unfold ltS
  dsimp only
  by_cases h1 : a = a' ∧ b = b'
  · rw [if_pos h1]
    by_cases h2 : c = c' ∧ e = e'
    · rw [if_pos h2]
      constructor
      · intro z
        cases z
      · omega
    · rw [if_neg h2, decide_eq_true_iff]
      omega
  · rw [if_neg h1, decide_eq_true_iff]
    omega
theorem le_encS {β : Type} (f : β → Sh) : PySem.W.dataLe false (fun b => encS (f b)) = fun a b => leS (f a) (f b) := by
  funext a b
  show (!PySem.W.dataLt (encS (f b)) (encS (f a))) = _
  rw [lt_encS]
  rfl
theorem leS_trans (x y z : Sh) (h1 : leS x y = true) (h2 : leS y z = true) : leS x z = true := by
  unfold leS at *
  simp only [Bool.not_eq_true', decide_eq_false_iff_not] at *
  unfold ltS at *
  omega
theorem leS_total (x y : Sh) : (leS x y || leS y x) = true := by
  unfold leS
  rw [Bool.or_eq_true]
  simp only [Bool.not_eq_true', decide_eq_false_iff_not]
  unfold ltS
  omega
theorem leS_antisymm {x y : Sh} (h1 : leS x y = true) (h2 : leS y x = true) : x = y := by
  unfold leS at *
  simp only [Bool.not_eq_true', decide_eq_false_iff_not] at *
  obtain ⟨a, b, c, e⟩ := x
  obtain ⟨a', b', c', e'⟩ := y
  unfold ltS at *
  dsimp only at *
  have : a = a' ∧ b = b' ∧ c = c' ∧ e = e' := by omega
  obtain ⟨rfl, rfl, rfl, rfl⟩ := this
  rfl
section
variable {X : Cx}
theorem sh_reads {P : Program} {w : World} {H : Hp} {h : Heap} (ok : HOk P w H h) {p : Addr} {x : Sh} (e : ShAt H p x) : Reads h (.ref p) (encS x) [] := by
  have two : ∀ {a : Addr} {y z : Int}, H a = some (.tup [.int y, .int z]) → Reads h (.ref a) (.tuple [.int y, .int z]) [] := by
    intro a y z e
    obtain ⟨_, its, r, o, ho, hc, n, hdat⟩ := ok a _ e
    cases r with
    | cons r1 t =>
      cases t with
      | cons r2 t =>
        cases t
        obtain ⟨t1, rfl⟩ := r1
        obtain ⟨t2, rfl⟩ := r2
        exact Reads.tuple ho hc hdat (.cons (as := []) (bs := []) (.int y t1) (.cons (as := []) (bs := []) (.int z t2) .nil))
  obtain ⟨u, v, h1, h2, h3⟩ := e
  obtain ⟨_, its, r, o, ho, hc, n, hdat⟩ := ok p _ h1
  cases r with
  | cons r1 t =>
    cases t with
    | cons r2 t =>
      cases t
      cases r1
      cases r2
      exact Reads.tuple ho hc hdat (.cons (as := []) (bs := []) (two h2) (.cons (as := []) (bs := []) (two h3) .nil))
theorem each_refs {β : Type} {f : β → Addr} : ∀ {vs : List Value} {bs : List β}, PySem.W.EachIs (fun v b => v = Value.ref (f b)) vs bs → vs = bs.map fun b => Value.ref (f b)
  | _, _, .nil => rfl
  | _, _, .cons h t => by rw [List.map_cons, ← each_refs t, h]
theorem each_of {β : Type} {F : Value → β → Prop} {f : β → Addr} : ∀ {bs : List β}, (∀ b ∈ bs, F (.ref (f b)) b) → PySem.W.EachIs F (bs.map fun b => Value.ref (f b)) bs
  | [], _ => .nil
  | b :: bs, h => .cons (h b List.mem_cons_self) (each_of fun c hc => h c (List.mem_cons_of_mem _ hc))
/-- what sorting gives, behind the gathering of the items -/
theorem sort_tail {pins : List (Addr × Obj)} {σ : L2.St} {H : Hp} {s : Shared} {Q : VK} (hu : X.A.units + 64 < cLine) (I : Inv X pins σ H s) {bs : List (Sh × Addr)} (hz : bs.length ≤ sizeLine) (hk : ∀ b ∈ bs, ShAt H b.2 b.1)
    (q : ∀ p, H p = none → Q (.ref p) (upd H p (.lst ((bs.mergeSort fun a b => leS a.1 b.1).map fun b => V.ref b.2)))) {h' : Heap} {tk : Nat} (hk' : ∀ b u, s.heap.get? b = some u → h'.get? b = some u) :
    wpAny (model X.prog X.w) X.A.in1 (call (.builtin "list.sort") [.ref h'.objs.size]) (fun _ s' => EP X pins σ Q (.ref h'.objs.size) s') X.xe { s with heap := h'.push (PyProof.Rows.seqObj "list" (bs.map fun b => Value.ref b.2).toArray 0), toks := tk } := by
  have I1 : Inv X pins σ H { s with heap := h', toks := tk } := I.kept hk'
  have hoL : (h'.push (PyProof.Rows.seqObj "list" (bs.map fun b => Value.ref b.2).toArray 0)).get? h'.objs.size = some (PyProof.Rows.seqObj "list" (bs.map fun b => Value.ref b.2).toArray 0) := Heap.get?_push_size _ rfl
  refine PySem.W.list_sort_data (enc := fun b : Sh × Addr => encS b.1) (R := fun v b => v = Value.ref b.2) hoL (each_of fun b hb => rfl) (each_of fun b hb => ⟨[], ?_, by simp⟩) (PySem.W.AllAlike.of fun _ _ => by simp [PySem.W.alike, PySem.W.alikeAll, encS]) (PySem.W.Sortable.tuples fun _ => ⟨_, _, rfl⟩) hz (fun b _ => ?_) fun out hlen eo => ?_
  · exact PyProof.Rows.Reads.keeps (fun c u e => Heap.get?_push_of_some _ e) (sh_reads I1.hok (hk b hb))
  · have : (encS b.1).depth = 2 := by simp [encS, PyData.depth, PyData.depthAll]
    show X.A.units + 1 + 1 + _ < cLine
    omega
  · rw [le_encS (fun b : Sh × Addr => b.1)] at eo
    have eo := each_refs eo
    obtain ⟨e', he'⟩ := PyProof.Rows.sortedHeap_at (vs := bs.map fun b => Value.ref b.2) (out := out.toArray) hoL
    refine ⟨.ref h'.objs.size, _, I1.laid (t' := tk) (o := .lst ((bs.mergeSort fun a b => leS a.1 b.1).map fun b => V.ref b.2)) (fun b u e => ?_) (Nat.le_refl _) ⟨?_, out, e', ?_, he'⟩, rfl, q _ (I1.hok.fresh (Nat.le_refl _))⟩
    · have hb : b < h'.objs.size := Heap.lt_size e
      rw [PyProof.Rows.sortedHeap_old (Nat.ne_of_lt hb) (by rw [Heap.size_push]; exact Nat.lt_succ_of_lt hb)]
      exact Heap.get?_push_of_some _ e
    · rw [List.length_map, List.length_mergeSort]
      exact hz
    · rw [eo, show ((bs.mergeSort fun a b => leS a.1 b.1).map fun b => V.ref b.2) = ((bs.mergeSort fun a b => leS a.1 b.1).map (·.2)).map V.ref by rw [List.map_map]; rfl, show ((bs.mergeSort fun a b => leS a.1 b.1).map fun b => Value.ref b.2) = ((bs.mergeSort fun a b => leS a.1 b.1).map (·.2)).map Value.ref by rw [List.map_map]; rfl]
      exact vals_refs _
/-- sorted(d) -/
def rSortedDS (P : Program) (w : World) : List V → Hp → VK → Prop := fun vs H Q => ∃ d es, vs = [.ref d] ∧ DAt P w H d es ∧ ∀ p, H p = none → Q (.ref p) (upd H p (.lst (((es.map fun e => (e.1, e.2.1)).mergeSort fun a b => leS a.1 b.1).map fun b => V.ref b.2)))
theorem cr_sortedDS (hc : X.calm = true) (hu : X.A.units + 64 < cLine) : CallR X (.builtin "sorted") (rSortedDS X.prog X.w) := by
  intro pins s σ H vs us Q I r q
  obtain ⟨d, es, rfl, D, q⟩ := q
  obtain ⟨u, rfl, rx⟩ := r.one
  cases rx
  obtain ⟨hs, hz, ys, rel, o, en, ep, ho, hx, hdat, he, _⟩ := (I.hok d _ D.hd).1
  have hsz := ds_size he rel
  refine Calls.call_function_entry PyProof.Rows.kind_sorted PyProof.Rows.plain_sorted PyProof.Rows.entry_sorted (PyProof.Rows.args_sorted1 _) ?_
  unfold Builtin.«sorted»
  refine wpAny_bind (m := checkCount "sorted" 1 1 _) (wpAny_pure ?_)
  refine wpAny_bind (PySem.W.kdu_collect (A := X.A.in1) (kdl_raw hs hx hdat) (I.ok.hd hc) ho (by omega) fun h' tk acc kp it => ?_)
  have ea := refs_by (X := X) he rel it.1 fun j v hv => it.2 j v hv
  have eb : acc.toList = (es.map fun e => (e.1, e.2.1)).map fun b => Value.ref b.2 := by rw [ea, List.map_map, List.map_map]; rfl
  refine wpAny_bind (wpAny_newList ?_ (by rw [ea, List.length_map, List.length_map]; exact hz))
  rw [eb]
  refine wpAny_bind (wpAny_holding (wpAny_mono (sort_tail hu I (bs := es.map fun e => (e.1, e.2.1)) (by rw [List.length_map]; exact hz) (fun b hb => ?_) q (tk := tk) kp) (fun v s' z => wpAny_pure ⟨_, rfl, z⟩) fun _ _ z => z))
  obtain ⟨e, he2, rfl⟩ := List.mem_map.mp hb
  exact D.ks e he2
end
/-! ### enumerate of an empty tuple; a walk of one kind or another -/
section
variable {X : Cx}
/-- enumerate(v), where iter(v) is told by B -/
theorem enum_new {P : Program} {w : World} {A : Around} {E : Value → Shared → Prop} {s : Shared} {v : Value} {Q : Fin → Shared → Prop} (h : wpAny (model P w) A (pyIter v) (fun it s1 => wpAny (model P w) A (newObj (.type "enumerate") (.fields #[.none, .bool false, it, rawInt 0, .none, .none])) (fun e s2 => Q (.done (.ret e)) s2) E s1) E s) :
    wpAny (model P w) A (Builtin.«enumerate.__new__» ⟨[.type "enumerate", v], []⟩) Q E s := by
  have cls : Builtin.SmallTypes.newClass "enumerate" ⟨[.type "enumerate", v], []⟩ = pure (.type "enumerate", [v]) := by
    simp only [Builtin.SmallTypes.newClass, PySem.sub_enumerate]
    rfl
  unfold Builtin.«enumerate.__new__»
  refine wpAny_bind (wpAny_of_eq cls ?_)
  show wpAny _ _ (Builtin.SmallTypes.calledThroughType (.type "enumerate") >>= _) _ _ _
  refine wpAny_bind (wpAny_bind (wpAny_stack_any fun st => wpAny_pure ?_))
  dsimp only
  split <;> try split
  all_goals
    refine wpAny_bind (wpAny_of_eq (a := (v, none)) rfl ?_)
    refine wpAny_bind (wpAny_mono h (fun it s1 h1 => ?_) fun _ _ z => z)
    exact wpAny_bind (wpAny_mono h1 (fun e s2 h2 => wpAny_pure h2) fun _ _ z => z)
/-- nothing to draw -/
def ItN (K : PySem.W.Frag) (a : Addr) : It where
  go := fun _ _ => False
  yld := fun _ _ _ _ => False
  stop := fun _ H => SqT K H a []
theorem turnN {P : Program} {w : World} {K : PySem.W.Frag} {tg : Expr} {a e it : Addr} (na : a ≠ it) : Turn P w K tg (ItN K a) [e, it] e (fun i h => i = 0 ∧ IsEnum h e it 0 .none ∧ h.IsTupleIter it a 0) where
  mem := List.mem_cons_self
  obj := by
    rintro i h ⟨_, he, oi, h1, _, h3⟩ b hb
    rcases List.mem_cons.mp hb with rfl | hb
    · exact ⟨_, he, fun _ z => nomatch z⟩
    · rw [List.mem_singleton.mp hb]
      exact ⟨oi, h1, fun _ z => by rw [h3] at z; cases z⟩
  keep := fun i h h' st k => ⟨st.1, k e List.mem_cons_self _ st.2.1, st.2.2.at fun o z => k it (List.mem_cons_of_mem _ List.mem_cons_self) o z⟩
  item := fun _ _ _ _ _ _ _ _ _ _ _ _ _ _ go => go.elim
  done := by
    intro Y hP hw hK hc i pins s σ H E I hf st stop
    subst hP hw hK
    obtain ⟨rfl, he, hi⟩ := st
    obtain ⟨its, rv, p, _⟩ := I.tuple stop
    cases rv
    obtain ⟨f0, f1, _, f3, f4, f5⟩ := hf it (List.mem_cons_of_mem _ List.mem_cons_self)
    exact wpAny_pyNext_enum_endD (Draws.tuple (A := Y.A.in1) (I.ok.hd hc) it a na #[]) he ⟨hi, p⟩ fun h' eb => ⟨rfl, I.turned (t' := s.toks) (fun b o hb z => eb b o hb z) f0 f1 f3 f4 f5⟩
  self := fun A i s Q E st q => wpAny_pyIter_enum st.2.1 q
def iEnumN (K : PySem.W.Frag) (ta : TA) : TI := fun σ H R => ta σ H fun vs G => ∃ a, vs = [.ref a] ∧ SqT K G a [] ∧ R (ItN K a) G
theorem pi_enumN {e : Expr} {ta : TA} {p pos : Pos} {tg : Expr} (hg : Gl X "enumerate") (hm : X.mg "enumerate" = none) (ha : PA X [e] ta) (hs : starEach [e] X.env = [(false, eval e X.env)] := by rfl) : PI X tg (.Call (.Name "enumerate" p) [e] [] pos) (iEnumN X.K ta) := by
  refine ⟨fun pins s σ H R I h => Call_ (ld_blt I hg hm boot_enumerate (PyProof.Rows.callWith_type1 (thn (ha.run pos pins s σ H _ I h) ?_) hs rfl))⟩
  rintro us s1 ⟨vs, G, I1, r, a, rfl, sq, q⟩
  obtain ⟨u, rfl, ru⟩ := r.one
  cases ru
  obtain ⟨its, rv, tp, _⟩ := I1.tuple sq
  cases rv
  have la : a < s1.heap.objs.size := let ⟨_, z, _⟩ := tp; Heap.lt_size z
  refine callType_new (S := fun A R s => s.heap.IsTuple a #[] ∧ R (.ok (.ret (.ref (s.heap.objs.size + 1)))) { s with heap := (s.heap.push { cls := .type "tuple_iterator", data := .fields #[.ref a, .int 0 0] }).push { cls := .type "enumerate", data := .fields #[.none, .bool false, .ref s.heap.objs.size, rawInt 0, .none, .none] } })
    F.called_enumerate (by decide) (F.typeCall_enumerate_1 _) (F.newCall_enumerate_1 _) (fun obj => F.args_object_init_2 obj _) F.entry_enumerate_new (.of_wp fun P w A R s z => enum_new (wpAny_pyIter_tuple z.1 (wpAny_newObj_type ⟨_, rfl, ?_⟩))) ⟨tp, ?_⟩
  · have := z.2
    rwa [← Heap.size_push] at this
  have he : IsEnum ((s1.heap.push { cls := .type "tuple_iterator", data := .fields #[.ref a, .int 0 0] }).push { cls := .type "enumerate", data := .fields #[.none, .bool false, .ref s1.heap.objs.size, rawInt 0, .none, .none] }) (s1.heap.objs.size + 1) s1.heap.objs.size 0 .none := by
    have z := Heap.get?_push_size (s1.heap.push { cls := .type "tuple_iterator", data := .fields #[.ref a, .int 0 0] }) (o := { cls := .type "enumerate", data := .fields #[.none, .bool false, .ref s1.heap.objs.size, rawInt 0, .none, .none] }) rfl
    rwa [Heap.size_push] at z
  refine ⟨⟨_, he, rfl⟩, wpAny_pyIter_enum he ⟨s1.heap.objs.size + 1, [s1.heap.objs.size + 1, s1.heap.objs.size], _, _, G, rfl, I1.kept (t' := s1.toks) fun b o z => Heap.get?_push_of_some _ (Heap.get?_push_of_some _ z), turnN (Nat.ne_of_lt la), ⟨rfl, he, _, Heap.get?_push_of_some _ (Heap.get?_push_size _ rfl), rfl, rfl⟩, fun b hb => ?_, q⟩⟩
  have le : s1.heap.objs.size ≤ b := by
    rcases List.mem_cons.mp hb with rfl | hb
    · exact Nat.le_succ _
    · rw [List.mem_singleton.mp hb]
      exact Nat.le_refl _
  exact I1.fpOk le (I1.hok.fresh le)
theorem PI.or {tg e : Expr} {a b : TI} (h1 : PI X tg e a) (h2 : PI X tg e b) : PI X tg e (fun σ H R => a σ H R ∨ b σ H R) := ⟨fun pins s σ H R I h => h.elim (h1.run pins s σ H R I) (h2.run pins s σ H R I)⟩
end
/-! ### enumerate of a tuple -/
def ItU (K : PySem.W.Frag) (a : Addr) : It where
  go := fun i H => ∃ (xs : List V) (x : V), SqT K H a xs ∧ xs[i]? = some x
  yld := fun i H v H' => ∃ T x, v = .ref T ∧ H T = none ∧ H' = upd H T (.tup [.int (i : Nat), x]) ∧ ∀ xs, SqT K H a xs → xs[i]? = some x
  stop := fun i H => ∃ xs : List V, SqT K H a xs ∧ xs.length = i
section
variable {X : Cx}
theorem turnU {P : Program} {w : World} {K : PySem.W.Frag} {elts : List Expr} {kk : Nat} {tpos : Pos} {a e it : Addr} (ne : e ≠ it) (na : a ≠ it) (nb : a ≠ e) : Turn P w K (.Tuple elts kk tpos) (ItU K a) [e, it] e (fun i h => (∃ old, IsEnum h e it ((i : Nat) : Int) old) ∧ h.IsTupleIter it a i) where
  mem := List.mem_cons_self
  obj := by
    rintro i h ⟨⟨old, he⟩, oi, h1, _, h3⟩ b hb
    rcases List.mem_cons.mp hb with rfl | hb
    · exact ⟨_, he, fun _ z => nomatch z⟩
    · rw [List.mem_singleton.mp hb]
      exact ⟨oi, h1, fun _ z => by rw [h3] at z; cases z⟩
  keep := by
    rintro i h h' ⟨⟨old, he⟩, hi⟩ k
    exact ⟨⟨old, k e List.mem_cons_self _ he⟩, hi.at fun o z => k it (List.mem_cons_of_mem _ List.mem_cons_self) o z⟩
  self := by
    rintro A i s Q E ⟨⟨old, he⟩, _⟩ q
    exact wpAny_pyIter_enum he q
  item := by
    intro Y hP hw hK hc i pins s σ H E I hf st go
    subst hP hw hK
    obtain ⟨⟨old, he⟩, hi⟩ := st
    obtain ⟨xs, x, sq, hx⟩ := go
    obtain ⟨its, rv, tp, _⟩ := I.tuple sq
    obtain ⟨u, hu, ru⟩ := rv.get hx
    have lt : i < its.toArray.size := by
      rw [List.size_toArray]
      exact (List.getElem?_eq_some_iff.mp hu).1
    refine wpAny_pyNext_enum_itemD (Draws.tuple (A := Y.A.in1) (I.ok.hd hc) it a na its.toArray) he ⟨hi, tp⟩ lt ne (by simp [ne, nb.symm]) ?_
    intro y h' tk hy out st' hT hsz hk
    obtain rfl : u = y := by
      have : its.toArray[i]? = some u := by simpa using hu
      exact Option.some.inj (this.symm.trans hy)
    refine ⟨_, rfl, wpAny_letOwnedTupleGo_enum (s := { s with heap := h', toks := tk + 1 }) out ?_⟩
    intro h2 he2 sb
    have low : e < s.heap.objs.size := Heap.lt_size he
    have tup2 : h2.get? s.heap.objs.size = some { cls := .type "tuple", data := .seq #[.int i tk, u] } := (sb.2 _ (Nat.ne_of_gt low)).trans hT
    have new : ObjOk Y.prog Y.w (upd H s.heap.objs.size (.tup [.int (i : Nat), x])) h2 s.heap.objs.size (.tup [.int (i : Nat), x]) := ⟨by show 2 ≤ sizeLine; decide, _, .cons ⟨_, rfl⟩ (.cons ru .nil), ⟨_, tup2, rfl, _, rfl⟩⟩
    have stay : ∀ b ob, b ∉ [e, it] → s.heap.get? b = some ob → h2.get? b = some ob := by
      intro b ob hb z
      rw [List.mem_cons, List.mem_singleton, not_or] at hb
      exact (sb.2 b hb.1).trans (hk b ob hb.1 hb.2 z)
    refine ⟨.ref s.heap.objs.size, _, I.turnedNew stay hf (Nat.le_refl _) new, rfl, ⟨_, x, rfl, I.hok.fresh (Nat.le_refl _), rfl, fun ys hys => by rw [I.tuple_inj hys sq]; exact hx⟩, ⟨⟨u, ?_⟩, st'.1.at fun o z => (sb.2 it ne.symm).trans z⟩, fun b hb => ?_⟩
    · rw [Int.natCast_add]
      exact he2
    · have lb : b < s.heap.objs.size := by
        rcases List.mem_cons.mp hb with rfl | hb
        · exact low
        · rw [List.mem_singleton.mp hb]
          obtain ⟨_, z, _⟩ := hi
          exact Heap.lt_size z
      rw [upd_ne (Nat.ne_of_lt lb)]
      exact (hf b hb).1
  done := by
    intro Y hP hw hK hc i pins s σ H E I hf st stop
    subst hP hw hK
    obtain ⟨⟨old, he⟩, hi⟩ := st
    obtain ⟨xs, sq, hx⟩ := stop
    obtain ⟨its, rv, tp, _⟩ := I.tuple sq
    obtain ⟨f0, f1, _, f3, f4, f5⟩ := hf it (List.mem_cons_of_mem _ List.mem_cons_self)
    have here : i = its.toArray.size := by
      rw [List.size_toArray, ← rv.length]
      exact hx.symm
    refine wpAny_pyNext_enum_endD (Draws.tuple (A := Y.A.in1) (I.ok.hd hc) it a na its.toArray) he ⟨by rw [← here]; exact hi, tp⟩ fun h' eb => ⟨rfl, ?_⟩
    exact I.turned (t' := s.toks) (fun b o hb z => eb b o hb z) f0 f1 f3 f4 f5
def iEnumT (K : PySem.W.Frag) (ta : TA) : TI := fun σ H R => ta σ H fun vs G => ∃ a xs, vs = [.ref a] ∧ SqT K G a xs ∧ R (ItU K a) G
theorem pi_enumT {e : Expr} {ta : TA} {p pos tpos : Pos} {elts : List Expr} {kk : Nat} (hg : Gl X "enumerate") (hm : X.mg "enumerate" = none) (ha : PA X [e] ta) (hs : starEach [e] X.env = [(false, eval e X.env)] := by rfl) : PI X (.Tuple elts kk tpos) (.Call (.Name "enumerate" p) [e] [] pos) (iEnumT X.K ta) := by
  refine ⟨fun pins s σ H R I h => Call_ (ld_blt I hg hm boot_enumerate (PyProof.Rows.callWith_type1 (thn (ha.run pos pins s σ H _ I h) ?_) hs rfl))⟩
  rintro us s1 ⟨vs, G, I1, r, a, xs, rfl, sq, q⟩
  obtain ⟨u, rfl, ru⟩ := r.one
  cases ru
  obtain ⟨its, rv, tp, _⟩ := I1.tuple sq
  have la : a < s1.heap.objs.size := let ⟨_, z, _⟩ := tp; Heap.lt_size z
  have tp' : s1.heap.IsTuple a its.toArray := tp
  refine callType_new (S := fun A R s => s.heap.IsTuple a its.toArray ∧ R (.ok (.ret (.ref (s.heap.objs.size + 1)))) { s with heap := (s.heap.push { cls := .type "tuple_iterator", data := .fields #[.ref a, .int 0 0] }).push { cls := .type "enumerate", data := .fields #[.none, .bool false, .ref s.heap.objs.size, rawInt 0, .none, .none] } })
    F.called_enumerate (by decide) (F.typeCall_enumerate_1 _) (F.newCall_enumerate_1 _) (fun obj => F.args_object_init_2 obj _) F.entry_enumerate_new (.of_wp fun P w A R s z => enum_new (wpAny_pyIter_tuple z.1 (wpAny_newObj_type ⟨_, rfl, ?_⟩))) ⟨tp', ?_⟩
  · have := z.2
    rwa [← Heap.size_push] at this
  have he : IsEnum ((s1.heap.push { cls := .type "tuple_iterator", data := .fields #[.ref a, .int 0 0] }).push { cls := .type "enumerate", data := .fields #[.none, .bool false, .ref s1.heap.objs.size, rawInt 0, .none, .none] }) (s1.heap.objs.size + 1) s1.heap.objs.size ((0 : Nat) : Int) .none := by
    have z := Heap.get?_push_size (s1.heap.push { cls := .type "tuple_iterator", data := .fields #[.ref a, .int 0 0] }) (o := { cls := .type "enumerate", data := .fields #[.none, .bool false, .ref s1.heap.objs.size, rawInt 0, .none, .none] }) rfl
    rwa [Heap.size_push] at z
  have hit : ((s1.heap.push { cls := .type "tuple_iterator", data := .fields #[.ref a, .int 0 0] }).push { cls := .type "enumerate", data := .fields #[.none, .bool false, .ref s1.heap.objs.size, rawInt 0, .none, .none] }).IsTupleIter s1.heap.objs.size a 0 := ⟨_, Heap.get?_push_of_some _ (Heap.get?_push_size _ rfl), rfl, rfl⟩
  refine ⟨⟨_, he, rfl⟩, wpAny_pyIter_enum he ⟨s1.heap.objs.size + 1, [s1.heap.objs.size + 1, s1.heap.objs.size], _, _, G, rfl, I1.kept (t' := s1.toks) fun b o z => Heap.get?_push_of_some _ (Heap.get?_push_of_some _ z), turnU (Nat.succ_ne_self _) (Nat.ne_of_lt la) (Nat.ne_of_lt (Nat.lt_succ_of_lt la)), ⟨⟨.none, he⟩, hit⟩, fun b hb => ?_, q⟩⟩
  have le : s1.heap.objs.size ≤ b := by
    rcases List.mem_cons.mp hb with rfl | hb
    · exact Nat.le_succ _
    · rw [List.mem_singleton.mp hb]
      exact Nat.le_refl _
  exact I1.fpOk le (I1.hok.fresh le)
end
/-- a for over it, where the tuple stays -/
theorem for_enumT {K : PySem.W.Frag} {a : Addr} {xs : List V} {g : TG} {tb : TS} {D : Ends} {σ : L2.St} {H : Hp} (Pv : Nat → L2.St → Hp → Prop) (h0 : Pv 0 σ H) (hl : ∀ i τ G, i ≤ xs.length → Pv i τ G → SqT K G a xs)
    (turn : ∀ i x τ G T, xs[i]? = some x → Pv i τ G → G T = none → g (.ref T) τ (upd G T (.tup [.int (i : Nat), x])) fun τ2 G2 => tb { D with nx := Pv (i + 1), ct := Pv (i + 1), bk := D.nx } τ2 G2) (fin : ∀ τ G, Pv xs.length τ G → D.nx τ G) :
    ∃ W : Nat → Nat → L2.St → Hp → Prop, (∃ m, W 0 m σ H) ∧ ∀ i m τ G, W i m τ G → ((ItU K a).stop i G ∧ D.nx τ G) ∨ ((ItU K a).go i G ∧ ∃ N : L2.St → Hp → Prop, (∀ τ' G', N τ' G' → ∃ m', m' < m ∧ W (i + 1) m' τ' G') ∧
      ∀ x G', (ItU K a).yld i G x G' → g x τ G' fun τ2 G2 => tb { D with nx := N, ct := N, bk := D.nx } τ2 G2) := by
  refine ⟨fun i m τ G => i + m = xs.length ∧ Pv i τ G, ⟨xs.length, Nat.zero_add _, h0⟩, ?_⟩
  rintro i m τ G ⟨hm, pv⟩
  have sq := hl i τ G (by omega) pv
  rcases Nat.eq_zero_or_pos m with rfl | hp
  · obtain rfl : i = xs.length := hm
    exact .inl ⟨⟨xs, sq, rfl⟩, fin τ G pv⟩
  · have lt : i < xs.length := by omega
    refine .inr ⟨⟨xs, xs[i], sq, List.getElem?_eq_getElem lt⟩, Pv (i + 1), fun τ' G' z => ⟨m - 1, by omega, by omega, z⟩, ?_⟩
    rintro x G' ⟨T, y, rfl, hT, rfl, at_⟩
    exact turn i y τ G T (at_ xs sq) pv hT
/-- a for over enumerate of a list that stays -/
theorem for_enumL {K : PySem.W.Frag} {a : Addr} {xs : List V} {g : TG} {tb : TS} {D : Ends} {σ : L2.St} {H : Hp} (Pv : Nat → L2.St → Hp → Prop) (h0 : Pv 0 σ H) (hl : ∀ i τ G, i ≤ xs.length → Pv i τ G → SqL K G a xs)
    (turn : ∀ i x τ G T, xs[i]? = some x → Pv i τ G → G T = none → g (.ref T) τ (upd G T (.tup [.int (i : Nat), x])) fun τ2 G2 => tb { D with nx := Pv (i + 1), ct := Pv (i + 1), bk := D.nx } τ2 G2) (fin : ∀ τ G, Pv xs.length τ G → D.nx τ G) :
    ∃ W : Nat → Nat → L2.St → Hp → Prop, (∃ m, W 0 m σ H) ∧ ∀ i m τ G, W i m τ G → ((Ite K a).stop i G ∧ D.nx τ G) ∨ ((Ite K a).go i G ∧ ∃ N : L2.St → Hp → Prop, (∀ τ' G', N τ' G' → ∃ m', m' < m ∧ W (i + 1) m' τ' G') ∧
      ∀ x G', (Ite K a).yld i G x G' → g x τ G' fun τ2 G2 => tb { D with nx := N, ct := N, bk := D.nx } τ2 G2) := by
  refine ⟨fun i m τ G => m + i = xs.length ∧ Pv i τ G, ⟨xs.length, rfl, h0⟩, ?_⟩
  rintro i m τ G ⟨hm, pv⟩
  have sq := hl i τ G (by omega) pv
  cases m with
  | zero =>
    obtain rfl : i = xs.length := by omega
    exact .inl ⟨⟨xs, sq, Nat.le_refl _⟩, fin τ G pv⟩
  | succ m =>
    refine .inr ⟨⟨xs, xs[i], sq, List.getElem?_eq_getElem (by omega)⟩, Pv (i + 1), fun τ' G' z => ⟨m, Nat.lt_succ_self m, by omega, z⟩, ?_⟩
    rintro x G' ⟨T, y, rfl, hT, rfl, at_⟩
    exact turn i y τ G T (at_ xs sq) pv hT
/-! ### the law's own draws -/
section
variable {base : Heap} {K : PySem.W.Frag} {mg : Str → Option Value} {P : Program} {w : World}
def spPull : Sp := fun vs H Q _ => ∃ (b sb : Addr) (n : Int), vs = [.ref b, .int n] ∧ Bag H b sb ∧ 0 < n ∧ n.natAbs < 2 ^ 100 ∧ ∀ z H', 0 ≤ z → z < n → Bag H' b sb → Keep b H H' → Q (.int z) H'
theorem ok_pull (T : Txt K mg) : FnOk P w K mg base CX0 1 T.f_pull T.d_pull ["_law_bag", "_law_size"] spPull := by
  refine T.F_pull.ok sc_pull (fun vs H Q E h => ?_) (fun cdv A outer s H vs Q E hr h => ?_)
  · obtain ⟨b, sb, n, rfl, _⟩ := h
    rfl
  · obtain ⟨b, s1, n, rfl, ⟨ns, i, j, m, c, B⟩, h0, h1, q⟩ := h
    refine ⟨_, (pss_cons (ps_asg (pe_op op_add (pe_ix ix_list (pv 0) pe_int (fun _ _ => rfl)) pe_int) (pg_sub (pv 0) pe_int set_list))
      (Evl.pss_cut (ps_if (PW.pt (pw_and (pt_cmpR op_eq (pe_ix ix_list (pv 0) pe_int (fun _ _ => rfl)) pe_int (nomark _)) (pw_and1 (pt_cmpR op_lt (pe_ix ix_list (pv 0) pe_int (fun _ _ => rfl)) (pe_callB call_len_seq (by rfl) T.n_len (by decide +kernel) (pa_cons (pe_ix ix_list (pv 0) pe_int (fun _ _ => rfl)) pa_nil)) (nomark _))))) (pss_cons (ps_set (i := 3) sc_pull.nd rfl (Or.inl rfl) (pe_ix ix_list (pe_ix ix_list (pv 0) pe_int (fun _ _ => rfl)) (pe_ix ix_list (pv 0) pe_int (fun _ _ => rfl)) (fun _ _ => rfl)))
      (pss_cons (ps_asg (pe_op op_add (pe_ix ix_list (pv 0) pe_int (fun _ _ => rfl)) pe_int) (pg_sub (pv 0) pe_int set_list))
      (pss_one (ps_if (pt_cmpR op_ge (pv 3) (pe_op op_pow pe_int pe_int) (nomark _)) (pss_one (ps_asg (pv 3) (pg_sub (pv 0) pe_int set_list))) (pss_cons (ps_set (i := 2) sc_pull.nd rfl (Or.inl rfl) (pe_op op_add (pe_op op_mul (pe_ix ix_list (pv 0) pe_int (fun _ _ => rfl)) pe_int) (pe_op op_mul (pe_op op_mod (pv 3) pe_int) pe_int)))
      (pss_one (ps_asg (pe_op op_mod (pe_op op_add (pv 2) pe_int) pe_int) (pg_sub (pv 0) pe_int set_list)))))))) pss_nil)
      (pss_cons (ps_if (pt_cmpR op_gt (pe_ix ix_list (pv 0) pe_int (fun _ _ => rfl)) pe_int (nomark _)) (pss_cons (ps_set (i := 4) sc_pull.nd rfl (Or.inl rfl) (pe_op op_mod (pe_ix ix_list (pv 0) pe_int (fun _ _ => rfl)) (pv 1)))
      (pss_cons (ps_asg (pe_op op_fdivW (pe_ix ix_list (pv 0) pe_int (fun _ _ => rfl)) (pv 1)) (pg_sub (pv 0) pe_int set_list))
      (pss_one (ps_ret (pv 4))))) pss_nil)
      (pss_cons (ps_set (i := 2) sc_pull.nd rfl (Or.inl rfl) (pe_op op_add (pe_op op_mul (pe_op op_mul (pe_ix ix_list (pv 0) pe_int (fun _ _ => rfl)) (pe_ix ix_list (pv 0) pe_int (fun _ _ => rfl))) pe_int) (pe_op op_mul (pe_ix ix_list (pv 0) pe_int (fun _ _ => rfl)) pe_int)))
      (pss_cons (ps_asg (pe_op op_mod (pe_op op_add (pv 2) (pe_op op_mul pe_int (pe_ix ix_list (pv 0) pe_int (fun _ _ => rfl)))) pe_int) (pg_sub (pv 0) pe_int set_list))
      (pss_one (ps_ret (pe_op op_mod (pe_op op_fdiv (pe_ix ix_list (pv 0) pe_int (fun _ _ => rfl)) pe_int) (pv 1))))))))), ?_⟩
    -- the count of the draws
    have B1 := B.put (j' := j) (c' := c + 1) B.i0 B.i1 B.m0 B.m1
    refine ⟨.ref b, rfl, b, _, 4, .int c, rfl, rfl, SqL.of B.hb, atI_nat (j := 4) rfl, c, 1, rfl, rfl, .ref b, rfl, b, _, 4, 4, rfl, rfl, B.hb, rfl, ?_⟩
    refine ⟨fun σ H' => ∃ y2 y3 y4, σ = [some (.ref b), some (.int n), y2, y3, y4] ∧ Bag H' b s1 ∧ Keep b H H', ?_, ?_⟩
    · -- the next cell of the script
      refine ⟨.ref b, rfl, b, _, 2, .int j, rfl, rfl, SqL.of B1.hb, atI_nat (j := 2) rfl, rfl, _, rfl, ite2 (fun e => ?_) (fun e => ?_)⟩
      · refine ⟨.ref b, rfl, b, _, 1, .int i, rfl, rfl, SqL.of B1.hb, atI_nat (j := 1) rfl, .ref b, rfl, b, _, 0, .ref s1, rfl, rfl, SqL.of B1.hb, atI_nat (j := 0) rfl, s1, _, rfl, .inl (SqL.of B1.hs), i, _, rfl, rfl, _, rfl, ite2 (fun e2 => ?_) (fun e2 => ?_)⟩
        · have e3 : i < (ns.length : Int) := by
            have := of_decide_eq_true e2
            rw [List.length_map] at this
            exact this
          obtain ⟨z, hz⟩ := at_ex B.i0 e3
          have B2 := B1.put (j' := j) (c' := c + 1) (show 0 ≤ i + 1 by have := B.i0; omega) (show i + 1 ≤ (ns.length : Int) by omega) B.m0 B.m1
          refine ⟨.ref b, rfl, b, _, 0, .ref s1, rfl, rfl, SqL.of B1.hb, atI_nat (j := 0) rfl, .ref b, rfl, b, _, 1, .int i, rfl, rfl, SqL.of B1.hb, atI_nat (j := 1) rfl, s1, _, i, _, rfl, rfl, SqL.of B1.hs, hz, ?_⟩
          refine ⟨.ref b, rfl, b, _, 1, .int i, rfl, rfl, SqL.of B1.hb, atI_nat (j := 1) rfl, i, 1, rfl, rfl, .ref b, rfl, b, _, 1, 1, rfl, rfl, B1.hb, rfl, ?_⟩
          refine ⟨_, rfl, 10, 18, rfl, rfl, ⟨by decide, by decide, by decide⟩, z, _, rfl, rfl, _, rfl, ite2 (fun e4 => ?_) (fun e4 => ?_)⟩
          · have B3 := B2.put (j' := z) (c' := c + 1) (show 0 ≤ i + 1 by have := B.i0; omega) (show i + 1 ≤ (ns.length : Int) by omega) B.m0 B.m1
            refine ⟨_, rfl, .ref b, rfl, b, _, 2, 2, rfl, rfl, B2.hb, rfl, ?_⟩
            exact ⟨_, _, _, rfl, ⟨ns, _, _, _, _, B3⟩, keep_put.trans (keep_put.trans keep_put)⟩
          · refine ⟨.ref b, rfl, b, _, 3, .int m, rfl, rfl, SqL.of B2.hb, atI_nat (j := 3) rfl, m, 40014, rfl, rfl, .inr ⟨by decide, by decide⟩, _, rfl, z, 2147483399, rfl, rfl, (by show (0 : Int) < 2147483399; decide), _, 69069, rfl, rfl, .inr ⟨by decide, by decide⟩, _, _, rfl, rfl, ?_⟩
            refine ⟨_, rfl, _, 11, rfl, rfl, _, 2147483399, rfl, rfl, (by show (0 : Int) < 2147483399; decide), .ref b, rfl, b, _, 3, 3, rfl, rfl, B2.hb, rfl, ?_⟩
            have B3 := B2.put (j' := j) (m' := (m * 40014 + z % 2147483399 * 69069 + 11) % 2147483399) (c' := c + 1) (show 0 ≤ i + 1 by have := B.i0; omega) (show i + 1 ≤ (ns.length : Int) by omega) (by omega) (by omega)
            exact ⟨_, _, _, rfl, ⟨ns, _, _, _, _, B3⟩, keep_put.trans (keep_put.trans keep_put)⟩
        · exact ⟨_, _, _, rfl, ⟨ns, _, _, _, _, B1⟩, keep_put⟩
      · exact ⟨_, _, _, rfl, ⟨ns, _, _, _, _, B1⟩, keep_put⟩
    · rintro σ H' ⟨y2, y3, y4, rfl, ⟨ns2, i2, j2, m2, c2, B2⟩, k2⟩
      refine ⟨.ref b, rfl, b, _, 2, .int j2, rfl, rfl, SqL.of B2.hb, atI_nat (j := 2) rfl, j2, 0, rfl, rfl, _, rfl, ite2 (fun e => ?_) (fun e => ?_)⟩
      · have B3 := B2.put (j' := j2 / n) (c' := c2) B2.i0 B2.i1 B2.m0 B2.m1
        refine ⟨.ref b, rfl, b, _, 2, .int j2, rfl, rfl, SqL.of B2.hb, atI_nat (j := 2) rfl, .int n, rfl, j2, n, rfl, rfl, h0, ?_⟩
        refine ⟨.ref b, rfl, b, _, 2, .int j2, rfl, rfl, SqL.of B2.hb, atI_nat (j := 2) rfl, .int n, rfl, j2, n, rfl, rfl, wide_div h0 h1 (by decide) (by decide), .ref b, rfl, b, _, 2, 2, rfl, rfl, B2.hb, rfl, ?_⟩
        exact ⟨_, rfl, q _ _ (Int.emod_nonneg _ (by omega)) (Int.emod_lt_of_pos _ h0) ⟨ns2, _, _, _, _, B3⟩ (k2.trans keep_put)⟩
      · have hm : -(2 ^ 64) < m2 ∧ m2 < 2 ^ 64 := ⟨by have := B2.m0; omega, by have := B2.m1; omega⟩
        refine ⟨.ref b, rfl, b, _, 3, .int m2, rfl, rfl, SqL.of B2.hb, atI_nat (j := 3) rfl, .ref b, rfl, b, _, 3, .int m2, rfl, rfl, SqL.of B2.hb, atI_nat (j := 3) rfl, m2, m2, rfl, rfl, .inl hm, _, 7, rfl, rfl, .inr ⟨by decide, by decide⟩,
          .ref b, rfl, b, _, 3, .int m2, rfl, rfl, SqL.of B2.hb, atI_nat (j := 3) rfl, m2, 40692, rfl, rfl, .inr ⟨by decide, by decide⟩, _, _, rfl, rfl, ?_⟩
        refine ⟨_, rfl, .ref b, rfl, b, _, 4, .int c2, rfl, rfl, SqL.of B2.hb, atI_nat (j := 4) rfl, 1013904223, c2, rfl, rfl, .inl ⟨by decide, by decide⟩, _, _, rfl, rfl, _, 2147483399, rfl, rfl, (by show (0 : Int) < 2147483399; decide), .ref b, rfl, b, _, 3, 3, rfl, rfl, B2.hb, rfl, ?_⟩
        have B3 := B2.put (j' := j2) (m' := (m2 * m2 * 7 + m2 * 40692 + 1013904223 * c2) % 2147483399) (c' := c2) B2.i0 B2.i1 (Int.emod_nonneg _ (by decide)) (Int.emod_lt_of_pos _ (by decide))
        refine ⟨.ref b, rfl, b, _, 3, _, rfl, rfl, SqL.of B3.hb, atI_nat (j := 3) rfl, _, 37, rfl, rfl, ⟨by decide, by decide⟩, .int n, rfl, _, n, rfl, rfl, h0, ?_⟩
        exact q _ _ (Int.emod_nonneg _ (by omega)) (Int.emod_lt_of_pos _ h0) ⟨ns2, _, _, _, _, B3⟩ (k2.trans keep_put)
def spOf : Sp := fun vs H Q _ => ∃ (b sb l : Addr) (xs : List V), vs = [.ref b, .ref l] ∧ Bag H b sb ∧ H l = some (.lst xs) ∧ l ≠ b ∧ 0 < xs.length ∧ xs.length ≤ 1000 ∧ ∀ (i : Nat) (v : V) (H' : Hp), xs[i]? = some v → Bag H' b sb → Keep b H H' → Q v H'
theorem ok_of (T : Txt K mg) : FnOk P w K mg base CX0 2 T.f_of T.d_of ["_law_bag", "_law_some"] spOf := by
  refine T.F_of.ok sc_of (fun vs H Q E h => ?_) (fun cdv A outer s H vs Q E hr h => ?_)
  · obtain ⟨b, sb, l, xs, rfl, _⟩ := h
    rfl
  · obtain ⟨b, sb, l, xs, rfl, B, hl, nl, h0, h1, q⟩ := h
    refine ⟨_, (pss_one (ps_ret (pe_ix ix_list (pv 1) (pe_call (ok_pull T) (hr.mono (by decide)) (by rfl) T.g_pull T.F_pull.kp T.b_pull .nil pass0 (pa_cons (pv 0) (pa_cons (pe_callB call_len_seq (by rfl) T.n_len (by decide +kernel) (pa_cons (pv 1) pa_nil)) pa_nil))) (fun _ _ => rfl)))), ?_⟩
    have hn : ((xs.length : Int)).natAbs < 2 ^ 100 := Nat.lt_of_le_of_lt (show (xs.length : Int).natAbs ≤ 1000 by omega) (by decide)
    refine ⟨.ref l, rfl, .ref b, rfl, .ref l, rfl, l, xs, rfl, .inl (SqL.of hl), b, sb, _, rfl, B, (by show (0 : Int) < (xs.length : Int); omega), hn, fun z H' z0 z1 B' k' => ?_⟩
    obtain ⟨v, e1, e2⟩ := at_some z0 z1
    exact ⟨l, xs, z, v, rfl, rfl, k'.list nl hl, e2, q _ _ _ e1 B' k'⟩
end
section
variable {base : Heap} {K : PySem.W.Frag} {mg : Str → Option Value} {P : Program} {w : World}
def okR (x : Int) : Bool := !inV (.int x) [.int 4, .int 9, .int 16, .int 25, .int 36, .int 49, .int 64, .int 81]
def rootsTo : Nat → List Int
  | 0 => []
  | n + 1 => if okR (2 + (n : Int)) = true then rootsTo n ++ [2 + (n : Int)] else rootsTo n
theorem rootsTo_len : ∀ n, (rootsTo n).length ≤ n
  | 0 => Nat.le_refl _
  | n + 1 => by
    have := rootsTo_len n
    unfold rootsTo
    split
    · rw [List.length_append]
      simp
      omega
    · omega
def IsRoot (d : Int) : Prop := 2 ≤ d ∧ d ≤ 99 ∧ ∃ k : Int, 0 ≤ k ∧ k * k < d ∧ d < (k + 1) * (k + 1)
def kOf (d : Int) : Int := if d < 4 then 1 else if d < 9 then 2 else if d < 16 then 3 else if d < 25 then 4 else if d < 36 then 5 else if d < 49 then 6 else if d < 64 then 7 else if d < 81 then 8 else 9
theorem roots_are {d : Int} (h : d ∈ rootsTo 98) : IsRoot d := by
  have z : ∀ d ∈ rootsTo 98, 2 ≤ d ∧ d ≤ 99 ∧ 0 ≤ kOf d ∧ kOf d * kOf d < d ∧ d < (kOf d + 1) * (kOf d + 1) := by decide +kernel
  obtain ⟨a, b, c⟩ := z d h
  exact ⟨a, b, kOf d, c⟩
theorem isRoot_by {d : Int} (h : 2 ≤ d ∧ d ≤ 99 ∧ 0 ≤ kOf d ∧ kOf d * kOf d < d ∧ d < (kOf d + 1) * (kOf d + 1)) : IsRoot d := ⟨h.1, h.2.1, kOf d, h.2.2⟩
def spRoots : Sp := fun vs H Q _ => vs = [] ∧ ∀ p H', H p = none → Same H H' → H' p = some (.lst ((rootsTo 98).map V.int)) → Q (.ref p) H'
theorem ok_roots (T : Txt K mg) : FnOk P w K mg base CX0 1 T.f_roots T.d_roots [] spRoots := by
  refine T.F_roots.ok sc_roots (fun vs H Q E h => ?_) (fun cdv A outer s H vs Q E hr h => ?_)
  · obtain ⟨rfl, _⟩ := h
    rfl
  · obtain ⟨rfl, q⟩ := h
    refine ⟨_, (pss_one (ps_ret (pe_lc (own := [("_law_d", 0)]) (g := (gName 0)) (tt := tTest (tOp (rIn K true) _ _)) (by rfl) sc_roots.nd (pi_range2 (by rfl) T.n_range (pa_cons pe_int (pa_cons pe_int pa_nil))) (blkOk_by (own := [("_law_d", 0)]) (N := ["_law_d"]) (sc := defScope s_roots) (by decide +kernel)) (fun _ _ _ _ _ => (pg_name (i := 0) sc_roots.nd rfl (Or.inl rfl))) (fun _ _ _ _ _ => (pts_one (pt_cmpR op_notIn_seq (pv 0) (pe_tup (pa_cons pe_int (pa_cons pe_int (pa_cons pe_int (pa_cons pe_int (pa_cons pe_int (pa_cons pe_int (pa_cons pe_int (pa_cons pe_int pa_nil))))))))) (by rfl)))) (fun _ _ _ _ _ => (pv 0))))), ?_⟩
    refine ⟨2, 100, rfl, ⟨by decide, by decide, by decide, by decide⟩, fun D hD => ?_⟩
    refine lc_range (lo := 2) (n := 98) (fun i H' => Same H H' ∧ H' D = some (.lst ((rootsTo i).map V.int))) ⟨same_new hD, upd_same⟩ ?_ ?_
    · rintro i H' hi ⟨sm, hd⟩
      refine ⟨rfl, _, rfl, (by show 8 ≤ sizeLine; decide), fun t ht => ?_⟩
      refine ⟨t, _, rfl, .inr (SqT.of upd_same), rfl, rfl, _, rfl, ?_⟩
      have hd2 : (upd H' t (.tup [.int 4, .int 9, .int 16, .int 25, .int 36, .int 49, .int 64, .int 81])) D = some (.lst ((rootsTo i).map V.int)) := (upd_ne (ne_of_none hd ht)).trans hd
      refine ite2 (fun e => ?_) (fun e => ?_)
      · refine ⟨_, rfl, _, hd2, ?_, ?_, ?_⟩
        · rw [List.length_map]
          have := rootsTo_len i
          exact small1000 (by omega)
        · exact fun a o z => (upd_ne (ne_of_none z hD)).trans ((sm.trans (same_new ht)) a o z)
        · rw [upd_same]
          have e' : okR (2 + (i : Int)) = true := e
          rw [show rootsTo (i + 1) = rootsTo i ++ [2 + (i : Int)] by
            show (if okR (2 + (i : Int)) = true then rootsTo i ++ [2 + (i : Int)] else rootsTo i) = _
            rw [if_pos e'], List.map_append]
          rfl
      · refine ⟨sm.trans (same_new ht), ?_⟩
        have e' : ¬ okR (2 + (i : Int)) = true := e
        rw [show rootsTo (i + 1) = rootsTo i by
          show (if okR (2 + (i : Int)) = true then rootsTo i ++ [2 + (i : Int)] else rootsTo i) = _
          rw [if_neg e']]
        exact hd2
    · rintro H' ⟨sm, hd⟩
      exact q D H' hD sm hd
end
section
variable {base : Heap} {K : PySem.W.Frag} {mg : Str → Option Value} {P : Program} {w : World}
def spARoot : Sp := fun vs H Q _ => ∃ b sb : Addr, vs = [.ref b] ∧ Bag H b sb ∧ ∀ d H', IsRoot d → Bag H' b sb → Keep b H H' → Q (.int d) H'
theorem root_in {i : Nat} {v : V} (h : ((rootsTo 98).map V.int)[i]? = some v) : ∃ d, v = .int d ∧ IsRoot d := by
  rw [List.getElem?_map] at h
  cases e : (rootsTo 98)[i]? with
  | none =>
    rw [e] at h
    cases h
  | some d =>
    rw [e] at h
    exact ⟨d, (Option.some.inj h).symm, roots_are (List.mem_of_getElem? e)⟩
theorem ok_a_root (T : Txt K mg) : FnOk P w K mg base CX0 3 T.f_a_root T.d_a_root ["_law_bag"] spARoot := by
  refine T.F_a_root.ok sc_a_root (fun vs H Q E h => ?_) (fun cdv A outer s H vs Q E hr h => ?_)
  · obtain ⟨b, sb, rfl, _⟩ := h
    rfl
  · obtain ⟨b, sb, rfl, B, q⟩ := h
    refine ⟨_, (pss_one (ps_ret (pe_call (ok_of T) (hr.mono (by decide)) (by rfl) T.g_of T.F_of.kp T.b_of .nil pass0 (pa_cons (pv 0) (pa_cons (pe_lst (pa_cons pe_int (pa_cons pe_int (pa_cons pe_int (pa_cons pe_int (pa_cons (pe_call (ok_of T) (hr.mono (by decide)) (by rfl) T.g_of T.F_of.kp T.b_of .nil pass0 (pa_cons (pv 0) (pa_cons (pe_call0 (ok_roots T) (hr.mono (by decide)) (by rfl) T.g_roots T.F_roots.kp T.b_roots .nil pass0) pa_nil))) (pa_cons (pe_call (ok_of T) (hr.mono (by decide)) (by rfl) T.g_of T.F_of.kp T.b_of .nil pass0 (pa_cons (pv 0) (pa_cons (pe_call0 (ok_roots T) (hr.mono (by decide)) (by rfl) T.g_roots T.F_roots.kp T.b_roots .nil pass0) pa_nil))) pa_nil))))))) pa_nil))))), ?_⟩
    have hz : ((rootsTo 98).map V.int).length = 90 := by decide +kernel
    refine ⟨.ref b, rfl, .ref b, rfl, rfl, fun p H1 hp s1 h1 => ?_⟩
    refine ⟨b, sb, p, _, rfl, B.same s1, h1, B.ne hp, by omega, by omega, fun i v H2 hv B2 k2 => ?_⟩
    obtain ⟨r1, rfl, i1⟩ := root_in hv
    refine ⟨.ref b, rfl, rfl, fun p' H3 hp' s3 h3 => ?_⟩
    refine ⟨b, sb, p', _, rfl, B2.same s3, h3, B2.ne hp', by omega, by omega, fun i' v' H4 hv' B4 k4 => ?_⟩
    obtain ⟨r2, rfl, i2⟩ := root_in hv'
    refine ⟨(by show 6 ≤ sizeLine; decide), fun l hl => ?_⟩
    refine ⟨b, sb, l, _, rfl, B4.new hl, upd_same, B4.ne hl, by simp, by simp, fun i v H5 hv B5 k5 => ?_⟩
    have kk : Keep b H H5 := (keep_of s1).trans (k2.trans ((keep_of s3).trans (k4.trans ((keep_new hl).trans k5))))
    match i, hv with
    | 0, hv => cases hv; exact q 2 H5 (isRoot_by (by decide)) B5 kk
    | 1, hv => cases hv; exact q 3 H5 (isRoot_by (by decide)) B5 kk
    | 2, hv => cases hv; exact q 5 H5 (isRoot_by (by decide)) B5 kk
    | 3, hv => cases hv; exact q 99 H5 (isRoot_by (by decide)) B5 kk
    | 4, hv => cases hv; exact q r1 H5 i1 B5 kk
    | 5, hv => cases hv; exact q r2 H5 i2 B5 kk
    | n + 6, hv => simp at hv
end
section
variable {base : Heap} {K : PySem.W.Frag} {mg : Str → Option Value} {P : Program} {w : World}
def spAnyPair : Sp := fun vs H Q _ => ∃ b sb : Addr, vs = [.ref b] ∧ Bag H b sb ∧ ∀ x y p H', -(10 ^ 6) ≤ x → x ≤ 10 ^ 6 → -(10 ^ 6) ≤ y → y ≤ 10 ^ 6 → H p = none → H' p = some (.tup [.int x, .int y]) → Bag H' b sb → Keep b H H' → Q (.ref p) H'
theorem ok_any_pair (T : Txt K mg) : FnOk P w K mg base CX0 3 T.f_any_pair T.d_any_pair ["_law_bag"] spAnyPair := by
  refine T.F_any_pair.ok sc_any_pair (fun vs H Q E h => ?_) (fun cdv A outer s H vs Q E hr h => ?_)
  · obtain ⟨b, sb, rfl, _⟩ := h
    rfl
  · obtain ⟨b, sb, rfl, B, q⟩ := h
    refine ⟨_, (pss_cons (ps_set (i := 1) sc_any_pair.nd rfl (Or.inl rfl) (pe_call (ok_of T) (hr.mono (by decide)) (by rfl) T.g_of T.F_of.kp T.b_of .nil pass0 (pa_cons (pv 0) (pa_cons (pe_lst (pa_cons pe_int (pa_cons pe_int (pa_cons pe_int (pa_cons pe_int (pa_cons (pe_op op_pow pe_int pe_int) pa_nil)))))) pa_nil))))
      (pss_one (ps_ret (pe_tup (pa_cons (pe_op op_sub (pe_call (ok_pull T) (hr.mono (by decide)) (by rfl) T.g_pull T.F_pull.kp T.b_pull .nil pass0 (pa_cons (pv 0) (pa_cons (pe_op op_add (pe_op op_mul pe_int (pv 1)) pe_int) pa_nil))) (pv 1)) (pa_cons (pe_op op_sub (pe_call (ok_pull T) (hr.mono (by decide)) (by rfl) T.g_pull T.F_pull.kp T.b_pull .nil pass0 (pa_cons (pv 0) (pa_cons (pe_op op_add (pe_op op_mul pe_int (pv 1)) pe_int) pa_nil))) (pv 1)) pa_nil)))))), ?_⟩
    refine ⟨.ref b, rfl, 10, 6, rfl, rfl, ⟨by decide, by decide, by decide⟩, (by show 5 ≤ sizeLine; decide), fun l hl => ?_⟩
    refine ⟨b, sb, l, _, rfl, B.new hl, upd_same, B.ne hl, by decide, by decide, fun i v H1 hv B1 k1 => ?_⟩
    obtain ⟨n, rfl, n0, n1⟩ : ∃ n : Int, v = .int n ∧ 1 ≤ n ∧ n ≤ 10 ^ 6 := by
      match i, hv with
      | 0, hv => cases hv; exact ⟨2, rfl, by decide, by decide⟩
      | 1, hv => cases hv; exact ⟨5, rfl, by decide, by decide⟩
      | 2, hv => cases hv; exact ⟨9, rfl, by decide, by decide⟩
      | 3, hv => cases hv; exact ⟨30, rfl, by decide, by decide⟩
      | 4, hv => cases hv; exact ⟨10 ^ 6, rfl, by decide, by decide⟩
      | n + 5, hv => simp at hv
    have hn : (2 * n + 1).natAbs < 2 ^ 100 := Nat.lt_of_le_of_lt (show (2 * n + 1).natAbs ≤ 2000001 by omega) (by decide)
    refine ⟨.ref b, rfl, _, rfl, 2, n, rfl, rfl, .inl ⟨by decide, by decide⟩, _, 1, rfl, rfl, b, sb, _, rfl, B1, (show (0 : Int) < 2 * n + 1 by omega), hn, fun z H2 z0 z1 B2 k2 => ?_⟩
    refine ⟨_, rfl, z, n, rfl, rfl, .ref b, rfl, _, rfl, 2, n, rfl, rfl, .inl ⟨by decide, by decide⟩, _, 1, rfl, rfl, b, sb, _, rfl, B2, (show (0 : Int) < 2 * n + 1 by omega), hn, fun z' H3 z0' z1' B3 k3 => ?_⟩
    refine ⟨_, rfl, z', n, rfl, rfl, (by show 2 ≤ sizeLine; decide), fun p hp => ?_⟩
    have kk : Keep b H H3 := (keep_new hl).trans (k1.trans (k2.trans k3))
    have hpn : H p = none := by
      cases e : H p with
      | none => rfl
      | some o => exact absurd (kk p o (B3.ne hp) e) (by rw [hp]; simp)
    exact q _ _ p _ (by omega) (by omega) (by omega) (by omega) hpn upd_same (B3.new hp) (kk.trans (keep_new hp))
end
section
variable {base : Heap} {K : PySem.W.Frag} {mg : Str → Option Value} {P : Program} {w : World}
def spSource (K : PySem.W.Frag) : Sp := fun vs H Q _ => ∃ (a : Addr) (ns : List Int), vs = [.ref a] ∧ SqL K H a (ns.map V.int) ∧ ns.length ≤ 63 ∧ ∀ b sb H', H b = none → Same H H' → Bag H' b sb → Q (.ref b) H'
theorem ok_source (T : Txt K mg) : FnOk P w K mg base CX0 1 T.f_source T.d_source ["_law_script"] (spSource K) := by
  refine T.F_source.ok sc_source (fun vs H Q E h => ?_) (fun cdv A outer s H vs Q E hr h => ?_)
  · obtain ⟨a, ns, rfl, _⟩ := h
    rfl
  · obtain ⟨a, ns, rfl, hS, hlen, q⟩ := h
    refine ⟨_, (pss_cons (ps_set (i := 1) sc_source.nd rfl (Or.inl rfl) pe_int)
      (pss_cons (ps_for PassesOwn.never rfl (pi_list (pe_slice sl_list (pv 0) po_none (po_some pe_int))) (pg_name (i := 2) sc_source.nd rfl (Or.inl rfl)) (pss_one (ps_set (i := 1) sc_source.nd rfl (Or.inl rfl) (pe_op op_mod (pe_op op_add (pe_op op_add (pe_op op_mul (pv 1) pe_int) (pe_op op_mod (pv 2) pe_int)) pe_int) pe_int))))
      (pss_one (ps_ret (pe_lst (pa_cons (pe_callTy call_list_of (by rfl) T.n_list (by decide +kernel) (pa_cons (pe_slice sl_list (pv 0) po_none (po_some pe_int)) pa_nil)) (pa_cons pe_int (pa_cons pe_int (pa_cons (pv 1) (pa_cons pe_int pa_nil)))))))))), ?_⟩
    have hcut : cutV (ns.map V.int) none (some 63) = ns.map V.int := by
      unfold cutV
      rw [HT.sIx_none, show HT.sIx (ns.map V.int).length (ns.map V.int).length (some 63) = min 63 (ns.map V.int).length from HT.sIx_nat _ _ 63]
      rw [List.drop_zero, List.length_map, Nat.sub_zero, Nat.min_eq_right hlen]
      exact List.take_of_length_le (by rw [List.length_map]; exact Nat.le_refl _)
    refine ⟨.ref a, rfl, 63, rfl, a, _, rfl, hS, fun p hp => ?_⟩
    rw [hcut]
    refine ⟨p, rfl, ⟨_, SqL.of upd_same⟩, for_list (K := K) (a := p) (xs := ns.map V.int) (fun i σ H2 => ∃ (m : Int) (y : Option V), σ = [some (.ref a), some (.int m), y] ∧ 0 ≤ m ∧ m < 2147483399 ∧ H2 = upd H p (.lst (ns.map V.int)))
      ⟨3812, none, rfl, by decide, by decide, rfl⟩ (fun i σ H2 _ ⟨_, _, _, _, _, e⟩ => by rw [e]; exact SqL.of upd_same) ?_ ?_⟩
    · rintro i x σ H2 hx ⟨m, y, rfl, m0, m1, rfl⟩
      obtain ⟨z, rfl⟩ : ∃ z, x = V.int z := by
        rw [List.getElem?_map] at hx
        cases e : ns[i]? with
        | none =>
          rw [e] at hx
          cases hx
        | some z =>
          rw [e] at hx
          exact ⟨z, (Option.some.inj hx).symm⟩
      refine ⟨_, rfl, m, 40692, rfl, rfl, .inr ⟨by decide, by decide⟩, _, rfl, z, 2147483399, rfl, rfl, (by show (0 : Int) < 2147483399; decide), _, _, rfl, rfl, _, 17, rfl, rfl, _, 2147483399, rfl, rfl, (by show (0 : Int) < 2147483399; decide), ?_⟩
      exact ⟨_, _, rfl, Int.emod_nonneg _ (by decide), Int.emod_lt_of_pos _ (by decide), rfl⟩
    · rintro σ H2 ⟨m, y, rfl, m0, m1, rfl⟩
      have hS2 : SqL K (upd H p (.lst (ns.map V.int))) a (ns.map V.int) := (same_new hp).seq hS
      refine ⟨.ref a, rfl, 63, rfl, a, _, rfl, hS2, fun p2 hp2 => ?_⟩
      rw [hcut]
      refine ⟨p2, _, rfl, .inl (SqL.of upd_same), fun l hl => ?_⟩
      refine ⟨_, rfl, (by show 5 ≤ sizeLine; decide), fun b hb => ?_⟩
      have sm : Same H (upd (upd (upd (upd H p (.lst (ns.map V.int))) p2 (.lst (ns.map V.int))) l (.lst (ns.map V.int))) b (.lst [.ref l, .int 0, .int 0, .int m, .int 0])) := (same_new hp).trans ((same_new hp2).trans ((same_new hl).trans (same_new hb)))
      exact q b l _ (((same_new hp).trans ((same_new hp2).trans (same_new hl))).free hb) sm ⟨ns, 0, 0, m, 0, upd_same, same_new hb _ _ upd_same, Int.le_refl _, by omega, m0, m1⟩
end
/-! ### like -/
def Flat (x y : V) : Prop := (∃ i, x = .int i ∧ y = .int i) ∨ (∃ b, x = .bl b ∧ y = .bl b) ∨ (x = .non ∧ y = .non) ∨ (∃ t, x = .str t ∧ y = .str t)
def Two (H : Hp) (p q : Addr) (xs ys : List V) : Prop := (H p = some (.tup xs) ∧ H q = some (.tup ys)) ∨ (H p = some (.lst xs) ∧ H q = some (.lst ys))
def Lk (H : Hp) : Nat → V → V → Prop
  | 0, x, y => Flat x y
  | n + 1, x, y => Flat x y ∨ ∃ (p q : Addr) (xs ys : List V), x = .ref p ∧ y = .ref q ∧ Two H p q xs ys ∧ xs.length = ys.length ∧ xs.length ≤ 1000 ∧ ∀ (i : Nat) (x y : V), xs[i]? = some x → ys[i]? = some y → Lk H n x y
theorem Two.same {H H' : Hp} {p q : Addr} {xs ys : List V} (h : Two H p q xs ys) (s : Same H H') : Two H' p q xs ys := by
  rcases h with ⟨a, b⟩ | ⟨a, b⟩
  · exact .inl ⟨s _ _ a, s _ _ b⟩
  · exact .inr ⟨s _ _ a, s _ _ b⟩
theorem Lk.same {H H' : Hp} (s : Same H H') : ∀ {n : Nat} {x y : V}, Lk H n x y → Lk H' n x y
  | 0, _, _, h => h
  | n + 1, _, _, h => by
    rcases h with h | ⟨p, q, xs, ys, e1, e2, t, l1, l2, a⟩
    · exact .inl h
    · exact .inr ⟨p, q, xs, ys, e1, e2, t.same s, l1, l2, fun i x y h1 h2 => (a i x y h1 h2).same s⟩
theorem Lk.flat {H : Hp} {n : Nat} {x y : V} (h : Flat x y) : Lk H n x y := match n with
  | 0 => h
  | _ + 1 => .inl h
section
variable {base : Heap} {K : PySem.W.Frag} {mg : Str → Option Value} {P : Program} {w : World}
def spLL (L : V → V → Hp → Prop) : Sp := fun vs H Q _ => ∃ x y : V, vs = [x, y] ∧ L x y H ∧ ∀ H', Same H H' → Q (.bl true) H'
theorem kit2 {a : String} {r1 r2 : Bool} (h1 : kitB a "tuple" = some r1) (h2 : kitB a "list" = some r2) : PySem.W.kitAny K (.type a) [.type "tuple", .type "list"] = some (r1 || r2) := by
  refine kitAny_cons (kit_ty h1) (fun e => ?_) (fun e => by rw [e]; rfl)
  subst e
  exact kitAny_cons (kit_ty h2) (fun e => by rw [e]; exact kitAny_nil) (fun e => by rw [e]; rfl)
theorem lk_core (T : Txt K mg) {k : Nat} {L L' : V → V → Hp → Prop} (G : FnOk P w K mg base CX0 k T.f_like T.d_like ["_law_found", "_law_due"] (spLL L')) (hs : ∀ x y H H', Same H H' → L' x y H → L' x y H')
    (hne : ∀ x y H, L x y H → Flat x y ∨ ∃ (p q : Addr) (xs ys : List V), x = .ref p ∧ y = .ref q ∧ Two H p q xs ys ∧ xs.length = ys.length ∧ xs.length ≤ 1000 ∧ ∀ (i : Nat) (x y : V), xs[i]? = some x → ys[i]? = some y → L' x y H) :
    FnOk P w K mg base CX0 (k + 1) T.f_like T.d_like ["_law_found", "_law_due"] (spLL L) := by
  refine T.F_like.ok sc_like (fun vs H Q E h => ?_) (fun cdv A outer s H vs Q E hr h => ?_)
  · obtain ⟨x, y, rfl, _⟩ := h
    rfl
  · obtain ⟨x, y, rfl, hl, qq⟩ := h
    refine ⟨_, (pss_cons (ps_if (pt_val (pe_callB call_isiT (by rfl) T.n_isinstance (by decide +kernel) (pa_cons (pv 1) (pa_cons (pe_tup (pa_cons (pe_bltn (v := .ty "tuple") (by rfl) T.n_tuple (by decide +kernel) rfl) (pa_cons (pe_bltn (v := .ty "list") (by rfl) T.n_list (by decide +kernel) rfl) pa_nil))) pa_nil)))) (pss_cons (ps_if (PW.pt (pw_or (pt_cmpR op_ne (pe_callB call_isi (by rfl) T.n_isinstance (by decide +kernel) (pa_cons (pv 0) (pa_cons (pe_bltn (v := .ty "tuple") (by rfl) T.n_tuple (by decide +kernel) rfl) pa_nil))) (pe_callB call_isi (by rfl) T.n_isinstance (by decide +kernel) (pa_cons (pv 1) (pa_cons (pe_bltn (v := .ty "tuple") (by rfl) T.n_tuple (by decide +kernel) rfl) pa_nil))) (nomark _)) (pw_or1 (pt_cmpR op_ne (pe_callB call_isi (by rfl) T.n_isinstance (by decide +kernel) (pa_cons (pv 0) (pa_cons (pe_bltn (v := .ty "list") (by rfl) T.n_list (by decide +kernel) rfl) pa_nil))) (pe_callB call_isi (by rfl) T.n_isinstance (by decide +kernel) (pa_cons (pv 1) (pa_cons (pe_bltn (v := .ty "list") (by rfl) T.n_list (by decide +kernel) rfl) pa_nil))) (nomark _))))) (pss_one (ps_ret pe_bl)) pss_nil)
      (pss_one (ps_ret (pe_and (pe_cmpR op_eq (pe_callB call_len_seq (by rfl) T.n_len (by decide +kernel) (pa_cons (pv 0) pa_nil)) (pe_callB call_len_seq (by rfl) T.n_len (by decide +kernel) (pa_cons (pv 1) pa_nil)) (nomark _)) (pe_one (pe_callB (cr_all rfl) (by rfl) T.n_all (by decide +kernel) (pa_cons (pe_lc (own := [("_law_k", 2)]) (g := (gName 2)) (tt := tYes) (te := tCall (spLL L') [] E0 (tCons (tOp (rIx K) _ _) (tCons (tOp (rIx K) _ _) _))) (by rfl) sc_like.nd (pi_range1 (by rfl) T.n_range (pa_cons (pe_callB call_len_seq (by rfl) T.n_len (by decide +kernel) (pa_cons (pv 1) pa_nil)) pa_nil)) (blkOk_by (own := [("_law_k", 2)]) (N := ["_law_found", "_law_due", "_law_k"]) (sc := defScope s_like) (by decide +kernel)) (fun _ _ _ _ _ => (pg_name (i := 2) sc_like.nd rfl (Or.inl rfl))) (fun _ _ _ _ _ => pts_nil) (fun _ _ _ _ _ => (pe_call G hr (by rfl) T.g_like T.F_like.kp T.b_like .nil pass0 (pa_cons (pe_ix ix_seq (pv 0) (pv 2) (fun _ _ => rfl)) (pa_cons (pe_ix ix_seq (pv 1) (pv 2) (fun _ _ => rfl)) pa_nil))))) pa_nil))))))) pss_nil)
      (pss_cons (ps_if (PW.pt (pw_or (pt_cmpR op_isN (pv 1) pe_non (nomark _)) (pw_or1 (pt_cmpR op_isN (pv 0) pe_non (nomark _))))) (pss_one (ps_ret (pe_and (pe_cmpR op_isN (pv 1) pe_non (nomark _)) (pe_one (pe_cmpR op_isN (pv 0) pe_non (nomark _)))))) pss_nil)
      (pss_one (ps_ret (pe_and (pe_cmpR op_eq (pe_callB call_isi (by rfl) T.n_isinstance (by decide +kernel) (pa_cons (pv 0) (pa_cons (pe_bltn (v := .ty "bool") (by rfl) T.n_bool (by decide +kernel) rfl) pa_nil))) (pe_callB call_isi (by rfl) T.n_isinstance (by decide +kernel) (pa_cons (pv 1) (pa_cons (pe_bltn (v := .ty "bool") (by rfl) T.n_bool (by decide +kernel) rfl) pa_nil))) (nomark _)) (pe_one (pe_cmpR op_eq (pv 0) (pv 1) (nomark _)))))))), ?_⟩
    refine ⟨_, rfl, by show 2 ≤ sizeLine; decide, fun tp htp => ?_⟩
    have sm := same_new (o := .tup [.ty "tuple", .ty "list"]) htp
    rcases hne x y H hl with (⟨i, rfl, rfl⟩ | ⟨b, rfl, rfl⟩ | ⟨rfl, rfl⟩ | ⟨i, rfl, rfl⟩) | ⟨p, q, xs, ys, rfl, rfl, hT, l1, l2, hA⟩
    · refine ⟨.int i, tp, [.ty "tuple", .ty "list"], .type "int", [.type "tuple", .type "list"], (false || false), rfl, upd_same, .cons (ClsV.ty _) (.cons (ClsV.ty _) .nil), TyX.base (TyOf.int _), kit2 (by decide +kernel) (by decide +kernel), _, rfl, iteF ?_⟩
      refine ⟨_, rfl, rfl, _, rfl, iteF ?_⟩
      refine ⟨_, rfl, rfl, _, rfl, iteF ?_⟩
      refine ⟨_, rfl, .int i, .ty "bool", _, _, false, rfl, ClsV.ty _, TyX.base (TyOf.int _), kit_ty (by decide +kernel), _, rfl, .int i, .ty "bool", _, _, false, rfl, ClsV.ty _, TyX.base (TyOf.int _), kit_ty (by decide +kernel), rfl, true, rfl, iteT ?_⟩
      refine ⟨_, rfl, _, rfl, rfl, ?_⟩
      rw [decide_eq_true rfl]
      exact qq _ sm
    · refine ⟨.bl b, tp, [.ty "tuple", .ty "list"], .type "bool", [.type "tuple", .type "list"], (false || false), rfl, upd_same, .cons (ClsV.ty _) (.cons (ClsV.ty _) .nil), TyX.base (TyOf.bl _), kit2 (by decide +kernel) (by decide +kernel), _, rfl, iteF ?_⟩
      refine ⟨_, rfl, rfl, _, rfl, iteF ?_⟩
      refine ⟨_, rfl, rfl, _, rfl, iteF ?_⟩
      refine ⟨_, rfl, .bl b, .ty "bool", _, _, true, rfl, ClsV.ty _, TyX.base (TyOf.bl _), kit_ty (by decide +kernel), _, rfl, .bl b, .ty "bool", _, _, true, rfl, ClsV.ty _, TyX.base (TyOf.bl _), kit_ty (by decide +kernel), rfl, true, rfl, iteT ?_⟩
      refine ⟨_, rfl, _, rfl, rfl, ?_⟩
      rw [decide_eq_true rfl]
      exact qq _ sm
    · refine ⟨.non, tp, [.ty "tuple", .ty "list"], .type "NoneType", [.type "tuple", .type "list"], (false || false), rfl, upd_same, .cons (ClsV.ty _) (.cons (ClsV.ty _) .nil), TyX.base TyOf.non, kit2 (by decide +kernel) (by decide +kernel), _, rfl, iteF ?_⟩
      refine ⟨_, rfl, rfl, _, rfl, iteT ?_⟩
      exact ⟨_, rfl, rfl, true, rfl, iteT ⟨_, rfl, rfl, qq _ sm⟩⟩
    · refine ⟨.str i, tp, [.ty "tuple", .ty "list"], .type "str", [.type "tuple", .type "list"], (false || false), rfl, upd_same, .cons (ClsV.ty _) (.cons (ClsV.ty _) .nil), TyX.base (TyOf.str _), kit2 (by decide +kernel) (by decide +kernel), _, rfl, iteF ?_⟩
      refine ⟨_, rfl, rfl, _, rfl, iteF ?_⟩
      refine ⟨_, rfl, rfl, _, rfl, iteF ?_⟩
      refine ⟨_, rfl, .str i, .ty "bool", _, _, false, rfl, ClsV.ty _, TyX.base (TyOf.str _), kit_ty (by decide +kernel), _, rfl, .str i, .ty "bool", _, _, false, rfl, ClsV.ty _, TyX.base (TyOf.str _), kit_ty (by decide +kernel), rfl, true, rfl, iteT ?_⟩
      refine ⟨_, rfl, _, rfl, rfl, ?_⟩
      rw [decide_eq_true rfl]
      exact qq _ sm
    · have hT' := hT.same sm
      rcases hT' with ⟨hp, hq⟩ | ⟨hp, hq⟩
      · refine ⟨.ref q, tp, [.ty "tuple", .ty "list"], .type "tuple", [.type "tuple", .type "list"], (true || false), rfl, upd_same, .cons (ClsV.ty _) (.cons (ClsV.ty _) .nil), TyX.base (TyOf.tup hq), kit2 (by decide +kernel) (by decide +kernel), _, rfl, iteT ?_⟩
        refine ⟨_, rfl, .ref p, .ty "tuple", _, _, true, rfl, ClsV.ty _, TyX.base (TyOf.tup hp), kit_ty (by decide +kernel), _, rfl, .ref q, .ty "tuple", _, _, true, rfl, ClsV.ty _, TyX.base (TyOf.tup hq), kit_ty (by decide +kernel), rfl, _, rfl, iteF ?_⟩
        refine ⟨_, rfl, .ref p, .ty "list", _, _, false, rfl, ClsV.ty _, TyX.base (TyOf.tup hp), kit_ty (by decide +kernel), _, rfl, .ref q, .ty "list", _, _, false, rfl, ClsV.ty _, TyX.base (TyOf.tup hq), kit_ty (by decide +kernel), rfl, _, rfl, iteF ?_⟩
        refine ⟨_, rfl, p, xs, rfl, .inr (SqT.of hp), _, rfl, q, ys, rfl, .inr (SqT.of hq), rfl, true, (by rw [l1, decide_eq_true rfl]), iteT ?_⟩
        refine ⟨_, rfl, q, ys, rfl, .inr (SqT.of hq), _, rfl, (by omega), (by omega), fun D hD => ?_⟩
        refine lc_range (lo := 0) (n := ys.length) (fun i H' => Same H H' ∧ H' D = some (.lst ((List.replicate i true).map V.bl))) ⟨sm.trans (same_new hD), upd_same⟩ ?_ ?_
        · rintro i H' hi ⟨sm', hd⟩
          obtain ⟨x1, e1, f1⟩ := at_some (xs := xs) (show 0 ≤ (0 : Int) + (i : Int) by omega) (by omega)
          obtain ⟨y1, e2, f2⟩ := at_some (xs := ys) (show 0 ≤ (0 : Int) + (i : Int) by omega) (by omega)
          rcases hT with ⟨hp0, hq0⟩ | ⟨hp0, hq0⟩
          · refine ⟨rfl, ⟨_, rfl, _, rfl, .inr (.inl ⟨p, xs, _, x1, rfl, rfl, SqT.of (sm' _ _ hp0), f1, _, rfl, _, rfl, .inr (.inl ⟨q, ys, _, y1, rfl, rfl, SqT.of (sm' _ _ hq0), f2, x1, y1, rfl, hs _ _ _ _ sm' (hA _ _ _ e1 e2), fun H2 s2 => ?_⟩)⟩)⟩⟩
            refine ⟨_, s2 _ _ hd, ?_, ?_, ?_⟩
            · rw [List.length_map, List.length_replicate]
              exact small1000 (by omega)
            · exact fun a o z => (upd_ne (ne_of_none z (sm.free hD))).trans (s2 _ _ (sm' a o z))
            · rw [upd_same, List.replicate_succ', List.map_append]
              rfl
          · exact absurd (sm _ _ hp0) (by rw [hp]; simp)
        · rintro H' ⟨sm', hd⟩
          refine ⟨D, _, rfl, SqL.of hd, ?_⟩
          rw [show (List.replicate ys.length true).all id = true by simp]
          exact qq _ sm'
      · refine ⟨.ref q, tp, [.ty "tuple", .ty "list"], .type "list", [.type "tuple", .type "list"], (false || true), rfl, upd_same, .cons (ClsV.ty _) (.cons (ClsV.ty _) .nil), TyX.base (TyOf.lst hq), kit2 (by decide +kernel) (by decide +kernel), _, rfl, iteT ?_⟩
        refine ⟨_, rfl, .ref p, .ty "tuple", _, _, false, rfl, ClsV.ty _, TyX.base (TyOf.lst hp), kit_ty (by decide +kernel), _, rfl, .ref q, .ty "tuple", _, _, false, rfl, ClsV.ty _, TyX.base (TyOf.lst hq), kit_ty (by decide +kernel), rfl, _, rfl, iteF ?_⟩
        refine ⟨_, rfl, .ref p, .ty "list", _, _, true, rfl, ClsV.ty _, TyX.base (TyOf.lst hp), kit_ty (by decide +kernel), _, rfl, .ref q, .ty "list", _, _, true, rfl, ClsV.ty _, TyX.base (TyOf.lst hq), kit_ty (by decide +kernel), rfl, _, rfl, iteF ?_⟩
        refine ⟨_, rfl, p, xs, rfl, .inl (SqL.of hp), _, rfl, q, ys, rfl, .inl (SqL.of hq), rfl, true, (by rw [l1, decide_eq_true rfl]), iteT ?_⟩
        refine ⟨_, rfl, q, ys, rfl, .inl (SqL.of hq), _, rfl, (by omega), (by omega), fun D hD => ?_⟩
        refine lc_range (lo := 0) (n := ys.length) (fun i H' => Same H H' ∧ H' D = some (.lst ((List.replicate i true).map V.bl))) ⟨sm.trans (same_new hD), upd_same⟩ ?_ ?_
        · rintro i H' hi ⟨sm', hd⟩
          obtain ⟨x1, e1, f1⟩ := at_some (xs := xs) (show 0 ≤ (0 : Int) + (i : Int) by omega) (by omega)
          obtain ⟨y1, e2, f2⟩ := at_some (xs := ys) (show 0 ≤ (0 : Int) + (i : Int) by omega) (by omega)
          rcases hT with ⟨hp0, hq0⟩ | ⟨hp0, hq0⟩
          · exact absurd (sm _ _ hp0) (by rw [hp]; simp)
          · refine ⟨rfl, ⟨_, rfl, _, rfl, .inl ⟨p, xs, _, x1, rfl, rfl, SqL.of (sm' _ _ hp0), f1, _, rfl, _, rfl, .inl ⟨q, ys, _, y1, rfl, rfl, SqL.of (sm' _ _ hq0), f2, x1, y1, rfl, hs _ _ _ _ sm' (hA _ _ _ e1 e2), fun H2 s2 => ?_⟩⟩⟩⟩
            refine ⟨_, s2 _ _ hd, ?_, ?_, ?_⟩
            · rw [List.length_map, List.length_replicate]
              exact small1000 (by omega)
            · exact fun a o z => (upd_ne (ne_of_none z (sm.free hD))).trans (s2 _ _ (sm' a o z))
            · rw [upd_same, List.replicate_succ', List.map_append]
              rfl
        · rintro H' ⟨sm', hd⟩
          refine ⟨D, _, rfl, SqL.of hd, ?_⟩
          rw [show (List.replicate ys.length true).all id = true by simp]
          exact qq _ sm'
theorem ok_likeN (T : Txt K mg) : ∀ n : Nat, FnOk P w K mg base CX0 (n + 1) T.f_like T.d_like ["_law_found", "_law_due"] (spLL fun x y H => Lk H n x y)
  | 0 => lk_core T (L' := fun _ _ _ => False) ⟨fun _ _ _ _ ⟨_, _, _, h, _⟩ => h.elim, fun _ _ _ _ _ _ _ _ _ _ _ _ _ ⟨_, _, _, h, _⟩ => h.elim⟩ (fun _ _ _ _ _ h => h) fun x y H h => .inl h
  | n + 1 => lk_core T (ok_likeN T n) (fun _ _ _ _ s h => h.same s) fun x y H h => h
theorem ok_like (T : Txt K mg) : FnOk P w K mg base CX0 7 T.f_like T.d_like ["_law_found", "_law_due"] (spLL fun x y H => Lk H 6 x y) := ok_likeN T 6
end
/-! ### the field of a caught error -/
/-- the error of the class cls with its dict at d: its word, its other field -/
structure ErrIs (K : PySem.W.Frag) (H : Hp) (cls : Value) (d : Option Addr) (w : Str) (fs : List (Str × V)) : Prop where
  ex : ∃ C dd : Addr, cls = .ref C ∧ d = some dd ∧ XfC K C ∧ H dd = some (.xd fs) ∧ ∀ f v, fs.lookup f = some v → PySem.W.findIn K (.ref C) f = some none
  wd : fs.lookup ("word" : Str) = some (.str w)
theorem ErrIs.same {K : PySem.W.Frag} {H H' : Hp} {cls : Value} {d : Option Addr} {w : Str} {fs : List (Str × V)} (h : ErrIs K H cls d w fs) (s : Same H H') : ErrIs K H' cls d w fs := by
  obtain ⟨⟨C, dd, e1, e2, x, hd, no⟩, wd⟩ := h
  exact ⟨⟨C, dd, e1, e2, x, s _ _ hd, no⟩, wd⟩
/-- a field is read -/
theorem ErrIs.read {K : PySem.W.Frag} {H : Hp} {a : Addr} {cls : Value} {d : Option Addr} {w : Str} {fs : List (Str × V)} (h : ErrIs K H cls d w fs) {f : Str} {v : V} {R : V → Prop} (hl : fs.lookup f = some v) (q : R v) :
    (V.ref a) = .ref a ∧ ∃ (C dd : Addr) (fs : List (Str × V)) (v : V), cls = .ref C ∧ d = some dd ∧ XfC K C ∧ PySem.W.findIn K (.ref C) f = some none ∧ H dd = some (.xd fs) ∧ fs.lookup f = some v ∧ R v := by
  obtain ⟨⟨C, dd, e1, e2, x, hd, no⟩, wd⟩ := h
  exact ⟨rfl, C, dd, fs, v, e1, e2, x, no _ _ hl, hd, hl, q⟩
def fieldOf (w : Str) : Option Str :=
  if inV (.str w) [.str "BadRoot", .str "BadCount", .str "NotLinked"] = true then some "number"
  else if inV (.str w) [.str "BadLength", .str "BadRow", .str "BadStep", .str "BadText", .str "BadDeed"] = true then some "at"
  else if inV (.str w) [.str "BadName", .str "Taken"] = true then some "name"
  else if inV (.str w) [.str "TooGreat", .str "Full"] = true then some "most"
  else if decide (V.str w = .str "NoSquares") = true then some "reason" else none
theorem fo0 {w : Str}  (e : inV (.str w) [.str "BadRoot", .str "BadCount", .str "NotLinked"] = true) : fieldOf w = some ("number" : Str) := by unfold fieldOf; rw [if_pos e]
theorem fo1 {w : Str} (b0 : ¬ (inV (.str w) [.str "BadRoot", .str "BadCount", .str "NotLinked"] = true)) (e : inV (.str w) [.str "BadLength", .str "BadRow", .str "BadStep", .str "BadText", .str "BadDeed"] = true) : fieldOf w = some ("at" : Str) := by unfold fieldOf; rw [if_neg b0, if_pos e]
theorem fo2 {w : Str} (b0 : ¬ (inV (.str w) [.str "BadRoot", .str "BadCount", .str "NotLinked"] = true)) (b1 : ¬ (inV (.str w) [.str "BadLength", .str "BadRow", .str "BadStep", .str "BadText", .str "BadDeed"] = true)) (e : inV (.str w) [.str "BadName", .str "Taken"] = true) : fieldOf w = some ("name" : Str) := by unfold fieldOf; rw [if_neg b0, if_neg b1, if_pos e]
theorem fo3 {w : Str} (b0 : ¬ (inV (.str w) [.str "BadRoot", .str "BadCount", .str "NotLinked"] = true)) (b1 : ¬ (inV (.str w) [.str "BadLength", .str "BadRow", .str "BadStep", .str "BadText", .str "BadDeed"] = true)) (b2 : ¬ (inV (.str w) [.str "BadName", .str "Taken"] = true)) (e : inV (.str w) [.str "TooGreat", .str "Full"] = true) : fieldOf w = some ("most" : Str) := by unfold fieldOf; rw [if_neg b0, if_neg b1, if_neg b2, if_pos e]
theorem fo4 {w : Str} (b0 : ¬ (inV (.str w) [.str "BadRoot", .str "BadCount", .str "NotLinked"] = true)) (b1 : ¬ (inV (.str w) [.str "BadLength", .str "BadRow", .str "BadStep", .str "BadText", .str "BadDeed"] = true)) (b2 : ¬ (inV (.str w) [.str "BadName", .str "Taken"] = true)) (b3 : ¬ (inV (.str w) [.str "TooGreat", .str "Full"] = true)) (e : decide (V.str w = .str "NoSquares") = true) : fieldOf w = some ("reason" : Str) := by unfold fieldOf; rw [if_neg b0, if_neg b1, if_neg b2, if_neg b3, if_pos e]
theorem fo5 {w : Str} (b0 : ¬ (inV (.str w) [.str "BadRoot", .str "BadCount", .str "NotLinked"] = true)) (b1 : ¬ (inV (.str w) [.str "BadLength", .str "BadRow", .str "BadStep", .str "BadText", .str "BadDeed"] = true)) (b2 : ¬ (inV (.str w) [.str "BadName", .str "Taken"] = true)) (b3 : ¬ (inV (.str w) [.str "TooGreat", .str "Full"] = true)) (b4 : ¬ (decide (V.str w = .str "NoSquares") = true)) : fieldOf w = none := by unfold fieldOf; rw [if_neg b0, if_neg b1, if_neg b2, if_neg b3, if_neg b4]
def fieldVal (w : Str) (fs : List (Str × V)) : Option V := match fieldOf w with
  | some f => fs.lookup f
  | none => some .non
section
variable {base : Heap} {K : PySem.W.Frag} {mg : Str → Option Value} {P : Program} {w : World}
def spFld (K : PySem.W.Frag) : Addr → Value → Option Addr → Sp := fun a cls d vs H Q _ => ∃ (wd : Str) (fs : List (Str × V)) (v : V), vs = [.ref a] ∧ ErrIs K H cls d wd fs ∧ fieldVal wd fs = some v ∧ ∀ H', Same H H' → Q v H'
theorem ok_field_of (T : Txt K mg) : FnP P w K mg base 1 T.f_field_of T.d_field_of ["_law_e"] (spFld K) := by
  refine fn_ofP T.F_field_of sc_field_of (fun a cls d vs H Q E h => ?_) (fun cdv A outer s H vs Q E p cls d zc dat hr h => ?_)
  · obtain ⟨wd, fs, v, rfl, _⟩ := h
    rfl
  · obtain ⟨wd, fs, v, rfl, E0, hv, q⟩ := h
    refine ⟨_, (pss_cons (ps_if (pt_cmpR op_in_seq (pe_xfG (a := p.1) (oe := p.2) (cls := cls) (d := d) List.mem_cons_self zc dat (pv 0)) (pe_tup (pa_cons pe_str (pa_cons pe_str (pa_cons pe_str pa_nil)))) (by rfl)) (pss_one (ps_ret (pe_xfG (a := p.1) (oe := p.2) (cls := cls) (d := d) List.mem_cons_self zc dat (pv 0)))) pss_nil)
      (pss_cons (ps_if (pt_cmpR op_in_seq (pe_xfG (a := p.1) (oe := p.2) (cls := cls) (d := d) List.mem_cons_self zc dat (pv 0)) (pe_tup (pa_cons pe_str (pa_cons pe_str (pa_cons pe_str (pa_cons pe_str (pa_cons pe_str pa_nil)))))) (by rfl)) (pss_one (ps_ret (pe_xfG (a := p.1) (oe := p.2) (cls := cls) (d := d) List.mem_cons_self zc dat (pv 0)))) pss_nil)
      (pss_cons (ps_if (pt_cmpR op_in_seq (pe_xfG (a := p.1) (oe := p.2) (cls := cls) (d := d) List.mem_cons_self zc dat (pv 0)) (pe_tup (pa_cons pe_str (pa_cons pe_str pa_nil))) (by rfl)) (pss_one (ps_ret (pe_xfG (a := p.1) (oe := p.2) (cls := cls) (d := d) List.mem_cons_self zc dat (pv 0)))) pss_nil)
      (pss_cons (ps_if (pt_cmpR op_in_seq (pe_xfG (a := p.1) (oe := p.2) (cls := cls) (d := d) List.mem_cons_self zc dat (pv 0)) (pe_tup (pa_cons pe_str (pa_cons pe_str pa_nil))) (by rfl)) (pss_one (ps_ret (pe_xfG (a := p.1) (oe := p.2) (cls := cls) (d := d) List.mem_cons_self zc dat (pv 0)))) pss_nil)
      (pss_one (ps_ret (pe_ifExp (pt_cmpR op_eq (pe_xfG (a := p.1) (oe := p.2) (cls := cls) (d := d) List.mem_cons_self zc dat (pv 0)) pe_str (nomark _)) (pe_xfG (a := p.1) (oe := p.2) (cls := cls) (d := d) List.mem_cons_self zc dat (pv 0)) pe_non))))))), ?_⟩
    have fv : ∀ {f : Str}, fieldOf wd = some f → fs.lookup f = some v := fun {f} e => by
      unfold fieldVal at hv
      rw [e] at hv
      exact hv
    refine ⟨_, rfl, E0.read E0.wd ?_⟩
    refine ⟨by show 3 ≤ sizeLine; decide, fun t0 n0 => ?_⟩
    have S1 := same_new (o := .tup [.str "BadRoot", .str "BadCount", .str "NotLinked"]) n0
    have E1 := E0.same S1
    refine ⟨t0, _, rfl, .inr (SqT.of upd_same), rfl, rfl, _, rfl, ite2 (fun e => ?_) (fun b0 => ?_)⟩
    · exact ⟨_, rfl, E1.read (fv (fo0  e)) (q _ S1)⟩
    refine ⟨_, rfl, E1.read E1.wd ?_⟩
    refine ⟨by show 5 ≤ sizeLine; decide, fun t1 n1 => ?_⟩
    have S2 := S1.trans (same_new (o := .tup [.str "BadLength", .str "BadRow", .str "BadStep", .str "BadText", .str "BadDeed"]) n1)
    have E2 := E0.same S2
    refine ⟨t1, _, rfl, .inr (SqT.of upd_same), rfl, rfl, _, rfl, ite2 (fun e => ?_) (fun b1 => ?_)⟩
    · exact ⟨_, rfl, E2.read (fv (fo1 b0 e)) (q _ S2)⟩
    refine ⟨_, rfl, E2.read E2.wd ?_⟩
    refine ⟨by show 2 ≤ sizeLine; decide, fun t2 n2 => ?_⟩
    have S3 := S2.trans (same_new (o := .tup [.str "BadName", .str "Taken"]) n2)
    have E3 := E0.same S3
    refine ⟨t2, _, rfl, .inr (SqT.of upd_same), rfl, rfl, _, rfl, ite2 (fun e => ?_) (fun b2 => ?_)⟩
    · exact ⟨_, rfl, E3.read (fv (fo2 b0 b1 e)) (q _ S3)⟩
    refine ⟨_, rfl, E3.read E3.wd ?_⟩
    refine ⟨by show 2 ≤ sizeLine; decide, fun t3 n3 => ?_⟩
    have S4 := S3.trans (same_new (o := .tup [.str "TooGreat", .str "Full"]) n3)
    have E4 := E0.same S4
    refine ⟨t3, _, rfl, .inr (SqT.of upd_same), rfl, rfl, _, rfl, ite2 (fun e => ?_) (fun b3 => ?_)⟩
    · exact ⟨_, rfl, E4.read (fv (fo3 b0 b1 b2 e)) (q _ S4)⟩
    refine ⟨_, rfl, E4.read E4.wd ?_⟩
    refine ⟨rfl, _, rfl, ite2 (fun e => ?_) (fun b4 => ?_)⟩
    · exact ⟨_, rfl, E4.read (fv (fo4 b0 b1 b2 b3 e)) (q _ S4)⟩
    · have e : fieldOf wd = none := fo5 b0 b1 b2 b3 b4
      have ev : v = .non := by
        unfold fieldVal at hv
        rw [e] at hv
        exact (Option.some.inj hv).symm
      rw [ev] at q
      exact q _ S4
end
/-! ### the def that asks, and tells what was raised -/
section
variable {K : PySem.W.Frag} {mg : Str → Option Value}
/-- what is told of an answer, of an error of the first, of the second, of the third kind -/
def Told (Q : VK) (w : Str) (v : V) (H : Hp) : Prop := ∀ H' p, Same H H' → H' p = some (.tup [.str w, v]) → Q (.ref p) H'
def Raised (K : PySem.W.Frag) (G : Addr) (Q : VK) : XK := fun cls d H => PySem.W.exmOne K cls (.ref G) = some true ∧ ∃ (w : Str) (fs : List (Str × V)) (v : V), ErrIs K H cls d w fs ∧ fieldVal w fs = some v ∧ Told Q w v H
def TTry (K : PySem.W.Frag) (G : Addr) : (XK → Hp → VK → Prop) → Hp → VK → Prop := fun tl H Q => tl (Raised K G Q) H fun v H1 => [V.str "told", v].length ≤ sizeLine ∧ ∀ p, H1 p = none → Q (.ref p) (upd H1 p (.tup [.str "told", v]))
end
section
variable {base : Heap} {K : PySem.W.Frag} {mg : Str → Option Value} {w : World}
theorem try_gives {X : Cx} (T : Txt K mg) (hP : X.K = K) (hm : X.mg = mg) {k : Nat} (hr : Room (k + 3) X.A) {cdg : Value} {q : Str} :
    LamX.GivesTo X ["_law_ask", "_law_e"] "_law_try" (defScope s_try) T.f_try cdg (defBody s_try) "_law_ask" q (TTry K T.r_GrainError) := by
  subst hP
  subst hm
  intro f c' s H Q tl act hc h
  have hr2 : Room (k + 2) (X.A.deeper (envOfC "_law_try" (defScope s_try) s.heap.objs.size T.f_try cdg)) := hr.deeper _
  refine ⟨_, pss_one (ps_tryAs (X := (cxOf CX0 X.prog X.w X.K X.mg X.base ["_law_ask", "_law_e"] "_law_try" (defScope s_try) T.f_try cdg X.A X.stack s H E0).nox) (i := 1)
      (tb := fun W D σ H => ∃ Ech : XK, (∀ cls d σ' H', Ech cls d H' → W cls d σ' H') ∧ σ[0]? = some (some (.ref f)) ∧ H c' = some (LamX.CodeO c' q) ∧ tl Ech H fun v H1 => [V.str "told", v].length ≤ sizeLine ∧ ∀ p, H1 p = none → D.rt (.ref p) (upd H1 p (.tup [.str "told", v])))
      rfl rfl sc_try.nd rfl rfl (fun W pn xe tk _ => ?_)
      (.cons (c := .ref T.r_GrainError) (ts := fun a cls d => tRet (tTup (tCons (tXfA X.K a cls d "word" (tVar 1)) (tCons (fun σ H Q => tCons (tVar 1) tNil σ H fun vs H1 => spFld X.K a cls d vs H1 Q E0) tNil)))) ⟨by rfl, by decide, .inl T.g_GrainError⟩ (fun a oe cls d pn zc dat => pss_one (ps_ret (pe_tup (pa_cons (pe_xfG (a := a) (oe := oe) (cls := cls) (d := d) List.mem_cons_self zc dat (pv 1)) (pa_cons (pe_callP (a := a) (oe := oe) (cls := cls) (d := d) List.mem_cons_self zc dat (ok_field_of T) ?_ (by rfl) T.g_field_of T.F_field_of.kp T.b_field_of (pa_cons (pv 1) pa_nil)) pa_nil)))))
      (.cons (c := .ref T.r_GrainMissing) (ts := fun a cls d => tRet (tTup (tCons (tXfA X.K a cls d "word" (tVar 1)) (tCons (tIf (tTest (tOp rEq (tXfA X.K a cls d "word" (tVar 1)) (tC (.str "NoSheet")))) (tXfA X.K a cls d "sheet" (tVar 1)) (tXfA X.K a cls d "name" (tVar 1))) tNil)))) ⟨by rfl, by decide, .inl T.g_GrainMissing⟩ (fun a oe cls d pn zc dat => pss_one (ps_ret (pe_tup (pa_cons (pe_xfG (a := a) (oe := oe) (cls := cls) (d := d) List.mem_cons_self zc dat (pv 1)) (pa_cons (pe_ifExp (pt_cmpR op_eq (pe_xfG (a := a) (oe := oe) (cls := cls) (d := d) List.mem_cons_self zc dat (pv 1)) pe_str (nomark _)) (pe_xfG (a := a) (oe := oe) (cls := cls) (d := d) List.mem_cons_self zc dat (pv 1)) (pe_xfG (a := a) (oe := oe) (cls := cls) (d := d) List.mem_cons_self zc dat (pv 1))) pa_nil)))))
      (.cons (c := .ref T.e_NothingLeft.C) (ts := fun a cls d => tRet (tTup (tCons (tXfA X.K a cls d "word" (tVar 1)) (tCons (tC .non) tNil)))) ⟨by rfl, by decide, .inl T.e_NothingLeft.g⟩ (fun a oe cls d pn zc dat => pss_one (ps_ret (pe_tup (pa_cons (pe_xfG (a := a) (oe := oe) (cls := cls) (d := d) List.mem_cons_self zc dat (pv 1)) (pa_cons pe_non pa_nil))))) .nil)))), ?_⟩
  · constructor
    intro pins s' σ H' D I h'
    obtain ⟨Ech, hW, h1, h2, h3⟩ := h'
    have asked := fun p1 p2 => act W pn xe Ech p1 p2 tk hW
    exact (pss_one (ps_ret (pe_tup (pa_cons pe_str (pa_cons (asked _ _) pa_nil))))).run pins s' σ H' D I ⟨h1, h2, h3⟩
  · exact ⟨by have := hr.dp; show X.A.depth + 1 + 3 * 1 + 5 < _; omega, by have := hr.un; show X.A.units + 3 + 16 * 1 + 200 < _; omega⟩
  · refine ⟨Raised X.K T.r_GrainError Q, fun cls d σ' H' hR => ?_, rfl, hc, h⟩
    obtain ⟨em, wd, fs, v, er, fv, q1⟩ := hR
    refine ⟨true, em, fun _ a na hl => ?_, fun z => nomatch z⟩
    have at1 : (σ'.set 1 (some (V.ref a)))[1]? = some (some (V.ref a)) := by
      rw [List.getElem?_set_self hl]
    refine ⟨_, at1, er.read er.wd ?_⟩
    refine ⟨_, at1, wd, fs, v, rfl, er, fv, fun H2 s2 => ⟨by show 2 ≤ sizeLine; decide, fun p hp => q1 _ p (s2.trans (same_new hp)) upd_same⟩⟩
end
/-! ### lists of ints that comprehensions make -/
def Pt (H : Hp) (D : Addr) (ns : List Int) (i : Nat) (H' : Hp) : Prop := Same H H' ∧ H' D = some (.lst ((ns.take i).map V.int))
theorem pt_step {H H' : Hp} {D : Addr} {ns : List Int} {i : Nat} {z : Int} (h : Pt H D ns i H') (hD : H D = none) (hz : ns[i]? = some z) : Pt H D ns (i + 1) (upd H' D (.lst ((ns.take i).map V.int ++ [.int z]))) := by
  refine ⟨fun a o e => (upd_ne (ne_of_none e hD)).trans (h.1 a o e), ?_⟩
  rw [upd_same, List.take_add_one, hz, List.map_append]
  rfl
theorem pt_size {ns : List Int} {i : Nat} (h : ns.length ≤ 1000) : ((ns.take i).map V.int).length < sizeLine := by
  rw [List.length_map, List.length_take]
  exact small1000 (by omega)
theorem pt_end {H H' : Hp} {D : Addr} {ns : List Int} {i : Nat} (h : Pt H D ns i H') (hi : ns.length ≤ i) : Same H H' ∧ H' D = some (.lst (ns.map V.int)) := by
  have := h.2
  rw [List.take_of_length_le hi] at this
  exact ⟨h.1, this⟩
/-! ### pairs -/
def PairAt (K : PySem.W.Frag) (H : Hp) (v : V) (x y : Int) : Prop := ∃ t : Addr, v = .ref t ∧ SqT K H t [.int x, .int y]
theorem PairAt.same {K : PySem.W.Frag} {H H' : Hp} {v : V} {x y : Int} (h : PairAt K H v x y) (s : Same H H') : PairAt K H' v x y := by
  obtain ⟨t, e, h⟩ := h
  exact ⟨t, e, Evl.ex_t (show Evl.Ex H H' from s) h⟩
inductive PairsAt (K : PySem.W.Frag) (H : Hp) : List V → List (Int × Int) → Prop
  | nil : PairsAt K H [] []
  | cons {v : V} {vs : List V} {x y : Int} {ps : List (Int × Int)} : PairAt K H v x y → PairsAt K H vs ps → PairsAt K H (v :: vs) ((x, y) :: ps)
theorem PairsAt.get {K : PySem.W.Frag} {H : Hp} : ∀ {vs : List V} {ps : List (Int × Int)}, PairsAt K H vs ps → ∀ {i : Nat} {v : V}, vs[i]? = some v → ∃ x y, ps[i]? = some (x, y) ∧ PairAt K H v x y
  | _, _, .nil, i, v, h => by simp at h
  | _, _, .cons p t, 0, v, h => by cases h; exact ⟨_, _, rfl, p⟩
  | _, _, .cons p t, i + 1, v, h => t.get (i := i) (by simpa using h)
theorem PairsAt.same {K : PySem.W.Frag} {H H' : Hp} (s : Same H H') : ∀ {vs : List V} {ps : List (Int × Int)}, PairsAt K H vs ps → PairsAt K H' vs ps
  | _, _, .nil => .nil
  | _, _, .cons p t => .cons (p.same s) (t.same s)
theorem PairsAt.len {K : PySem.W.Frag} {H : Hp} : ∀ {vs : List V} {ps : List (Int × Int)}, PairsAt K H vs ps → vs.length = ps.length
  | _, _, .nil => rfl
  | _, _, .cons p t => congrArg Nat.succ t.len
def s1 (ps : List (Int × Int)) : Int := (ps.map (·.1)).sum
def s2 (ps : List (Int × Int)) : Int := (ps.map (·.2)).sum
/-- a new pair -/
def NewPair (H : Hp) (x y : Int) (Q : VK) : Prop := ∀ p H', H p = none → Same H H' → H' p = some (.tup [.int x, .int y]) → Q (.ref p) H'
/-! ### tuples stay -/
theorem tup_keep {H H' : Hp} {b sb : Addr} (B : Bag H b sb) (k : Keep b H H') (p : Addr) (xs : List V) (h : H p = some (.tup xs)) : H' p = some (.tup xs) := k _ _ (B.tup h) h
theorem tup_put {H : Hp} {l : Addr} {ys zs : List V} (hl : H l = some (.lst ys)) (p : Addr) (xs : List V) (h : H p = some (.tup xs)) : (upd H l (.lst zs)) p = some (.tup xs) := (upd_ne (ne_of h hl (by intro z; cases z))).trans h
theorem tup_same {H H' : Hp} (s : Same H H') (p : Addr) (xs : List V) (h : H p = some (.tup xs)) : H' p = some (.tup xs) := s _ _ h
/-! ### alike, from its parts -/
/-! ### the sign by squares -/
def ab (i : Int) : Int := if i < 0 then -i else i
def vl (a b d : Int) : Int := a * ab a + d * b * ab b
def sgnI (x : Int) : Int := (if decide (0 < x) = true then 1 else 0) - (if decide (x < 0) = true then 1 else 0)
theorem sgnI_pos {x : Int} (h : 0 < x) : sgnI x = 1 := by
  unfold sgnI
  rw [if_pos (decide_eq_true h), if_neg (by simp; omega)]
  rfl
theorem sgnI_neg {x : Int} (h : x < 0) : sgnI x = -1 := by
  unfold sgnI
  rw [if_neg (by simp; omega), if_pos (decide_eq_true h)]
  rfl
theorem sgnI_zero : sgnI 0 = 0 := by decide
theorem ab_abs (i : Int) : (ab i).natAbs = i.natAbs := by
  unfold ab
  split <;> omega
theorem ab_neg {i : Int} (h : i < 0) : ab i = -i := if_pos h
theorem ab_nn {i : Int} (h : 0 ≤ i) : ab i = i := if_neg (by omega)
section
variable {base : Heap} {K : PySem.W.Frag} {mg : Str → Option Value} {P : Program} {w : World}
def spSign (K : PySem.W.Frag) : Sp := fun vs H Q _ => ∃ (t : Addr) (d a b : Int), vs = [.ref t, .int d] ∧ SqT K H t [.int a, .int b] ∧ d.natAbs < 2 ^ 64 ∧ a.natAbs < 2 ^ 9000 ∧ b.natAbs < 2 ^ 9000 ∧ Q (.int (sgnI (vl a b d))) H
theorem ok_lsign (T : Txt K mg) : FnOk P w K mg base CX0 1 T.f_lsign T.d_lsign ["_law_pair", "_law_root"] (spSign K) := by
  refine T.F_lsign.ok sc_lsign (fun vs H Q E h => ?_) (fun cdv A outer s H vs Q E hr h => ?_)
  · obtain ⟨t, d, a, b, rfl, _⟩ := h
    rfl
  · obtain ⟨t, d, a, b, rfl, hT, d1, a1, b1, q⟩ := h
    refine ⟨_, (pss_cons (ps_set (i := 2) sc_lsign.nd rfl (Or.inl rfl) (pe_op op_add (pe_op op_mulW (pe_ix ix_tup (pv 0) pe_int (fun _ _ => rfl)) (pe_callB call_abs (by rfl) T.n_abs (by decide +kernel) (pa_cons (pe_ix ix_tup (pv 0) pe_int (fun _ _ => rfl)) pa_nil))) (pe_op op_mulW (pe_op op_mulW (pv 1) (pe_ix ix_tup (pv 0) pe_int (fun _ _ => rfl))) (pe_callB call_abs (by rfl) T.n_abs (by decide +kernel) (pa_cons (pe_ix ix_tup (pv 0) pe_int (fun _ _ => rfl)) pa_nil)))))
      (pss_one (ps_ret (pe_op op_sub (pe_callTy call_int1 (by rfl) T.n_int (by decide +kernel) (pa_cons (pe_cmpR op_gt (pv 2) pe_int (nomark _)) pa_nil)) (pe_callTy call_int1 (by rfl) T.n_int (by decide +kernel) (pa_cons (pe_cmpR op_lt (pv 2) pe_int (nomark _)) pa_nil)))))), ?_⟩
    have a2 : (ab a).natAbs < 2 ^ 9000 := by rw [ab_abs]; exact a1
    have b2 : (ab b).natAbs < 2 ^ 9000 := by rw [ab_abs]; exact b1
    have m1 : (d * b).natAbs < 2 ^ (64 + 9000) := wide_lt d1 b1
    refine ⟨_, rfl, t, _, 0, .int a, rfl, rfl, hT, atI_nat (j := 0) rfl, _, rfl, t, _, 0, .int a, rfl, rfl, hT, atI_nat (j := 0) rfl, a, rfl, a, _, rfl, rfl, wide_mul a1 a2 (by decide) (by decide) (by decide),
      _, rfl, _, rfl, t, _, 1, .int b, rfl, rfl, hT, atI_nat (j := 1) rfl, d, b, rfl, rfl, wide_mul d1 b1 (by decide) (by decide) (by decide), _, rfl, t, _, 1, .int b, rfl, rfl, hT, atI_nat (j := 1) rfl, b, rfl, _, _, rfl, rfl, wide_mul m1 b2 (by decide) (by decide) (by decide), _, _, rfl, rfl, ?_⟩
    exact ⟨_, rfl, vl a b d, 0, rfl, rfl, .inr ⟨_, rfl, _, rfl, vl a b d, 0, rfl, rfl, .inr ⟨_, rfl, _, _, rfl, rfl, q⟩⟩⟩
end
/-! ### what is asked of the def that asks -/
section
variable {X : Cx} {k : Nat} {c P0 : Addr} {params : Arguments} {body d : Expr} {v0 : V} {scope : Scope} {t : XK → TE} {p lpos pos : Pos} {b : Str}
theorem one_tab {P0 : Addr} {q : Str} : ∀ p ∈ [(P0, q)], p.1 = P0 → p.2 = q := by
  intro p hp _
  rw [List.mem_singleton.mp hp]
theorem pe_try (T : Txt X.K X.mg) (hg : Gl X "_law_try") (TB : LamX.TabB X.base X.mg c P0) (hcode : X.env.code = .ref c) (hr : Room (k + 3) X.A) (L : LamX.LamS X.env.scope scope) (hdef : defaultsOf params X.env = ([], []))
    (hbind : ∀ (q : Str) (cl : List (Str × Addr)) (pm cv ctv : Value), bindArgs (PySem.W.kla_fn "<lambda>" q params body scope cl pm cv ctv) ⟨[], []⟩ = pure [])
    (hbody : ∀ (A : Around) (outer : List Env) (s : Shared) (H : Hp) (E : XK) (f c' : Addr), Room (k + 1) (A.deeper (LamX.lamEnv X scope s.heap.objs.size f c')) → PE (LamX.lamCx X A outer s H E scope f c') body (t E)) :
    PE X (.Call (.Name "_law_try" p) [.Lambda params body scope lpos] [] pos) (LamX.tLam [(P0, X.env.qual ++ "<lambda>")] (TTry X.K T.r_GrainError) t) := by
  obtain ⟨oc2, od2, kV2, doc2, pm2, an2, cdv2, ct2, osl2, eT, lkT, cdT⟩ := T.F_try.ex
  have bT := T.b_try
  rw [eT] at bT
  rw [eT] at lkT
  exact LamX.pe_lamcall hg T.g_try T.F_try.kp lkT cdT bT sc_try rfl (Or.inl rfl) (try_gives T rfl rfl (k := k) hr) TB hcode (List.mem_singleton.mpr rfl) one_tab hr L hdef hbind hbody
theorem pass_never {X : Cx} {P : Program} {w : World} : Passes (L2.CX P w) X (fun _ _ _ => False) := by
  intro pins σ H s e s' I z
  obtain ⟨_, _, _, _, _, _, _, _, _, _, _, _, he⟩ := z
  exact he.elim
end
/-! ### an error of the first kind, told -/
section
variable {P : Program} {K : PySem.W.Frag} {mg : Str → Option Value} {G : Addr} {st : Stmt} {nm qual : Str} {B newId initId : String} {bmB : List Value}
theorem exm_er (T : Er P K mg B newId initId bmB [.ref G] st nm qual) {cg : ClassData} (hg : PySem.W.clsIn K G = some cg) (tg : PySem.W.typeIn K (.ref G) = some (.type "type")) (sb : PySem.W.subIn K (.ref G) (.type "BaseException") = some true) : PySem.W.exmOne K (.ref T.C) (.ref G) = some true := by
  unfold PySem.W.exmOne
  rw [if_pos (by rw [sb]; rfl)]
  unfold PySem.W.kitCls
  dsimp only
  rw [hg, tg, if_pos (show ((some cg).isSome && some (Value.type "type") == some (Value.type "type")) = true from show (true && some (Value.type "type") == some (Value.type "type")) = true by decide +kernel)]
  show PySem.W.mroIn K T.C (.ref G) = _
  obtain ⟨cd, hc, _, hm⟩ := T.cl
  unfold PySem.W.mroIn
  rw [hc, Option.bind_some, hm]
  show some ((Value.ref T.C :: ([Value.ref G] ++ _)).contains (.ref G)) = some true
  congr 1
  rw [List.contains_cons, List.cons_append, List.contains_cons, beq_self_eq_true]
  simp
theorem raised_er (T : Er P K mg B newId initId bmB [.ref G] st nm qual) {cg : ClassData} (hg : PySem.W.clsIn K G = some cg) (tg : PySem.W.typeIn K (.ref G) = some (.type "type")) (sb : PySem.W.subIn K (.ref G) (.type "BaseException") = some true)
    {w : Str} {fs : List (Str × V)} {v : V} (no : ∀ f v, fs.lookup f = some v → PySem.W.findIn K (.ref T.C) f = some none) (wd : fs.lookup ("word" : Str) = some (.str w)) (fv : fieldVal w fs = some v)
    {Q : VK} {d : Addr} {Hf : Hp} (hd : Hf d = some (.xd fs)) (q : Told Q w v Hf) : Raised K G Q (.ref T.C) (some d) Hf :=
  ⟨exm_er T hg tg sb, w, fs, v, ⟨⟨_, d, rfl, rfl, xfc_of T, hd, no⟩, wd⟩, fv, q⟩
theorem no_two {C : Addr} {f1 : Str} {v1 v2 : V} (h1 : PySem.W.findIn K (.ref C) f1 = some none) (h2 : PySem.W.findIn K (.ref C) "word" = some none) : ∀ f v, List.lookup f [(f1, v1), (("word" : Str), v2)] = some v → PySem.W.findIn K (.ref C) f = some none := by
  intro f v e
  simp only [List.lookup] at e
  split at e
  · rename_i z
    rw [eq_of_beq z]
    exact h1
  · split at e
    · rename_i z
      rw [eq_of_beq z]
      exact h2
    · cases e
theorem no_one {C : Addr} {v2 : V} (h2 : PySem.W.findIn K (.ref C) "word" = some none) : ∀ f v, List.lookup f [(("word" : Str), v2)] = some v → PySem.W.findIn K (.ref C) f = some none := by
  intro f v e
  simp only [List.lookup] at e
  split at e
  · rename_i z
    rw [eq_of_beq z]
    exact h2
  · cases e
end
/-! ### what stays where lambdas are made -/
theorem Bag.extN {H H' : Hp} {b sb : Addr} (B : Bag H b sb) (e : LamX.ExtN H H') : Bag H' b sb := by
  obtain ⟨ns, i, j, m, c, h1, h2, h3, h4, h5, h6⟩ := B
  exact ⟨ns, i, j, m, c, e _ _ h1 (fun _ z => by cases z), e _ _ h2 (fun _ z => by cases z), h3, h4, h5, h6⟩
theorem lst_extN {H H' : Hp} {a : Addr} {xs : List V} (h : H a = some (.lst xs)) (e : LamX.ExtN H H') : H' a = some (.lst xs) := e _ _ h (fun _ z => by cases z)
theorem tup_extN {H H' : Hp} {a : Addr} {xs : List V} (h : H a = some (.tup xs)) (e : LamX.ExtN H H') : H' a = some (.tup xs) := e _ _ h (fun _ z => by cases z)
theorem tabs_keep {H H' : Hp} {b sb : Addr} {T : List (Addr × Str)} (t : LamX.Tabs T H) (B : Bag H b sb) (k : Keep b H H') : LamX.Tabs T H' := by
  intro p hp
  obtain ⟨ps, h1, h2, h3⟩ := t p hp
  obtain ⟨ns, i, j, m, c, B⟩ := B
  refine ⟨ps, k _ _ (ne_of h1 B.hb (by intro z; cases z)) h1, h2, fun pos cv hc => ?_⟩
  obtain ⟨c', e1, e2⟩ := h3 pos cv hc
  exact ⟨c', e1, k _ _ (ne_of e2 B.hb (by intro z; unfold LamX.CodeO at z; cases z)) e2⟩
/-! ### operators of an own class -/
section
variable {X : Cx} {CX : CXT} {n : Nat} {C g : Addr} {fd : FuncData} {ps : List Str} {sp : Sp} {E : XK}
theorem inst_of {pins : List (Addr × Obj)} {σ : L2.St} {H : Hp} {s : Shared} {a dx : Addr} {fs : List (Str × V)} (I : Inv X pins σ H s) (ha : H a = some (.ins C dx fs)) : ∃ ox od, PySem.W.InstAt s.heap a ox C od := by
  obtain ⟨mA, J, _⟩ := ins_get I.hok ha
  obtain ⟨od, J, _⟩ := J.look
  exact ⟨_, _, J⟩
/-- x op y of two instances -/
def rOwn2 (C : Addr) (sp : Sp) (E : XK) : R2 := fun x y H Q => ∃ a dx fs b dy gs, x = .ref a ∧ y = .ref b ∧ H a = some (.ins C dx fs) ∧ H b = some (.ins C dy gs) ∧ sp [x, y] H Q E
theorem op_bin {op : Operator} {nm : Str} (m : Meth X.K C nm g) (sf : PySem.W.selfFirst X.K C = true) (F : FnOk X.prog X.w X.K X.mg X.base CX n g fd ps sp) (hr : Room n X.A) (hb : Binds X.K fd ps []) (hx : Passes CX X E)
    (hn : PySem.dunder op.info.2 = nm := by decide +kernel) : OpR X (binaryOp op) (rOwn2 C sp E) := by
  intro pins s σ H x y v u Q I rx ry h
  obtain ⟨a, dx, fs, b, dy, gs, rfl, rfl, ha, hb', q⟩ := h
  cases (show v = Value.ref a from rx)
  cases (show u = Value.ref b from ry)
  obtain ⟨ox, od, J⟩ := inst_of I ha
  obtain ⟨oy, od', J'⟩ := inst_of I hb'
  obtain ⟨mm, hF⟩ := I.fr
  refine PySem.W.binop_K (op := op) hF I.ok.mod.kin J J'.type sf (by rw [hn]; exact m.at_) m.fn ?_
  refine wpAny_mono (run_fn (us := [.ref a, .ref b]) (vs := [.ref a, .ref b]) F hr hb .nil hx I (.cons rfl (.cons rfl .nil)) q) (fun w s' z => ?_) fun _ _ x => x
  obtain ⟨z', H', I', rz, qz⟩ := z
  exact SlX.cmpback rz ⟨z', H', I', rz, qz⟩
/-- x op i -/
def rOwnI (C : Addr) (sp : Sp) (E : XK) : R2 := fun x y H Q => ∃ a dx fs i, x = .ref a ∧ y = .int i ∧ H a = some (.ins C dx fs) ∧ sp [x, y] H Q E
theorem op_binI {op : Operator} {nm nr : Str} {fo ro : Option Value} (m : Meth X.K C nm g) (sf : PySem.W.selfFirst X.K C = true) (h0 : PySem.W.findIn X.K (.ref C) nr = some none) (h1 : PySem.W.findIn X.K (.type "int") nm = some fo) (h2 : PySem.W.findIn X.K (.type "int") nr = some ro)
    (h3 : PySem.W.subIn X.K (.type "int") (.ref C) = some false) (F : FnOk X.prog X.w X.K X.mg X.base CX n g fd ps sp) (hr : Room n X.A) (hb : Binds X.K fd ps []) (hx : Passes CX X E)
    (hn : PySem.dunder op.info.2 = nm := by decide +kernel) (hq : PySem.dunderR op.info.2 = nr := by decide +kernel) : OpR X (binaryOp op) (rOwnI C sp E) := by
  intro pins s σ H x y v u Q I rx ry h
  obtain ⟨a, dx, fs, i, rfl, rfl, ha, q⟩ := h
  cases (show v = Value.ref a from rx)
  obtain ⟨t, e⟩ := (show ∃ t, u = Value.int i t from ry)
  cases e
  obtain ⟨ox, od, J⟩ := inst_of I ha
  obtain ⟨mm, hF⟩ := I.fr
  refine PySem.W.ksp_binT (op := op) (T := "int") hF I.ok.mod.kin J rfl sf (by rw [hn]; exact m.at_) m.fn (by rw [hq]; exact h0) (.inl rfl) (by rw [hn]; exact h1) (by rw [hq]; exact h2) h3 ?_
  refine wpAny_mono (run_fn (us := [.ref a, .int i t]) (vs := [.ref a, .int i]) F hr hb .nil hx I (.cons rfl (.cons ⟨t, rfl⟩ .nil)) q) (fun w s' z => ?_) fun _ _ x => x
  obtain ⟨z', H', I', rz, qz⟩ := z
  exact SlX.cmpback rz ⟨z', H', I', rz, qz⟩
/-- -x -/
def rOwn1 (C : Addr) (sp : Sp) (E : XK) : V → Hp → VK → Prop := fun x H Q => ∃ a dx fs, x = .ref a ∧ H a = some (.ins C dx fs) ∧ sp [x] H Q E
theorem un_own (m : Meth X.K C "__neg__" g) (F : FnOk X.prog X.w X.K X.mg X.base CX n g fd ps sp) (hr : Room n X.A) (hb : Binds X.K fd ps []) (hx : Passes CX X E) : UnR X (unaryOp .USub) (rOwn1 C sp E) := by
  intro pins s σ H x v Q I rx h
  obtain ⟨a, dx, fs, rfl, ha, q⟩ := h
  cases (show v = Value.ref a from rx)
  obtain ⟨ox, od, J⟩ := inst_of I ha
  obtain ⟨mm, hF⟩ := I.fr
  exact PySem.W.ksp_neg hF I.ok.mod.kin J m.at_ m.fn (run_fn (us := [.ref a]) (vs := [.ref a]) F hr hb .nil hx I (.cons rfl .nil) q)
/-- x == y, y anything whose class does not come first -/
def rOwnE (K : PySem.W.Frag) (C : Addr) (sp : Sp) (E : XK) : R2 := fun x y H Q => ∃ a dx fs tb, x = .ref a ∧ H a = some (.ins C dx fs) ∧ TyX K H y tb ∧ PySem.W.notFirst K C tb = true ∧ sp [x, y] H Q E
theorem op_eqO2 (m : Meth X.K C "__eq__" g) (F : FnOk X.prog X.w X.K X.mg X.base CX n g fd ps sp) (hr : Room n X.A) (hb : Binds X.K fd ps []) (hx : Passes CX X E) : OpR X (compareOp .Eq) (rOwn2 C sp E) := by
  intro pins s σ H x y v u Q I rx ry h
  obtain ⟨a, dx, fs, b, dy, gs, rfl, rfl, ha, hb', q⟩ := h
  cases (show v = Value.ref a from rx)
  cases (show u = Value.ref b from ry)
  obtain ⟨ox, od, J⟩ := inst_of I ha
  obtain ⟨oy, od', J'⟩ := inst_of I hb'
  obtain ⟨mm, hF⟩ := I.fr
  show wpAny _ _ (richCompare .Eq (.ref a) (.ref b)) _ _ s
  refine PySem.W.cmp_K (op := .Eq) (tb := .ref C) hr.units0 hF I.ok.mod.kin J J'.type (by simp [PySem.W.notFirst]) m.at_ m.fn ?_
  refine wpAny_mono (run_fn (us := [.ref a, .ref b]) (vs := [.ref a, .ref b]) F hr hb .nil hx I (.cons rfl (.cons rfl .nil)) q) (fun w s' z => ?_) fun _ _ x => x
  obtain ⟨z', H', I', rz, qz⟩ := z
  exact SlX.cmpback rz ⟨z', H', I', rz, qz⟩
/-- below a built-in: the callee runs -/
theorem run_in {A : Around} {pins : List (Addr × Obj)} {σ : L2.St} {H : Hp} {s : Shared} {Q : VK} {us : List Value} {ws : List V} (F : FnOk X.prog X.w X.K X.mg X.base CX n g fd ps sp) (hr : Room n A) (e0 : Env0 X.prog X.w X.K X.mg X.base A X.stack s H) (hb : Binds X.K fd ps []) (hx : Passes CX X E) (I : Inv X pins σ H s) (r : Vals ws us) (h : sp ws H Q E) :
    wpAny (model X.prog X.w) A (call (.ref g) us) (EP X pins σ Q) X.xe s := by
  have hl : (us ++ []).length = ps.length := by rw [List.append_nil, ← r.length]; exact F.len _ _ _ _ h
  have b0 := hb s us I.kIn hl
  rw [List.append_nil] at b0
  refine wpAny_call (codeAny_mono (F.run A X.stack s H ⟨us, []⟩ us ws Q E hr e0 b0 r h) fun r s' hq => ?_)
  cases r with
  | error e => exact hx pins σ H s e s' I hq
  | ok fl =>
    cases fl with
    | ret u => exact I.after hq
    | next => exact False.elim hq
    | brk => exact False.elim hq
    | cont => exact False.elim hq
end
section
variable {prog : Program} {w : World} {A : Around} {E : Value → Shared → Prop} {s : Shared} {K : PySem.W.Frag} {x y C f : Addr} {ox : Obj} {od : Option Obj}
theorem ifBound_objNe {M : Model} {args : List Value} {Q : Option Value → Shared → Prop} (X : K.In s.heap) (I : PySem.W.InstAt s.heap x ox C od) (hs : PySem.W.findIn K (.ref C) "__ne__" = some (some (.builtin "object.__ne__")))
    (h : wpAny M A (call (.builtin "object.__ne__") (.ref x :: args)) (fun v => Q (some v)) E s) : wpAny M A (callSpecialIfBound? (.ref x) "__ne__" args) Q E s := by
  simp only [callSpecialIfBound?, bindSpecialIfBound?]
  refine wpAny_holding (wpAny_bind (wpAny_bind (wpAny_bind (I.type.here ((PySem.W.looks_findIn X hs).here ?_)))))
  refine wpAny_bind (wpAny_askSetting (wpAny_ite ?_))
  have fin : wpAny M A (call (.builtin "object.__ne__") ([.ref x] ++ args) >>= fun v => pure (some v)) Q E s := wpAny_bind (wpAny_mono h (fun v s' h' => wpAny_pure h') fun _ _ h' => h')
  split
  · exact wpAny_bind (wpAny_of_eq (F.cmp_object.ne.bind _) (wpAny_pure (by exact fin)))
  · exact wpAny_tryCatch (wpAny_bind (wpAny_of_eq (F.cmp_object.ne.bind _) (wpAny_pure (by exact fin))))
theorem ne_entry {b : Value} {Q : Fin → Shared → Prop} (hu : A.units < cLine) (X : K.In s.heap) (I : PySem.W.InstAt s.heap x ox C od) (hs : PySem.W.findIn K (.ref C) "__eq__" = some (some (.ref f))) (hf : PySem.W.isFn K (.ref f) = true)
    (h : wpAny (model prog w) A (call (.ref f) [.ref x, b]) (fun r s' => ∃ k, r = .bool k ∧ Q (.done (.ret (.bool (!k)))) s') E s) : wpAny (model prog w) A (Builtin.«object.__ne__» ⟨[.ref x, b], []⟩) Q E s := by
  unfold Builtin.«object.__ne__»
  refine wpAny_bind (wpAny_of_eq (a := (Value.ref x, [b])) rfl ?_)
  refine wpAny_bind (wpAny_cRoomFor hu ?_)
  refine wpAny_bind (PySem.W.ifBound_K X I hs hf (wpAny_mono h (fun r s' hr => ?_) fun _ _ z => z))
  obtain ⟨k, rfl, q⟩ := hr
  exact wpAny_bind (wpAny_truthy_bool (wpAny_pure q))
theorem call_objNe {b : Value} {Q : Value → Shared → Prop} (hu : A.in1.units < cLine) (X : K.In s.heap) (I : PySem.W.InstAt s.heap x ox C od) (hm : PySem.W.mroIn K C (.type "object") = some true) (hs : PySem.W.findIn K (.ref C) "__eq__" = some (some (.ref f))) (hf : PySem.W.isFn K (.ref f) = true)
    (h : wpAny (model prog w) A.in1 (call (.ref f) [.ref x, b]) (fun r s' => ∃ k, r = .bool k ∧ Q (.bool (!k)) s') E s) : wpAny (model prog w) A (call (.builtin "object.__ne__") [.ref x, b]) Q E s :=
  wpAny_call (codeAny_call_builtin F.cmp_object.ne.plain F.cmpEntry_ne (PySem.W.check_slot F.cmpKind_ne F.cmpSplit_ne (I.type.andThen (PySem.W.looks_mroIn X hm)) (F.cmpArgs_ne _ _) (ne_entry hu X I hs hf h)))
theorem rc_ne {oy : Obj} {od' : Option Obj} {Q : Value → Shared → Prop} (hu : A.in1.units < cLine) (hu0 : A.units < cLine) (X : K.In s.heap) (I : PySem.W.InstAt s.heap x ox C od) (J : PySem.W.InstAt s.heap y oy C od') (hm : PySem.W.mroIn K C (.type "object") = some true)
    (hn : PySem.W.findIn K (.ref C) "__ne__" = some (some (.builtin "object.__ne__"))) (hs : PySem.W.findIn K (.ref C) "__eq__" = some (some (.ref f))) (hf : PySem.W.isFn K (.ref f) = true)
    (h : wpAny (model prog w) A.in1 (call (.ref f) [.ref x, .ref y]) (fun r s' => ∃ k, r = .bool k ∧ Q (.bool (!k)) s') E s) : wpAny (model prog w) A (richCompare .NotEq (.ref x) (.ref y)) Q E s := by
  have one : wpAny (model prog w) A (tryCompare (.ref x) "__ne__" (.ref y)) (fun r s' => ∃ v, r = some v ∧ Q v s') E s := by
    unfold tryCompare
    refine wpAny_bind (ifBound_objNe X I hn (call_objNe hu X I hm hs hf (wpAny_mono h (fun r s' hr => ?_) fun _ _ e => e)))
    obtain ⟨k, rfl, q⟩ := hr
    exact ⟨k, rfl, wpAny_pure ⟨_, rfl, q⟩⟩
  unfold richCompare
  simp only [oneThing_ref]
  refine wpAny_holding (wpAny_bind (wpAny_cRoomFor hu0 ?_))
  refine wpAny_bind (I.type.here (wpAny_bind (J.type.here ?_)))
  simp only [bne_self_eq_false, Bool.false_eq_true, if_false]
  refine wpAny_bind (wpAny_pure ?_)
  simp only [Bool.false_eq_true, if_false]
  refine wpAny_bind (wpAny_mono one (fun r s' z => ?_) fun _ _ e => e)
  obtain ⟨v, rfl, hq⟩ := z
  exact wpAny_pure hq
theorem bool_own {Q : Value → Shared → Prop} (X : K.In s.heap) (I : PySem.W.InstAt s.heap x ox C od) (hs : PySem.W.findIn K (.ref C) "__bool__" = some (some (.ref f))) (hf : PySem.W.isFn K (.ref f) = true)
    (h : wpAny (model prog w) A.in1.in1 (call (.ref f) [.ref x]) (fun r s₁ => ∃ k, r = Value.bool k ∧ Q r s₁) E s) : wpAny (model prog w) A (call (.type "bool") [.ref x]) Q E s := by
  refine callType_codes (T := "bool") (Bi := Builtin.«object.__init__») (Q₁ := fun r s₁ => ∃ k, r = Value.bool k ∧ Q r s₁) PySem.F.called_bool (PySem.F.typeCall_bool_1 _) PySem.F.entry_object_init ?_ ?_
  · refine codeAny_of_tree ?_
    show wpAny _ A.in1.in1 (do checkBuiltinCall "bool.__new__" ⟨[.type "bool", .ref x], []⟩; again (.builtin "bool.__new__" ⟨[.type "bool", .ref x], []⟩)) _ _ s
    refine wpAny_bind (wpAny_of_eq (PySem.F.newCall_bool_1 _) (wpAny_pure ⟨plainId_quiet (by decide +kernel) _, codeAny_builtin PySem.F.entry_bool_new ?_⟩))
    rw [Around.under_plainId (by decide +kernel) _]
    have tr : wpAny (model prog w) A.in1.in1 (truthy (.ref x)) (fun k s₁ => Q (.bool k) s₁) E s := by
      unfold truthy
      refine wpAny_bind (m := callSpecial? (.ref x) (Str.ofString "__bool__")) (PySem.W.special_fn X I hs (beq_iff_eq.mp hf) (wpAny_mono h (fun r s' hr => ?_) fun _ _ y => y))
      obtain ⟨k, rfl, q⟩ := hr
      exact wpAny_pure q
    obtain ⟨hp, g, d, tk, os⟩ := s
    have f1 := F.conv_sub_bool
    repeat (any_goals (first | assumption | (with_reducible refine wpAny_mono tr (fun k s₁ q => ?_) fun _ _ z => z) | wp_step))
    all_goals first | exact ⟨_, rfl, q⟩ | skip
  · rintro obj s₁ ⟨k, rfl, hq⟩
    exact ⟨rfl, PySem.F.args_object_init_2 _ _, object_init_meets PySem.F.called_bool.init.lookup PySem.F.called_bool.made (by decide) prog w A.in1 _ s₁ ⟨rfl, rfl, hq⟩⟩
end
section
variable {X : Cx} {CX : CXT} {n : Nat} {C g : Addr} {fd : FuncData} {ps : List Str} {sp : Sp} {E : XK}
/-- x != y by the own == -/
def rOwnN (C : Addr) (sp : Sp) (E : XK) : R2 := fun x y H Q => ∃ a dx fs b dy gs, x = .ref a ∧ y = .ref b ∧ H a = some (.ins C dx fs) ∧ H b = some (.ins C dy gs) ∧ sp [x, y] H (fun z H' => ∃ k, z = .bl k ∧ Q (.bl (!k)) H') E
theorem op_neO2 (m : Meth X.K C "__eq__" g) (hm : PySem.W.mroIn X.K C (.type "object") = some true) (hn : PySem.W.findIn X.K (.ref C) "__ne__" = some (some (.builtin "object.__ne__"))) (F : FnOk X.prog X.w X.K X.mg X.base CX n g fd ps sp) (hr : Room (n + 1) X.A) (hb : Binds X.K fd ps []) (hx : Passes CX X E) :
    OpR X (compareOp .NotEq) (rOwnN C sp E) := by
  intro pins s σ H x y v u Q I rx ry h
  obtain ⟨a, dx, fs, b, dy, gs, rfl, rfl, ha, hb', q⟩ := h
  cases (show v = Value.ref a from rx)
  cases (show u = Value.ref b from ry)
  obtain ⟨ox, od, J⟩ := inst_of I ha
  obtain ⟨oy, od', J'⟩ := inst_of I hb'
  have hr1 : Room n X.A.in1 := Room.in1 hr
  show wpAny _ _ (richCompare .NotEq (.ref a) (.ref b)) _ _ s
  refine rc_ne hr1.units0 hr.units0 I.kIn J J' hm hn m.at_ m.fn ?_
  refine wpAny_mono (run_in (us := [.ref a, .ref b]) (ws := [.ref a, .ref b]) F hr1 I.env0.in1 hb hx I (.cons rfl (.cons rfl .nil)) q) (fun w s' z => ?_) fun _ _ x => x
  obtain ⟨z', H', I', rz, k, rfl, qz⟩ := z
  cases (show w = Value.bool k from rz)
  exact ⟨k, rfl, .bl (!k), H', I', rfl, qz⟩
/-- bool(x) -/
def rBoolO (C : Addr) (sp : Sp) (E : XK) : List V → Hp → VK → Prop := fun xs H Q => ∃ a dx fs, xs = [V.ref a] ∧ H a = some (.ins C dx fs) ∧ sp [.ref a] H (fun z H' => ∃ k, z = .bl k ∧ Q (.bl k) H') E
theorem call_boolO (m : Meth X.K C "__bool__" g) (F : FnOk X.prog X.w X.K X.mg X.base CX n g fd ps sp) (hr : Room (n + 2) X.A) (hb : Binds X.K fd ps []) (hx : Passes CX X E) : CallR X (.type "bool") (rBoolO C sp E) := by
  intro pins s σ H xs us Q I r h
  obtain ⟨a, dx, fs, rfl, ha, q⟩ := h
  obtain ⟨u, rfl, ru⟩ := r.one
  cases (show u = Value.ref a from ru)
  obtain ⟨ox, od, J⟩ := inst_of I ha
  have hr2 : Room n X.A.in1.in1 := (show Room (n + 1) X.A.in1 from Room.in1 hr).in1
  refine bool_own I.kIn J m.at_ m.fn (wpAny_mono (run_in (us := [.ref a]) (ws := [.ref a]) F hr2 I.env0.in1.in1 hb hx I (.cons rfl .nil) q) (fun w s' z => ?_) fun _ _ x => x)
  obtain ⟨z', H', I', rz, k, rfl, qz⟩ := z
  cases (show w = Value.bool k from rz)
  exact ⟨k, rfl, .bl k, H', I', rfl, qz⟩
/-- any(xs) of whole numbers -/
def rAnyI (K : PySem.W.Frag) : List V → Hp → VK → Prop := fun vs H Q => ∃ (a : Addr) (ns : List Int), vs = [V.ref a] ∧ SqL K H a (ns.map V.int) ∧ Q (.bl (ns.any fun i => i != 0)) H
theorem vals_ints : ∀ {ns : List Int} {us : List Value}, Vals (ns.map V.int) us → ∀ (i : Nat) (v : Value), us[i]? = some v → ∃ z t, ns[i]? = some z ∧ v = .int z t
  | [], us, h, i, v, hv => by
    rw [List.map_nil] at h
    cases h
    simp at hv
  | z :: ns, us, h, i, v, hv => by
    rw [List.map_cons] at h
    cases h with
    | cons r t =>
      obtain ⟨t', e⟩ := (show ∃ t, _ = Value.int z t from r)
      match i, hv with
      | 0, hv =>
        cases hv
        exact ⟨z, t', rfl, e⟩
      | i + 1, hv => exact vals_ints t i v (by simpa using hv)
theorem any_rangeI : ∀ ns : List Int, (List.range ns.length).any (fun i => ns.getD i 0 != 0) = ns.any fun i => i != 0
  | [] => rfl
  | b :: bs => by
    rw [List.length_cons, List.range_succ_eq_map, List.any_cons, List.any_map, List.any_cons, ← any_rangeI bs]
    all_goals rfl
theorem cr_anyI (hc : X.calm = true) : CallR X (.builtin "any") (rAnyI X.K) := by
  intro pins s σ H vs us Q I r h
  obtain ⟨a, ns, rfl, hs, q⟩ := h
  obtain ⟨its, rv, hl, _⟩ := I.list hs
  rw [Vals.ref1 r]
  refine call_any_walk (iter_any hl.isList fun s₂ e2 st hne => ?_)
  subst e2
  have tr : TruthOf X.prog X.w X.A.in1 (fun i v => its.toArray[i]? = some v) (fun i => ns.getD i 0 != 0) := fun i v s Q E hv hq => by
    obtain ⟨z, t, hz, rfl⟩ := vals_ints rv i v (by simpa using hv)
    have hg : ns.getD i 0 = z := by rw [List.getD_eq_getElem?_getD, hz] <;> rfl
    have hq' : Q (ns.getD i 0 != 0) s := hq
    rw [hg] at hq'
    exact P.truthy_int hq'
  refine ⟨_, _, _, _, _, _, _, rfl, Walks.list (A := X.A.in1) (I.ok.hd hc) _ a hne its.toArray, st, tr, fun h' tk hk => ?_⟩
  refine ⟨.bl _, H, I.kept fun b o eo => hk b o (fun hmem => ?_) (Heap.get?_push_of_some _ eo), ?_, q⟩
  · rcases List.mem_cons.mp hmem with e1 | hmem
    · exact absurd (e1 ▸ Heap.lt_size eo) (Nat.lt_irrefl _)
    · cases hmem
  · show Value.bool _ = Value.bool _
    have hlen := rv.length
    rw [List.length_map] at hlen
    rw [← any_rangeI, List.size_toArray, ← hlen]
end
/-! ### len(x), y in x, by own methods -/
section
variable {X : Cx} {CX : CXT} {n : Nat} {C g : Addr} {fd : FuncData} {ps : List Str} {sp : Sp} {E : XK}
def rLenO (C : Addr) (sp : Sp) (E : XK) : List V → Hp → VK → Prop := fun xs H Q => ∃ a dx fs, xs = [V.ref a] ∧ H a = some (.ins C dx fs) ∧ sp [.ref a] H (fun z H' => ∃ m : Nat, z = .int (m : Int) ∧ m ≤ 1000 ∧ Q (.int (m : Int)) H') E
theorem call_lenO (m : Meth X.K C "__len__" g) (F : FnOk X.prog X.w X.K X.mg X.base CX n g fd ps sp) (hr : Room (n + 1) X.A) (hb : Binds X.K fd ps []) (hx : Passes CX X E) : CallR X (.builtin "len") (rLenO C sp E) := by
  intro pins s σ H xs us Q I r h
  obtain ⟨a, dx, fs, rfl, ha, q⟩ := h
  obtain ⟨u, rfl, ru⟩ := r.one
  cases (show u = Value.ref a from ru)
  obtain ⟨ox, od, J⟩ := inst_of I ha
  have room : Room n X.A.in1 := Room.in1 hr
  refine Calls.call_function_entry kind_len plain_len entry_len (args_len1 _) ?_
  unfold Builtin.«len»
  refine wpAny_bind (m := oneArg "len" _) (wpAny_pure ?_)
  refine wpAny_bind (m := callSpecial? (.ref a) (Str.ofString "__len__")) (PySem.W.special_fn I.kIn J m.at_ (beq_iff_eq.mp m.fn) (wpAny_mono (run_in (us := [.ref a]) (ws := [.ref a]) F room I.env0.in1 hb hx I (.cons rfl .nil) q) ?_ fun _ _ z => z))
  rintro v s' ⟨z, G, I', rz, k, rfl, hk, qz⟩
  obtain ⟨t, rfl⟩ := rz
  refine wpAny_bind (wpAny_holding (wpAny_pure (wpAny_bind (wpAny_letGo ?_))))
  dsimp only
  rw [if_neg (show ¬ (k : Int) < 0 by omega), if_neg (show ¬ (k : Int) ≥ 2 ^ 63 by omega)]
  exact wpAny_bind (wpAny_mkInt (wpAny_pure ⟨_, rfl, .int (k : Int), G, I'.tok _, ⟨_, rfl⟩, qz⟩))
def rInO (C : Addr) (sp : Sp) (E : XK) : R2 := fun y x H Q => ∃ a dx fs, x = .ref a ∧ H a = some (.ins C dx fs) ∧ sp [x, y] H (fun z H' => ∃ k, z = .bl k ∧ Q (.bl k) H') E
theorem op_inO (m : Meth X.K C "__contains__" g) (F : FnOk X.prog X.w X.K X.mg X.base CX n g fd ps sp) (hr : Room n X.A) (hb : Binds X.K fd ps []) (hx : Passes CX X E) : OpR X (compareOp .In) (rInO C sp E) := by
  intro pins s σ H y x v u Q I ry rx h
  obtain ⟨a, dx, fs, rfl, ha, q⟩ := h
  cases (show u = Value.ref a from rx)
  obtain ⟨ox, od, J⟩ := inst_of I ha
  have ran := run_in (us := [.ref a, v]) (ws := [.ref a, y]) F hr I.env0 hb hx I (.cons rfl (.cons ry .nil)) q
  have found : wpAny (model X.prog X.w) X.A (contains (.ref a) v) (fun k s' => EP X pins σ Q (.bool k) s') X.xe s := by
    unfold contains
    refine wpAny_holding ?_
    have no : stdlibNamesSay? (.ref a) v = none := by
      unfold stdlibNamesSay?
      rfl
    rw [no]
    dsimp only
    unfold specialOf
    refine wpAny_bind (wpAny_bind (J.type.here ((PySem.W.looks_findIn I.kIn m.at_).here ?_)))
    have some_ : ¬ (some (Value.ref g) == some Value.none) = true := fun z => by cases z
    rw [if_neg some_]
    unfold callSpecialUnlessNone? specialOf
    refine wpAny_bind (wpAny_bind (wpAny_bind (J.type.here ((PySem.W.looks_findIn I.kIn m.at_).here (wpAny_holding (wpAny_bind ((PySem.W.bind_fn I.kIn _ (beq_iff_eq.mp m.fn)).here ?_)))))))
    dsimp only
    have ref_ : ¬ (Value.ref g == Value.none) = true := fun z => by cases z
    rw [if_neg ref_]
    refine wpAny_bind (wpAny_mono ran ?_ fun _ _ z => z)
    rintro w s' ⟨z, G, I', rz, k, rfl, qz⟩
    cases (show w = Value.bool k from rz)
    exact wpAny_pure (wpAny_pure ⟨.bl k, G, I', rfl, qz⟩)
  exact wpAny_bind (wpAny_mono found (fun k s' z => wpAny_pure z) fun _ _ z => z)
end
/-! ### repr(x) by an own method, x == y where y is no instance -/
section
variable {X : Cx} {CX : CXT} {n : Nat} {C g : Addr} {fd : FuncData} {ps : List Str} {sp : Sp} {E : XK}
/-- repr(x), by an own method that gives a text -/
def rReprO (C : Addr) (sp : Sp) (E : XK) : List V → Hp → VK → Prop := fun xs H Q => ∃ a dx fs, xs = [V.ref a] ∧ H a = some (.ins C dx fs) ∧ sp [.ref a] H (fun z H' => ∃ t, z = .str t ∧ Q (.str t) H') E
theorem call_reprO (m : Meth X.K C "__repr__" g) (F : FnOk X.prog X.w X.K X.mg X.base CX n g fd ps sp) (hr : Room (n + 1) X.A) (hb : Binds X.K fd ps []) (hx : Passes CX X E) : CallR X (.builtin "repr") (rReprO C sp E) := by
  intro pins s σ H xs us Q I r h
  obtain ⟨a, dx, fs, rfl, ha, q⟩ := h
  obtain ⟨u, rfl, ru⟩ := r.one
  cases (show u = Value.ref a from ru)
  obtain ⟨ox, od, J⟩ := inst_of I ha
  obtain ⟨mm, hF⟩ := I.fr
  have room : Room n X.A.in1 := Room.in1 hr
  refine PySem.W.repr_K room.units0 hF I.ok.mod.kin J m.at_ m.fn (wpAny_mono (run_in (us := [.ref a]) (ws := [.ref a]) F room I.env0.in1 hb hx I (.cons rfl .nil) q) ?_ fun _ _ z => z)
  rintro v s' ⟨z, G, I', rz, t, rfl, qz⟩
  obtain ⟨k, rfl⟩ := rz
  exact ⟨.str t, G, I', ⟨k, rfl⟩, qz⟩
/-- x == y, y a list -/
def rOwnL (C : Addr) (sp : Sp) (E : XK) : R2 := fun x y H Q => ∃ a dx fs l zs, x = .ref a ∧ y = .ref l ∧ H a = some (.ins C dx fs) ∧ H l = some (.lst zs) ∧ sp [x, y] H Q E
theorem op_eqOL (m : Meth X.K C "__eq__" g) (nl : PySem.W.subIn X.K (.type "list") (.ref C) = some false) (F : FnOk X.prog X.w X.K X.mg X.base CX n g fd ps sp) (hr : Room n X.A) (hb : Binds X.K fd ps []) (hx : Passes CX X E) : OpR X (compareOp .Eq) (rOwnL C sp E) := by
  intro pins s σ H x y v u Q I rx ry h
  obtain ⟨a, dx, fs, l, zs, rfl, rfl, ha, hl, q⟩ := h
  cases (show v = Value.ref a from rx)
  cases (show u = Value.ref l from ry)
  obtain ⟨ox, od, J⟩ := inst_of I ha
  obtain ⟨Ps, Z, hP, _⟩ := kit_of I ry (TyX.base (TyOf.lst hl))
  obtain ⟨mm, hF⟩ := I.fr
  have first : PySem.W.notFirst X.K C (.type "list") = true := by
    unfold PySem.W.notFirst
    rw [nl]
    simp
  show wpAny _ _ (richCompare .Eq (.ref a) (.ref l)) _ _ s
  refine PySem.W.cmp_K (op := .Eq) (tb := .type "list") hr.units0 hF I.ok.mod.kin J (Z.ty _ _ I.kIn hP) first m.at_ m.fn ?_
  refine wpAny_mono (run_in (us := [.ref a, .ref l]) (ws := [.ref a, .ref l]) F hr I.env0 hb hx I (.cons rfl (.cons rfl .nil)) q) (fun w s' z => ?_) fun _ _ x => x
  obtain ⟨z', H', I', rz, qz⟩ := z
  exact SlX.cmpback rz ⟨z', H', I', rz, qz⟩
end
/-! ### steps as data -/
inductive Itm where
  | str (s : Str)
  | int (n : Int)
  | pair (a b : Int)
  | sheet (x : Sh)
abbrev words : List Str := ["saw", "split", "glue", "stack", "turn", "Saw", "across", "along", "", "Across"]
/-- what stands for an item -/
def ItAt (H : Hp) (v : V) : Itm → Prop
  | .str s => v = .str s ∧ s ∈ words
  | .int n => v = .int n
  | .pair a b => ∃ p, v = .ref p ∧ H p = some (.tup [.int a, .int b])
  | .sheet x => ∃ p, v = .ref p ∧ ShAt H p x
theorem ItAt.mono {H H' : Hp} (k : ∀ p xs, H p = some (.tup xs) → H' p = some (.tup xs)) {v : V} {t : Itm} (h : ItAt H v t) : ItAt H' v t := by
  cases t with
  | str s => exact h
  | int n => exact h
  | pair a b =>
    obtain ⟨p, e, h⟩ := h
    exact ⟨p, e, k _ _ h⟩
  | sheet x =>
    obtain ⟨p, e, h⟩ := h
    exact ⟨p, e, h.mono k⟩
theorem ItAt.same {H H' : Hp} (s : Same H H') {v : V} {t : Itm} (h : ItAt H v t) : ItAt H' v t := h.mono fun _ _ z => s _ _ z
def StepAt (H : Hp) (p : Addr) (ts : List Itm) : Prop := ∃ vs, H p = some (.tup vs) ∧ Paired (ItAt H) vs ts
theorem StepAt.mono {H H' : Hp} (k : ∀ p xs, H p = some (.tup xs) → H' p = some (.tup xs)) {p : Addr} {ts : List Itm} (h : StepAt H p ts) : StepAt H' p ts := by
  obtain ⟨vs, h1, h2⟩ := h
  refine ⟨vs, k _ _ h1, ?_⟩
  clear h1
  induction h2 with
  | nil => exact .nil
  | cons r _ ih => exact .cons (r.mono k) ih
theorem StepAt.same {H H' : Hp} (s : Same H H') {p : Addr} {ts : List Itm} (h : StepAt H p ts) : StepAt H' p ts := h.mono fun _ _ z => s _ _ z
def pairB : Itm → Bool
  | .pair _ _ => true
  | _ => false
def sheetB : Itm → Bool
  | .sheet _ => true
  | _ => false
def sideB : Itm → Bool
  | .str s => decide (s = "across" ∨ s = "along")
  | _ => false
def leastB (n : Int) : Itm → Bool
  | .int m => decide (n ≤ m)
  | _ => false
section
variable {K : PySem.W.Frag} {H : Hp}
/-- the type of an item -/
theorem ItAt.ty {v : V} {t : Itm} (h : ItAt H v t) : ∃ ty : String, TyX K H v (.type ty) ∧ (ty = "str" ∨ ty = "int" ∨ ty = "tuple") ∧ (ty = "str" ↔ ∃ s, t = .str s) ∧ (ty = "int" ↔ ∃ n, t = .int n) ∧ (ty = "tuple" ↔ (pairB t || sheetB t) = true) := by
  cases t with
  | str s =>
    rw [h.1]
    exact ⟨"str", TyX.base (TyOf.str _), by simp, by simp, by simp, by simp [pairB, sheetB]⟩
  | int n =>
    rw [show v = .int n from h]
    exact ⟨"int", TyX.base (TyOf.int _), by simp, by simp, by simp, by simp [pairB, sheetB]⟩
  | pair a b =>
    obtain ⟨p, rfl, h⟩ := h
    exact ⟨"tuple", TyX.base (TyOf.tup h), by simp, by simp, by simp, by simp [pairB]⟩
  | sheet x =>
    obtain ⟨p, rfl, u, v, h, _⟩ := h
    exact ⟨"tuple", TyX.base (TyOf.tup h), by simp, by simp, by simp, by simp [sheetB]⟩
end
/-! ### what is a step, by the program -/
def itD : Itm → PyData
  | .str s => .str s
  | .int n => .int n
  | .pair a b => .tuple [.int a, .int b]
  | .sheet x => encS x
theorem ItAt.dp {K : PySem.W.Frag} {H : Hp} {v : V} {t : Itm} (h : ItAt H v t) : Dp K H v (itD t) := by
  cases t with
  | str s =>
    obtain ⟨rfl, _⟩ := h
    exact .str _
  | int n =>
    cases (show v = .int n from h)
    exact .int _
  | pair a b =>
    obtain ⟨p, rfl, h⟩ := h
    exact .tup (SqT.of h) (.cons (.int _) (.cons (.int _) .nil))
  | sheet x =>
    obtain ⟨p, rfl, u, v, h1, h2, h3⟩ := h
    exact .tup (SqT.of h1) (.cons (.tup (SqT.of h2) (.cons (.int _) (.cons (.int _) .nil))) (.cons (.tup (SqT.of h3) (.cons (.int _) (.cons (.int _) .nil))) .nil))
theorem itD_plain (t : Itm) : (itD t).plain = true := by
  cases t <;> simp [itD, encS, PyData.plain, PyData.plainAll]
/-- x in a tuple of texts, x of any kind -/
def rInTD (K : PySem.W.Frag) : R2 := fun x y H Q => ∃ (d : PyData) (ss : List Str), Dp K H x d ∧ Dp K H y (.tuple (ss.map .str)) ∧ d.plain = true ∧ Q (.bl ((ss.map PyData.str).any fun z => PyData.eqv z d)) H
theorem strs_plain : ∀ ss : List Str, PyData.plainAll (ss.map .str) = true ∧ PyData.depthAll (ss.map .str) = 0
  | [] => ⟨by simp [PyData.plainAll], by simp [PyData.depthAll]⟩
  | s :: ss => by
    obtain ⟨h1, h2⟩ := strs_plain ss
    exact ⟨by simp [PyData.plainAll, PyData.plain, h1], by simp [PyData.depthAll, PyData.depth, h2]⟩
theorem op_inTD {X : Cx} (hu : X.A.units + 64 < cLine) : OpR X (compareOp .In) (rInTD X.K) := by
  intro pins s σ H x y v u Q I rx ry h
  obtain ⟨d, ss, hd, hy, pl, q⟩ := h
  obtain ⟨as, r1⟩ := Dp.reads I d x v hd rx
  obtain ⟨bs, r2⟩ := Dp.reads I _ y u hy ry
  obtain ⟨p1, p2⟩ := strs_plain ss
  refine SeqAt.in_tuple_data r2 r1 p1 pl ?_ ⟨.bl _, H, I, rfl, q⟩
  rw [p2, Nat.zero_min]
  omega
theorem in_sides (t : Itm) : ((["across", "along"] : List Str).map PyData.str).any (fun z => PyData.eqv z (itD t)) = sideB t := by
  cases t with
  | str s =>
    have e : ∀ c : Str, PyData.eqv (.str c) (.str s) = decide (s = c) := fun c => by
      by_cases z : s = c
      · subst z
        rw [decide_eq_true rfl]
        simp only [PyData.eqv]
        simp
      · rw [decide_eq_false z]
        simp only [PyData.eqv]
        simpa using fun q => z q.symm
    show (PyData.eqv (.str "across") (.str s) || (PyData.eqv (.str "along") (.str s) || false)) = decide (s = "across" ∨ s = "along")
    rw [e, e, Bool.or_false, Bool.decide_or]
  | int n => simp [itD, sideB, PyData.eqv]
  | pair a b => simp [itD, sideB, PyData.eqv]
  | sheet x => simp [itD, encS, sideB, PyData.eqv]
section
variable {base : Heap} {K : PySem.W.Frag} {mg : Str → Option Value} {P : Program} {w : World}
def spItm (f : Itm → Bool) : Sp := fun vs H Q _ => ∃ (v : V) (t : Itm), vs = [v] ∧ ItAt H v t ∧ Q (.bl (f t)) H
theorem ok_is_pair (T : Txt K mg) : FnOk P w K mg base CX0 1 T.f_is_pair T.d_is_pair ["item"] (spItm pairB) := by
  refine T.F_is_pair.ok sc_is_pair (fun vs H Q E h => ?_) (fun cdv A outer s H vs Q E hr h => ?_)
  · obtain ⟨v, t, rfl, _⟩ := h
    rfl
  · obtain ⟨v, t, rfl, h, q⟩ := h
    refine ⟨_, (pss_one (ps_ret (pe_and (pe_callB call_isi (by rfl) T.n_isinstance (by decide +kernel) (pa_cons (pv 0) (pa_cons (pe_bltn (v := .ty "tuple") (by rfl) T.n_tuple (by decide +kernel) rfl) pa_nil))) (pe_and (pe_cmpR op_eq (pe_callB call_len_seq (by rfl) T.n_len (by decide +kernel) (pa_cons (pv 0) pa_nil)) pe_int (nomark _)) (pe_and (pe_callB call_isi (by rfl) T.n_isinstance (by decide +kernel) (pa_cons (pe_ix ix_tup (pv 0) pe_int (fun _ _ => rfl)) (pa_cons (pe_bltn (v := .ty "int") (by rfl) T.n_int (by decide +kernel) rfl) pa_nil))) (pe_one (pe_callB call_isi (by rfl) T.n_isinstance (by decide +kernel) (pa_cons (pe_ix ix_tup (pv 0) pe_int (fun _ _ => rfl)) (pa_cons (pe_bltn (v := .ty "int") (by rfl) T.n_int (by decide +kernel) rfl) pa_nil))))))))), ?_⟩
    cases t with
    | str s =>
      obtain ⟨rfl, _⟩ := h
      exact ⟨_, rfl, .str s, .ty "tuple", _, _, false, rfl, ClsV.ty _, TyX.base (TyOf.str _), kit_ty (by decide +kernel), false, rfl, iteF q⟩
    | int n =>
      cases (show v = .int n from h)
      exact ⟨_, rfl, .int n, .ty "tuple", _, _, false, rfl, ClsV.ty _, TyX.base (TyOf.int _), kit_ty (by decide +kernel), false, rfl, iteF q⟩
    | pair a b =>
      obtain ⟨p, rfl, h⟩ := h
      refine ⟨_, rfl, .ref p, .ty "tuple", _, _, true, rfl, ClsV.ty _, TyX.base (TyOf.tup h), kit_ty (by decide +kernel), true, rfl, iteT ?_⟩
      refine ⟨_, rfl, p, _, rfl, .inr (SqT.of h), rfl, true, rfl, iteT ?_⟩
      refine ⟨_, rfl, p, _, 0, .int a, rfl, rfl, SqT.of h, atI_nat (j := 0) rfl, .int a, .ty "int", _, _, true, rfl, ClsV.ty _, TyX.base (TyOf.int _), kit_ty (by decide +kernel), true, rfl, iteT ?_⟩
      exact ⟨_, rfl, p, _, 1, .int b, rfl, rfl, SqT.of h, atI_nat (j := 1) rfl, .int b, .ty "int", _, _, true, rfl, ClsV.ty _, TyX.base (TyOf.int _), kit_ty (by decide +kernel), q⟩
    | sheet x =>
      obtain ⟨p, rfl, u, v, h, h2, h3⟩ := h
      refine ⟨_, rfl, .ref p, .ty "tuple", _, _, true, rfl, ClsV.ty _, TyX.base (TyOf.tup h), kit_ty (by decide +kernel), true, rfl, iteT ?_⟩
      refine ⟨_, rfl, p, _, rfl, .inr (SqT.of h), rfl, true, rfl, iteT ?_⟩
      exact ⟨_, rfl, p, _, 0, .ref u, rfl, rfl, SqT.of h, atI_nat (j := 0) rfl, .ref u, .ty "int", _, _, false, rfl, ClsV.ty _, TyX.base (TyOf.tup h2), kit_ty (by decide +kernel), false, rfl, iteF q⟩
theorem ok_is_two_pairs (T : Txt K mg) : FnOk P w K mg base CX0 2 T.f_is_two_pairs T.d_is_two_pairs ["item"] (spItm sheetB) := by
  refine T.F_is_two_pairs.ok sc_is_two_pairs (fun vs H Q E h => ?_) (fun cdv A outer s H vs Q E hr h => ?_)
  · obtain ⟨v, t, rfl, _⟩ := h
    rfl
  · obtain ⟨v, t, rfl, h, q⟩ := h
    refine ⟨_, (pss_one (ps_ret (pe_and (pe_callB call_isi (by rfl) T.n_isinstance (by decide +kernel) (pa_cons (pv 0) (pa_cons (pe_bltn (v := .ty "tuple") (by rfl) T.n_tuple (by decide +kernel) rfl) pa_nil))) (pe_and (pe_cmpR op_eq (pe_callB call_len_seq (by rfl) T.n_len (by decide +kernel) (pa_cons (pv 0) pa_nil)) pe_int (nomark _)) (pe_and (pe_call (ok_is_pair T) (hr.mono (by decide)) (by rfl) T.g_is_pair T.F_is_pair.kp T.b_is_pair .nil pass0 (pa_cons (pe_ix ix_tup (pv 0) pe_int (fun _ _ => rfl)) pa_nil)) (pe_one (pe_call (ok_is_pair T) (hr.mono (by decide)) (by rfl) T.g_is_pair T.F_is_pair.kp T.b_is_pair .nil pass0 (pa_cons (pe_ix ix_tup (pv 0) pe_int (fun _ _ => rfl)) pa_nil)))))))), ?_⟩
    cases t with
    | str s =>
      obtain ⟨rfl, _⟩ := h
      exact ⟨_, rfl, .str s, .ty "tuple", _, _, false, rfl, ClsV.ty _, TyX.base (TyOf.str _), kit_ty (by decide +kernel), false, rfl, iteF q⟩
    | int n =>
      cases (show v = .int n from h)
      exact ⟨_, rfl, .int n, .ty "tuple", _, _, false, rfl, ClsV.ty _, TyX.base (TyOf.int _), kit_ty (by decide +kernel), false, rfl, iteF q⟩
    | pair a b =>
      obtain ⟨p, rfl, h⟩ := h
      refine ⟨_, rfl, .ref p, .ty "tuple", _, _, true, rfl, ClsV.ty _, TyX.base (TyOf.tup h), kit_ty (by decide +kernel), true, rfl, iteT ?_⟩
      refine ⟨_, rfl, p, _, rfl, .inr (SqT.of h), rfl, true, rfl, iteT ?_⟩
      exact ⟨_, rfl, p, _, 0, .int a, rfl, rfl, SqT.of h, atI_nat (j := 0) rfl, .int a, .int a, rfl, rfl, false, rfl, iteF q⟩
    | sheet x =>
      obtain ⟨p, rfl, u, v, h, h2, h3⟩ := h
      refine ⟨_, rfl, .ref p, .ty "tuple", _, _, true, rfl, ClsV.ty _, TyX.base (TyOf.tup h), kit_ty (by decide +kernel), true, rfl, iteT ?_⟩
      refine ⟨_, rfl, p, _, rfl, .inr (SqT.of h), rfl, true, rfl, iteT ?_⟩
      refine ⟨_, rfl, p, _, 0, .ref u, rfl, rfl, SqT.of h, atI_nat (j := 0) rfl, .ref u, .pair x.1 x.2.1, rfl, ⟨u, rfl, h2⟩, true, rfl, iteT ?_⟩
      exact ⟨_, rfl, p, _, 1, .ref v, rfl, rfl, SqT.of h, atI_nat (j := 1) rfl, .ref v, .pair x.2.2.1 x.2.2.2, rfl, ⟨v, rfl, h3⟩, q⟩
def fitB (k : Str) (t : Itm) : Bool := if k = "sheet" then sheetB t else if k = "side" then sideB t else if k = "pair" then pairB t else leastB (if k = "pieces" then 2 else 1) t
def spFits : Sp := fun vs H Q _ => ∃ (v : V) (t : Itm) (k : Str), vs = [v, .str k] ∧ ItAt H v t ∧ Q (.bl (fitB k t)) H
theorem ok_fits (T : Txt K mg) : FnOk P w K mg base CX0 3 T.f_fits T.d_fits ["item", "kind"] spFits := by
  refine T.F_fits.ok sc_fits (fun vs H Q E h => ?_) (fun cdv A outer s H vs Q E hr h => ?_)
  · obtain ⟨v, t, k, rfl, _⟩ := h
    rfl
  · obtain ⟨v, t, k, rfl, h, q⟩ := h
    refine ⟨_, (pss_cons (ps_if (pt_cmpR op_eq (pv 1) pe_str (nomark _)) (pss_one (ps_ret (pe_call (ok_is_two_pairs T) (hr.mono (by decide)) (by rfl) T.g_is_two_pairs T.F_is_two_pairs.kp T.b_is_two_pairs .nil pass0 (pa_cons (pv 0) pa_nil)))) pss_nil)
      (pss_cons (ps_if (pt_cmpR op_eq (pv 1) pe_str (nomark _)) (pss_one (ps_ret (pe_cmpR (op_inTD hr.units) (pv 0) (ClX.pe_cval (pe_glob (v := .ref T.C_Heap) (by rfl) T.g_Heap rfl)) (by rfl)))) pss_nil)
      (pss_cons (ps_if (pt_cmpR op_eq (pv 1) pe_str (nomark _)) (pss_one (ps_ret (pe_call (ok_is_pair T) (hr.mono (by decide)) (by rfl) T.g_is_pair T.F_is_pair.kp T.b_is_pair .nil pass0 (pa_cons (pv 0) pa_nil)))) pss_nil)
      (pss_cons (ps_set (i := 2) sc_fits.nd rfl (Or.inl rfl) (pe_ifExp (pt_cmpR op_eq (pv 1) pe_str (nomark _)) pe_int pe_int))
      (pss_one (ps_ret (pe_and (pe_callB call_isi (by rfl) T.n_isinstance (by decide +kernel) (pa_cons (pv 0) (pa_cons (pe_bltn (v := .ty "int") (by rfl) T.n_int (by decide +kernel) rfl) pa_nil))) (pe_one (pe_cmpR op_ge (pv 0) (pv 2) (nomark _)))))))))), ?_⟩
    have kd : ∀ c : Str, decide (V.str k = V.str c) = decide (k = c) := fun c => by
      by_cases z : k = c
      · rw [z, decide_eq_true rfl, decide_eq_true rfl]
      · rw [decide_eq_false fun e => z (V.str.inj e), decide_eq_false z]
    unfold fitB at q
    refine ⟨_, rfl, rfl, _, rfl, ?_⟩
    rw [kd]
    by_cases k1 : k = "sheet"
    · rw [decide_eq_true k1]
      rw [if_pos k1] at q
      exact iteT ⟨_, rfl, v, t, rfl, h, q⟩
    rw [decide_eq_false k1]
    rw [if_neg k1] at q
    refine iteF ⟨_, rfl, rfl, _, rfl, ?_⟩
    rw [kd]
    by_cases k2 : k = "side"
    · rw [decide_eq_true k2]
      rw [if_pos k2] at q
      refine iteT ⟨_, rfl, T.C_Heap, .type "type", .ref T.s_SIDES, .ref T.s_SIDES, rfl, T.cr_Heap, T.cv_SIDES, itD t, ["across", "along"], h.dp, .tup (T.sq_SIDES _) (.cons (.str _) (.cons (.str _) .nil)), itD_plain t, ?_⟩
      rw [in_sides]
      exact q
    rw [decide_eq_false k2]
    rw [if_neg k2] at q
    refine iteF ⟨_, rfl, rfl, _, rfl, ?_⟩
    rw [kd]
    by_cases k3 : k = "pair"
    · rw [decide_eq_true k3]
      rw [if_pos k3] at q
      exact iteT ⟨_, rfl, v, t, rfl, h, q⟩
    rw [decide_eq_false k3]
    rw [if_neg k3] at q
    refine iteF ?_
    have rest : ∀ n : Int, Q (.bl (leastB n t)) H → tAndV (tCB (rIsi K) (tCons (tVar 0) (tCons (tC (.ty "int")) tNil))) (tOp (rI0 fun i j => V.bl (decide (j ≤ i))) (tVar 0) (tVar 2)) [some v, some (.str k), some (.int n)] H Q := by
      intro n q
      cases t with
      | str s =>
        obtain ⟨rfl, _⟩ := h
        exact ⟨_, rfl, .str s, .ty "int", _, _, false, rfl, ClsV.ty _, TyX.base (TyOf.str _), kit_ty (by decide +kernel), false, rfl, iteF q⟩
      | int m =>
        cases (show v = .int m from h)
        exact ⟨_, rfl, .int m, .ty "int", _, _, true, rfl, ClsV.ty _, TyX.base (TyOf.int _), kit_ty (by decide +kernel), true, rfl, iteT ⟨_, rfl, _, rfl, m, n, rfl, rfl, q⟩⟩
      | pair a b =>
        obtain ⟨p, rfl, h⟩ := h
        exact ⟨_, rfl, .ref p, .ty "int", _, _, false, rfl, ClsV.ty _, TyX.base (TyOf.tup h), kit_ty (by decide +kernel), false, rfl, iteF q⟩
      | sheet x =>
        obtain ⟨p, rfl, u, v, h, _⟩ := h
        exact ⟨_, rfl, .ref p, .ty "int", _, _, false, rfl, ClsV.ty _, TyX.base (TyOf.tup h), kit_ty (by decide +kernel), false, rfl, iteF q⟩
    refine ⟨_, rfl, rfl, _, rfl, ?_⟩
    rw [kd]
    by_cases k4 : k = "pieces"
    · rw [decide_eq_true k4]
      rw [if_pos k4] at q
      exact iteT (rest 2 q)
    · rw [decide_eq_false k4]
      rw [if_neg k4] at q
      exact iteF (rest 1 q)
theorem dV' {x y : Int} : decide (V.int x = V.int y) = decide (x = y) := by
  by_cases h : x = y
  · rw [decide_eq_true h, h, decide_eq_true rfl]
  · rw [decide_eq_false h, decide_eq_false fun z => h (V.int.inj z)]
structure Shps (K : PySem.W.Frag) (w : World) (d : Addr) : Prop where
  ex : ∃ es n, KDict K w d es n
/-- a comprehension over two tuples of one length -/
theorem lc_zipT {K : PySem.W.Frag} {a b : Addr} {xs ys : List V} {g : TG} {tt : TT} {te : TE} {vs : List Nat} {σ : L2.St} {H1 : Hp} {D : Addr} {Qd : Hp → Prop} (hn : xs.length = ys.length) (Pv : Nat → Hp → Prop) (h0 : Pv 0 (upd H1 D (.lst []))) (hl : ∀ i G, Pv i G → SqT K G a xs ∧ SqT K G b ys)
    (turn : ∀ i x y G T, xs[i]? = some x → ys[i]? = some y → Pv i G → G T = none → g (.ref T) (wipe σ vs) (upd G T (.tup [x, y])) fun σ2 H2 => wipe σ2 vs = wipe σ vs ∧ tt σ2 H2 fun c H3 => if c = true then te σ2 H3 fun z H4 => ∃ acc, H4 D = some (.lst acc) ∧ acc.length < sizeLine ∧ Pv (i + 1) (upd H4 D (.lst (acc ++ [z]))) else Pv (i + 1) H3)
    (fin : ∀ G, Pv xs.length G → Qd G) : ∃ W : Nat → Nat → Hp → Prop, (∃ m, W 0 m (upd H1 D (.lst []))) ∧ ∀ i m G, W i m G → ((RZ.ItzT K a b).stop i G ∧ Qd G) ∨ ((RZ.ItzT K a b).go i G ∧ ∃ Nx : Hp → Prop, (∀ G', Nx G' → ∃ m', m' < m ∧ W (i + 1) m' G') ∧ ∀ x G', (RZ.ItzT K a b).yld i G x G' → g x (wipe σ vs) G' fun σ2 H2 => wipe σ2 vs = wipe σ vs ∧ tt σ2 H2 fun c H3 => if c = true then te σ2 H3 fun z H4 => ∃ acc, H4 D = some (.lst acc) ∧ acc.length < sizeLine ∧ Nx (upd H4 D (.lst (acc ++ [z]))) else Nx H3) := by
  refine ⟨fun i m G => i + m = xs.length ∧ Pv i G, ⟨xs.length, Nat.zero_add _, h0⟩, ?_⟩
  rintro i m G ⟨hm, pv⟩
  obtain ⟨s1, s2⟩ := hl i G pv
  cases m with
  | zero =>
    obtain rfl : i = xs.length := hm
    exact .inl ⟨⟨xs, ys, s1, s2, .inl (Nat.le_refl _)⟩, fin G pv⟩
  | succ m =>
    have lt : i < xs.length := by omega
    have lt2 : i < ys.length := by omega
    refine .inr ⟨⟨xs, ys, xs[i], ys[i], s1, s2, List.getElem?_eq_getElem lt, List.getElem?_eq_getElem lt2⟩, Pv (i + 1), fun G' z => ⟨m, Nat.lt_succ_self m, by omega, z⟩, ?_⟩
    rintro x G' ⟨T, y, z, rfl, hT, rfl, a1, a2⟩
    exact turn i y z G T (a1 xs s1) (a2 ys s2) pv hT
/-- an item of a dict of the program's top -/
theorem pe_kdget {X : Cx} {d : Addr} {es : Array DictEntry} {n : Nat} {o i : Expr} {td ty : TE} {pos : Pos} (D : KDict X.K X.w d es n) (ho : PE X o td) (hi : PE X i ty) (hs : NoSl i) :
    PE X (.Subscript o i pos) (fun σ H Q => td σ H fun v H1 => ty σ H1 fun y H2 => ∃ (z : Str) (u0 : Value) (v0 : V), v = .ref d ∧ y = .str z ∧ PySem.W.nsIn X.K d z = some (some u0) ∧ RelV v0 u0 ∧ Q v0 H2) := by
  refine ⟨fun pins s σ H Q I q => ?_⟩
  refine subD_of PySem.F.slot_dict_getitem.lookup hs (thn (ho.run pins s σ H _ I q) fun u s1 ⟨v, H1, I1, rv, q1⟩ => thn (hi.run pins s1 σ H1 _ I1 q1) fun iv s2 ⟨y, H2, I2, ry, z, u0, v0, e1, e2, e3, e4, q2⟩ => ?_)
  subst e1
  cases rv
  exact ⟨⟨_, I2.kIn _ _ D.at_, rfl⟩, op_item_kd D pins s2 σ H2 (.ref d) y (.ref d) iv Q I2 rfl ry ⟨z, u0, v0, rfl, e2, e3, e4, q2⟩⟩
def shapeOf (s : Str) : Option (List Str) :=
  if s = "saw" then some ["sheet", "side", "pair", "copies"] else if s = "split" then some ["sheet", "side", "pieces", "copies"] else if s = "glue" then some ["sheet", "sheet", "side", "copies"]
  else if s = "stack" then some ["sheet", "side", "pieces", "copies"] else if s = "turn" then some ["sheet", "copies"] else none
def fitAll : List Itm → List Str → Bool
  | t :: ts, k :: ks => fitB k t && fitAll ts ks
  | _, _ => true
def shapeB : List Itm → Bool
  | .str s :: ts => match shapeOf s with
    | some ks => decide (ts.length = ks.length) && fitAll ts ks
    | none => false
  | _ => false
/-- what the table says of a word -/
theorem shape_at (T : Txt K mg) {s : Str} (h : s ∈ words) : (shapeOf s = none ∧ PySem.W.nsIn K T.u_SHAPES s = some none) ∨ ∃ ks p, shapeOf s = some ks ∧ PySem.W.nsIn K T.u_SHAPES s = some (some (.ref p)) ∧ ∀ H, SqT K H p (ks.map V.str) := by
  simp only [words, List.mem_cons, List.not_mem_nil, or_false] at h
  rcases h with rfl | rfl | rfl | rfl | rfl | rfl | rfl | rfl | rfl | rfl
  · exact .inr ⟨_, T.p_SHAPES_saw, rfl, T.h_SHAPES_saw, T.q_SHAPES_saw⟩
  · exact .inr ⟨_, T.p_SHAPES_split, rfl, T.h_SHAPES_split, T.q_SHAPES_split⟩
  · exact .inr ⟨_, T.p_SHAPES_glue, rfl, T.h_SHAPES_glue, T.q_SHAPES_glue⟩
  · exact .inr ⟨_, T.p_SHAPES_stack, rfl, T.h_SHAPES_stack, T.q_SHAPES_stack⟩
  · exact .inr ⟨_, T.p_SHAPES_turn, rfl, T.h_SHAPES_turn, T.q_SHAPES_turn⟩
  · exact .inl ⟨rfl, T.m0_SHAPES⟩
  · exact .inl ⟨rfl, T.m1_SHAPES⟩
  · exact .inl ⟨rfl, T.m2_SHAPES⟩
  · exact .inl ⟨rfl, T.m3_SHAPES⟩
  · exact .inl ⟨rfl, T.m4_SHAPES⟩
theorem fit_list : ∀ {ts : List Itm} {ks : List Str}, ts.length = ks.length → (List.zipWith (fun t k => fitB k t) ts ks).all id = fitAll ts ks
  | [], [], _ => rfl
  | t :: ts, k :: ks, h => by
    rw [List.zipWith_cons_cons, List.all_cons, fit_list (Nat.succ.inj h)]
    rfl
def spStep (f : List Itm → Bool) : Sp := fun vs H Q _ => ∃ (p : Addr) (ts : List Itm), vs = [.ref p] ∧ StepAt H p ts ∧ ts.length ≤ 10 ∧ ∀ H', Same H H' → Q (.bl (f ts)) H'
theorem ok_has_shape (T : Txt K mg) (D : Shps K w T.u_SHAPES) : FnOk P w K mg base CX0 4 T.f_has_shape T.d_has_shape ["step"] (spStep shapeB) := by
  obtain ⟨esD, nD, KD⟩ := D.ex
  refine T.F_has_shape.ok sc_has_shape (fun vs H Q E h => ?_) (fun cdv A outer s H vs Q E hr h => ?_)
  · obtain ⟨p, ts, rfl, _⟩ := h
    rfl
  · obtain ⟨p, ts, rfl, ⟨vs, hp, hts⟩, ln, q⟩ := h
    refine ⟨_, (pss_cons (ps_if (PW.pt (pw_or (pt_cmpR op_eq (pe_callB call_len_seq (by rfl) T.n_len (by decide +kernel) (pa_cons (pv 0) pa_nil)) pe_int (nomark _)) (pw_or (pt_not (pt_val (pe_callB call_isi (by rfl) T.n_isinstance (by decide +kernel) (pa_cons (pe_ix ix_tup (pv 0) pe_int (fun _ _ => rfl)) (pa_cons (pe_bltn (v := .ty "str") (by rfl) T.n_str (by decide +kernel) rfl) pa_nil))))) (pw_or1 (pt_cmpR (op_notIn_kd KD) (pe_ix ix_tup (pv 0) pe_int (fun _ _ => rfl)) (pe_glob (v := .ref T.u_SHAPES) (by rfl) T.g_SHAPES rfl) (by rfl)))))) (pss_one (ps_ret pe_bl)) pss_nil)
      (pss_cons (ps_set (i := 1) sc_has_shape.nd rfl (Or.inl rfl) (pe_kdget KD (pe_glob (v := .ref T.u_SHAPES) (by rfl) T.g_SHAPES rfl) (pe_ix ix_tup (pv 0) pe_int (fun _ _ => rfl)) (fun _ _ => rfl)))
      (pss_one (ps_ret (pe_and (pe_cmpR op_eq (pe_callB call_len_seq (by rfl) T.n_len (by decide +kernel) (pa_cons (pv 0) pa_nil)) (pe_op op_add (pe_callB call_len_seq (by rfl) T.n_len (by decide +kernel) (pa_cons (pv 1) pa_nil)) pe_int) (nomark _)) (pe_one (pe_callB (cr_all rfl) (by rfl) T.n_all (by decide +kernel) (pa_cons (pe_lc (own := [("item", 2), ("kind", 3)]) (g := (gTup K 2 (gCons (gName 2) (gCons (gName 3) gNil)))) (tt := tYes) (te := tCall spFits [] E0 (tCons (tVar 2) (tCons (tVar 3) tNil))) (by rfl) sc_has_shape.nd (RZ.pi_zipA (by rfl) T.n_zip (pa_cons (pe_slice sl_tupA (pv 0) (po_some pe_int) po_none) (pa_cons (pv 1) pa_nil))) (blkOk_by (own := [("item", 2), ("kind", 3)]) (N := ["step", "shape", "item", "kind"]) (sc := defScope s_has_shape) (by decide +kernel)) (fun _ _ _ _ _ => (pg_tup (by rfl) (pgs_cons (pg_name (i := 2) sc_has_shape.nd rfl (Or.inl rfl)) (pgs_cons (pg_name (i := 3) sc_has_shape.nd rfl (Or.inl rfl)) pgs_nil)))) (fun _ _ _ _ _ => pts_nil) (fun _ _ _ _ _ => (pe_call (ok_fits T) (hr.mono (by decide)) (by rfl) T.g_fits T.F_fits.kp T.b_fits .nil pass0 (pa_cons (pv 2) (pa_cons (pv 3) pa_nil))))) pa_nil)))))))), ?_⟩
    cases hts with
    | nil => exact ⟨_, rfl, p, _, rfl, .inr (SqT.of hp), rfl, true, rfl, iteT (q H (Same.refl _))⟩
    | @cons v t vs ts hv hts =>
      have hlen := Paired.length hts
      refine ⟨_, rfl, p, _, rfl, .inr (SqT.of hp), rfl, false, ?_, iteF ?_⟩
      · rw [dV', decide_eq_false (by rw [List.length_cons]; omega)]
      have no : (∀ s, t ≠ .str s) → shapeB (t :: ts) = false := fun z => by
        cases t with
        | str s => exact absurd rfl (z s)
        | _ => rfl
      cases t with
      | int n =>
        cases (show v = .int n from hv)
        exact ⟨_, rfl, p, _, 0, .int n, rfl, rfl, SqT.of hp, atI_nat (j := 0) rfl, .int n, .ty "str", _, _, false, rfl, ClsV.ty _, TyX.base (TyOf.int _), kit_ty (by decide +kernel), false, rfl, iteT (q H (Same.refl _))⟩
      | pair a b =>
        obtain ⟨r, rfl, h⟩ := hv
        exact ⟨_, rfl, p, _, 0, .ref r, rfl, rfl, SqT.of hp, atI_nat (j := 0) rfl, .ref r, .ty "str", _, _, false, rfl, ClsV.ty _, TyX.base (TyOf.tup h), kit_ty (by decide +kernel), false, rfl, iteT (q H (Same.refl _))⟩
      | sheet x =>
        obtain ⟨r, rfl, u, u', h, _⟩ := hv
        exact ⟨_, rfl, p, _, 0, .ref r, rfl, rfl, SqT.of hp, atI_nat (j := 0) rfl, .ref r, .ty "str", _, _, false, rfl, ClsV.ty _, TyX.base (TyOf.tup h), kit_ty (by decide +kernel), false, rfl, iteT (q H (Same.refl _))⟩
      | str s =>
        obtain ⟨rfl, hw⟩ := hv
        refine ⟨_, rfl, p, _, 0, .str s, rfl, rfl, SqT.of hp, atI_nat (j := 0) rfl, .str s, .ty "str", _, _, true, rfl, ClsV.ty _, TyX.base (TyOf.str _), kit_ty (by decide +kernel), true, rfl, iteF ?_⟩
        rcases shape_at T hw with ⟨sn, nn⟩ | ⟨ks, pk, sn, nn, sq⟩
        · refine ⟨_, rfl, p, _, 0, .str s, rfl, rfl, SqT.of hp, atI_nat (j := 0) rfl, s, none, rfl, rfl, nn, true, rfl, iteT ?_⟩
          have z : shapeB (.str s :: ts) = false := by simp only [shapeB, sn]
          rw [z] at q
          exact q H (Same.refl _)
        · have sB : shapeB (.str s :: ts) = (decide (ts.length = ks.length) && fitAll ts ks) := by
            simp only [shapeB, sn]
          rw [sB] at q
          refine ⟨_, rfl, p, _, 0, .str s, rfl, rfl, SqT.of hp, atI_nat (j := 0) rfl, s, some (.ref pk), rfl, rfl, nn, false, rfl, iteF ?_⟩
          refine ⟨_, rfl, p, _, 0, .str s, rfl, rfl, SqT.of hp, atI_nat (j := 0) rfl, s, .ref pk, .ref pk, rfl, rfl, nn, rfl, ?_⟩
          refine ⟨_, rfl, p, _, rfl, .inr (SqT.of hp), _, rfl, pk, _, rfl, .inr (sq _), _, 1, rfl, rfl, rfl, ?_⟩
          have lk : (ks.map V.str).length = ks.length := List.length_map ..
          by_cases le : ts.length = ks.length
          · rw [decide_eq_true le, Bool.true_and] at q
            refine ⟨true, ?_, iteT ?_⟩
            · rw [dV', decide_eq_true (by rw [List.length_cons, lk, hlen]; omega)]
            have c1 : cutV (V.str s :: vs) (some 1) none = vs := by
              unfold cutV
              rw [HT.sIx_none, show (1 : Int) = ((1 : Nat) : Int) from rfl, HT.sIx_nat, List.length_cons, Nat.min_eq_left (by omega), List.drop_succ_cons, List.drop_zero, List.take_of_length_le (by omega)]
            refine ⟨_, rfl, 1, rfl, p, _, rfl, SqT.of hp, fun z => ?_, fun _ p2 n2 => ?_⟩
            · have := z.1
              rw [show (1 : Int) = ((1 : Nat) : Int) from rfl, HT.sIx_nat, List.length_cons] at this
              omega
            rw [c1]
            have e2 := same_new (o := .tup vs) n2
            refine ⟨_, rfl, p2, pk, vs, ks.map V.str, rfl, .inr ⟨SqT.of upd_same, sq _, fun L nL => ?_⟩⟩
            have e3 := same_new (o := .lst []) nL
            refine lc_zipT (K := K) (a := p2) (b := pk) (xs := vs) (ys := ks.map V.str) (by rw [lk, hlen, le]) (fun i G => Same (upd H p2 (.tup vs)) G ∧ G L = some (.lst (((List.zipWith (fun t k => fitB k t) ts ks).take i).map V.bl))) ⟨e3, upd_same⟩ (fun i G z => ⟨SqT.of (z.1 _ _ upd_same), sq _⟩) ?_ ?_
            · rintro i x y G T1 hx hy ⟨sG, hG⟩ nT
              obtain ⟨t, ht, rt⟩ := Paired.getL hts hx
              rw [List.getElem?_map] at hy
              cases hk : ks[i]? with
              | none =>
                rw [hk] at hy
                cases hy
              | some k =>
                rw [hk] at hy
                cases hy
                have eT := same_new (o := .tup [x, .str k]) nT
                have hi := (List.getElem?_eq_some_iff.mp hx).1
                refine ⟨T1, _, rfl, SqT.of upd_same, rfl, x, _, rfl, .str k, _, rfl, rfl, rfl, _, rfl, _, rfl, x, t, k, rfl, (rt.same (e2.trans (sG.trans eT))), _, eT _ _ hG, ?_, fun a o z => (upd_ne (ne_of_none z nL)).trans ((sG.trans eT) a o z), ?_⟩
                · rw [List.length_map, List.length_take]
                  rw [List.length_cons] at ln
                  exact small1000 (by omega)
                · rw [upd_same, List.take_add_one, List.getElem?_zipWith, ht, hk, List.map_append]
                  rfl
            · rintro G ⟨sG, hG⟩
              have hz : (List.zipWith (fun t k => fitB k t) ts ks).length = vs.length := by
                rw [List.length_zipWith, ← le, Nat.min_self, hlen]
              rw [← hz, List.take_length] at hG
              refine ⟨L, _, rfl, SqL.of hG, ?_⟩
              rw [fit_list le]
              exact q _ (e2.trans sG)
          · rw [decide_eq_false le, Bool.false_and] at q
            refine ⟨false, ?_, iteF (q H (Same.refl _))⟩
            rw [dV', decide_eq_false (by rw [List.length_cons, lk, hlen]; omega)]
end
/-! ### even splits and glues, is_step, check_steps -/
def sideOf (x : Sh) (s : Str) : Int × Int := if s = "across" then (x.1, x.2.1) else (x.2.2.1, x.2.2.2)
def turnS (x : Sh) : Sh := (x.2.2.1, x.2.2.2, x.1, x.2.1)
def evenB (x : Sh) (s : Str) (n : Int) : Bool := decide ((sideOf x s).1 % n = 0) && decide ((sideOf x s).2 % n = 0)
def glueB (x y : Sh) (s : Str) : Bool := decide (sideOf (turnS x) s = sideOf (turnS y) s)
def moreB : List Itm → Bool
  | [.str w, .sheet x, .str s, .int n, .int _] => if w = "split" then evenB x s n else true
  | [.str w, .sheet x, .sheet y, .str s, .int _] => if w = "glue" then glueB x y s else true
  | _ => true
def stepB (ts : List Itm) : Bool := shapeB ts && moreB ts
abbrev SideW (s : Str) : Prop := s = "across" ∨ s = "along"
theorem fit_sheet {t : Itm} (h : fitB "sheet" t = true) : ∃ x, t = .sheet x := by
  cases t <;> first | exact ⟨_, rfl⟩ | cases h
theorem fit_side {t : Itm} (h : fitB "side" t = true) : ∃ s, t = .str s ∧ SideW s := by
  cases t with
  | str s => exact ⟨s, rfl, of_decide_eq_true h⟩
  | _ => cases h
theorem fit_pair {t : Itm} (h : fitB "pair" t = true) : ∃ a b, t = .pair a b := by
  cases t <;> first | exact ⟨_, _, rfl⟩ | cases h
theorem fit_pieces {t : Itm} (h : fitB "pieces" t = true) : ∃ n, t = .int n ∧ 2 ≤ n := by
  cases t with
  | int n => exact ⟨n, rfl, of_decide_eq_true h⟩
  | _ => cases h
theorem fit_copies {t : Itm} (h : fitB "copies" t = true) : ∃ n, t = .int n ∧ 1 ≤ n := by
  cases t with
  | int n => exact ⟨n, rfl, of_decide_eq_true h⟩
  | _ => cases h
/-- what has a shape -/
inductive Shaped : List Itm → Prop
  | saw {x : Sh} {s : Str} {a b c : Int} (hs : SideW s) (hc : 1 ≤ c) : Shaped [.str "saw", .sheet x, .str s, .pair a b, .int c]
  | split {x : Sh} {s : Str} {n c : Int} (hs : SideW s) (hn : 2 ≤ n) (hc : 1 ≤ c) : Shaped [.str "split", .sheet x, .str s, .int n, .int c]
  | glue {x y : Sh} {s : Str} {c : Int} (hs : SideW s) (hc : 1 ≤ c) : Shaped [.str "glue", .sheet x, .sheet y, .str s, .int c]
  | stack {x : Sh} {s : Str} {n c : Int} (hs : SideW s) (hn : 2 ≤ n) (hc : 1 ≤ c) : Shaped [.str "stack", .sheet x, .str s, .int n, .int c]
  | turn {x : Sh} {c : Int} (hc : 1 ≤ c) : Shaped [.str "turn", .sheet x, .int c]
theorem fit4 {ts : List Itm} {k1 k2 k3 k4 : Str} (h : (decide (ts.length = 4) && fitAll ts [k1, k2, k3, k4]) = true) : ∃ t1 t2 t3 t4, ts = [t1, t2, t3, t4] ∧ fitB k1 t1 = true ∧ fitB k2 t2 = true ∧ fitB k3 t3 = true ∧ fitB k4 t4 = true := by
  rw [Bool.and_eq_true] at h
  obtain ⟨h1, h2⟩ := h
  have h1 := of_decide_eq_true h1
  match ts, h1 with
  | [t1, t2, t3, t4], _ =>
    simp only [fitAll, Bool.and_eq_true, Bool.and_true] at h2
    exact ⟨t1, t2, t3, t4, rfl, h2.1, h2.2.1, h2.2.2.1, h2.2.2.2⟩
theorem shape_inv {ts : List Itm} (h : shapeB ts = true) : Shaped ts := by
  match ts, h with
  | .str s :: ts, h =>
    by_cases s1 : s = "saw"
    · subst s1
      obtain ⟨t1, t2, t3, t4, rfl, f1, f2, f3, f4⟩ := fit4 (show (decide (ts.length = 4) && fitAll ts ["sheet", "side", "pair", "copies"]) = true from h)
      obtain ⟨x, rfl⟩ := fit_sheet f1
      obtain ⟨w, rfl, hw⟩ := fit_side f2
      obtain ⟨a, b, rfl⟩ := fit_pair f3
      obtain ⟨c, rfl, hc⟩ := fit_copies f4
      exact .saw hw hc
    by_cases s2 : s = "split"
    · subst s2
      obtain ⟨t1, t2, t3, t4, rfl, f1, f2, f3, f4⟩ := fit4 (show (decide (ts.length = 4) && fitAll ts ["sheet", "side", "pieces", "copies"]) = true from h)
      obtain ⟨x, rfl⟩ := fit_sheet f1
      obtain ⟨w, rfl, hw⟩ := fit_side f2
      obtain ⟨n, rfl, hn⟩ := fit_pieces f3
      obtain ⟨c, rfl, hc⟩ := fit_copies f4
      exact .split hw hn hc
    by_cases s3 : s = "glue"
    · subst s3
      obtain ⟨t1, t2, t3, t4, rfl, f1, f2, f3, f4⟩ := fit4 (show (decide (ts.length = 4) && fitAll ts ["sheet", "sheet", "side", "copies"]) = true from h)
      obtain ⟨x, rfl⟩ := fit_sheet f1
      obtain ⟨y, rfl⟩ := fit_sheet f2
      obtain ⟨w, rfl, hw⟩ := fit_side f3
      obtain ⟨c, rfl, hc⟩ := fit_copies f4
      exact .glue hw hc
    by_cases s4 : s = "stack"
    · subst s4
      obtain ⟨t1, t2, t3, t4, rfl, f1, f2, f3, f4⟩ := fit4 (show (decide (ts.length = 4) && fitAll ts ["sheet", "side", "pieces", "copies"]) = true from h)
      obtain ⟨x, rfl⟩ := fit_sheet f1
      obtain ⟨w, rfl, hw⟩ := fit_side f2
      obtain ⟨n, rfl, hn⟩ := fit_pieces f3
      obtain ⟨c, rfl, hc⟩ := fit_copies f4
      exact .stack hw hn hc
    by_cases s5 : s = "turn"
    · subst s5
      have h : (decide (ts.length = 2) && fitAll ts ["sheet", "copies"]) = true := h
      rw [Bool.and_eq_true] at h
      obtain ⟨h1, h2⟩ := h
      have h1 := of_decide_eq_true h1
      match ts, h1 with
      | [t1, t2], _ =>
        simp only [fitAll, Bool.and_eq_true, Bool.and_true] at h2
        obtain ⟨x, rfl⟩ := fit_sheet h2.1
        obtain ⟨c, rfl, hc⟩ := fit_copies h2.2
        exact .turn hc
    · exfalso
      have sn : shapeOf s = none := by
        unfold shapeOf
        rw [if_neg s1, if_neg s2, if_neg s3, if_neg s4, if_neg s5]
      simp only [shapeB, sn] at h
      cases h
section
variable {base : Heap} {K : PySem.W.Frag} {mg : Str → Option Value} {P : Program} {w : World}
def spTurned : Sp := fun vs H Q _ => ∃ (p : Addr) (x : Sh), vs = [.ref p] ∧ ShAt H p x ∧ ∀ q H', H q = none → Same H H' → ShAt H' q (turnS x) → Q (.ref q) H'
theorem ok_turned (T : Txt K mg) : FnOk P w K mg base CX0 1 T.f_turned T.d_turned ["sheet"] spTurned := by
  refine T.F_turned.ok sc_turned (fun vs H Q E h => ?_) (fun cdv A outer s H vs Q E hr h => ?_)
  · obtain ⟨p, x, rfl, _⟩ := h
    rfl
  · obtain ⟨p, x, rfl, ⟨u, v, h1, h2, h3⟩, q⟩ := h
    refine ⟨_, (pss_cons (ps_asg (pv 0) (pg_tup (by rfl) (pgs_cons (pg_name (i := 1) sc_turned.nd rfl (Or.inl rfl)) (pgs_cons (pg_name (i := 2) sc_turned.nd rfl (Or.inl rfl)) pgs_nil))))
      (pss_one (ps_ret (pe_tup (pa_cons (pv 2) (pa_cons (pv 1) pa_nil)))))), ?_⟩
    refine ⟨_, rfl, p, _, rfl, SqT.of h1, rfl, .ref u, _, rfl, .ref v, _, rfl, rfl, _, rfl, _, rfl, by show 2 ≤ sizeLine; decide, fun t ht => ?_⟩
    have e := same_new (o := .tup [.ref v, .ref u]) ht
    exact q t _ ht e ⟨v, u, upd_same, e _ _ h3, e _ _ h2⟩
def spSideOf : Sp := fun vs H Q _ => ∃ (p : Addr) (x : Sh) (s : Str), vs = [.ref p, .str s] ∧ ShAt H p x ∧ ∀ r, H r = some (.tup [.int (sideOf x s).1, .int (sideOf x s).2]) → Q (.ref r) H
theorem ok_side_of (T : Txt K mg) : FnOk P w K mg base CX0 1 T.f_side_of T.d_side_of ["sheet", "side"] spSideOf := by
  refine T.F_side_of.ok sc_side_of (fun vs H Q E h => ?_) (fun cdv A outer s H vs Q E hr h => ?_)
  · obtain ⟨p, x, s, rfl, _⟩ := h
    rfl
  · obtain ⟨p, x, sd, rfl, ⟨u, v, h1, h2, h3⟩, q⟩ := h
    refine ⟨_, (pss_cons (ps_asg (pv 0) (pg_tup (by rfl) (pgs_cons (pg_name (i := 2) sc_side_of.nd rfl (Or.inl rfl)) (pgs_cons (pg_name (i := 3) sc_side_of.nd rfl (Or.inl rfl)) pgs_nil))))
      (pss_one (ps_ret (pe_ifExp (pt_cmpR op_eq (pv 1) pe_str (nomark _)) (pv 2) (pv 3))))), ?_⟩
    unfold sideOf at q
    refine ⟨_, rfl, p, _, rfl, SqT.of h1, rfl, .ref u, _, rfl, .ref v, _, rfl, rfl, ?_⟩
    by_cases z : sd = "across"
    · rw [if_pos z] at q
      exact ⟨_, rfl, rfl, true, by rw [z, decide_eq_true rfl], iteT ⟨_, rfl, q u h2⟩⟩
    · rw [if_neg z] at q
      exact ⟨_, rfl, rfl, false, by rw [decide_eq_false fun e => z (V.str.inj e)], iteF ⟨_, rfl, q v h3⟩⟩
def spSplit : Sp := fun vs H Q _ => ∃ (p : Addr) (x : Sh) (s : Str) (n c : Int), vs = [.ref p] ∧ StepAt H p [.str "split", .sheet x, .str s, .int n, .int c] ∧ 2 ≤ n ∧ Q (.bl (evenB x s n)) H
theorem ok_is_even_split (T : Txt K mg) : FnOk P w K mg base CX0 2 T.f_is_even_split T.d_is_even_split ["step"] spSplit := by
  refine T.F_is_even_split.ok sc_is_even_split (fun vs H Q E h => ?_) (fun cdv A outer s H vs Q E hr h => ?_)
  · obtain ⟨p, x, s, n, c, rfl, _⟩ := h
    rfl
  · obtain ⟨p, x, sd, n, c, rfl, ⟨vs, hp, hts⟩, hn, q⟩ := h
    refine ⟨_, (pss_cons (ps_asg (pv 0) (pg_tup (by rfl) (pgs_cons (pg_name (i := 1) sc_is_even_split.nd rfl (Or.inl rfl)) (pgs_cons (pg_name (i := 2) sc_is_even_split.nd rfl (Or.inl rfl)) (pgs_cons (pg_name (i := 3) sc_is_even_split.nd rfl (Or.inl rfl)) (pgs_cons (pg_name (i := 4) sc_is_even_split.nd rfl (Or.inl rfl)) (pgs_cons (pg_name (i := 5) sc_is_even_split.nd rfl (Or.inl rfl)) pgs_nil)))))))
      (pss_cons (ps_asg (pe_call (ok_side_of T) (hr.mono (by decide)) (by rfl) T.g_side_of T.F_side_of.kp T.b_side_of .nil pass0 (pa_cons (pv 2) (pa_cons (pv 3) pa_nil))) (pg_tup (by rfl) (pgs_cons (pg_name (i := 6) sc_is_even_split.nd rfl (Or.inl rfl)) (pgs_cons (pg_name (i := 7) sc_is_even_split.nd rfl (Or.inl rfl)) pgs_nil))))
      (pss_one (ps_ret (pe_and (pe_cmpR op_eq (pe_op op_mod (pv 6) (pv 4)) pe_int (nomark _)) (pe_one (pe_cmpR op_eq (pe_op op_mod (pv 7) (pv 4)) pe_int (nomark _)))))))), ?_⟩
    match vs, hts with
    | [v0, v1, v2, v3, v4], .cons ⟨e0, _⟩ (.cons ⟨px, e1, hx⟩ (.cons ⟨e2, _⟩ (.cons h3 (.cons h4 .nil)))) =>
      subst e0 e1 e2
      cases (show v3 = .int n from h3)
      cases (show v4 = .int c from h4)
      refine ⟨_, rfl, p, _, rfl, SqT.of hp, rfl, .str "split", _, rfl, .ref px, _, rfl, .str sd, _, rfl, .int n, _, rfl, .int c, _, rfl, rfl, ?_⟩
      refine ⟨_, rfl, _, rfl, px, x, sd, rfl, hx, fun r hr' => ⟨r, _, rfl, SqT.of hr', rfl, .int _, _, rfl, .int _, _, rfl, rfl, ?_⟩⟩
      unfold evenB at q
      refine ⟨_, rfl, _, rfl, _, n, rfl, rfl, (show 0 < n by omega), rfl, _, rfl, ?_⟩
      rw [dV']
      cases z : decide ((sideOf x sd).1 % n = 0) with
      | false =>
        rw [z, Bool.false_and] at q
        exact iteF q
      | true =>
        rw [z, Bool.true_and] at q
        refine iteT ⟨_, rfl, _, rfl, _, n, rfl, rfl, (show 0 < n by omega), rfl, ?_⟩
        rw [dV']
        exact q
def spGlue : Sp := fun vs H Q _ => ∃ (p : Addr) (x y : Sh) (s : Str) (c : Int), vs = [.ref p] ∧ StepAt H p [.str "glue", .sheet x, .sheet y, .str s, .int c] ∧ ∀ H', Same H H' → Q (.bl (glueB x y s)) H'
theorem pair_eqv (a b c e : Int) : PyData.eqv (.tuple [.int a, .int b]) (.tuple [.int c, .int e]) = decide ((a, b) = (c, e)) := by
  rw [Bool.eq_iff_iff, decide_eq_true_iff]
  simp [PyData.eqv, PyData.eqvAll]
theorem dpair {H : Hp} {p : Addr} {x y : Int} (h : H p = some (.tup [.int x, .int y])) : Dp K H (.ref p) (.tuple [.int x, .int y]) := .tup (SqT.of h) (.cons (.int x) (.cons (.int y) .nil))
theorem ok_is_even_glue (T : Txt K mg) : FnOk P w K mg base CX0 2 T.f_is_even_glue T.d_is_even_glue ["step"] spGlue := by
  refine T.F_is_even_glue.ok sc_is_even_glue (fun vs H Q E h => ?_) (fun cdv A outer s H vs Q E hr h => ?_)
  · obtain ⟨p, x, y, s, c, rfl, _⟩ := h
    rfl
  · obtain ⟨p, x, y, sd, c, rfl, ⟨vs, hp, hts⟩, q⟩ := h
    refine ⟨_, (pss_cons (ps_asg (pv 0) (pg_tup (by rfl) (pgs_cons (pg_name (i := 1) sc_is_even_glue.nd rfl (Or.inl rfl)) (pgs_cons (pg_name (i := 2) sc_is_even_glue.nd rfl (Or.inl rfl)) (pgs_cons (pg_name (i := 3) sc_is_even_glue.nd rfl (Or.inl rfl)) (pgs_cons (pg_name (i := 4) sc_is_even_glue.nd rfl (Or.inl rfl)) (pgs_cons (pg_name (i := 5) sc_is_even_glue.nd rfl (Or.inl rfl)) pgs_nil)))))))
      (pss_one (ps_ret (pe_cmpR (op_eqD hr.units) (pe_call (ok_side_of T) (hr.mono (by decide)) (by rfl) T.g_side_of T.F_side_of.kp T.b_side_of .nil pass0 (pa_cons (pe_call (ok_turned T) (hr.mono (by decide)) (by rfl) T.g_turned T.F_turned.kp T.b_turned .nil pass0 (pa_cons (pv 2) pa_nil)) (pa_cons (pv 4) pa_nil))) (pe_call (ok_side_of T) (hr.mono (by decide)) (by rfl) T.g_side_of T.F_side_of.kp T.b_side_of .nil pass0 (pa_cons (pe_call (ok_turned T) (hr.mono (by decide)) (by rfl) T.g_turned T.F_turned.kp T.b_turned .nil pass0 (pa_cons (pv 3) pa_nil)) (pa_cons (pv 4) pa_nil))) (nomark _))))), ?_⟩
    match vs, hts with
    | [v0, v1, v2, v3, v4], .cons ⟨e0, _⟩ (.cons ⟨px, e1, hx⟩ (.cons ⟨py, e2, hy⟩ (.cons ⟨e3, _⟩ (.cons h4 .nil)))) =>
      subst e0 e1 e2 e3
      cases (show v4 = .int c from h4)
      refine ⟨_, rfl, p, _, rfl, SqT.of hp, rfl, .str "glue", _, rfl, .ref px, _, rfl, .ref py, _, rfl, .str sd, _, rfl, .int c, _, rfl, rfl, ?_⟩
      refine ⟨_, rfl, px, x, rfl, hx, fun q1 H1 n1 s1 hq1 => ⟨_, rfl, q1, _, sd, rfl, hq1, fun r1 hr1 => ⟨_, rfl, py, y, rfl, hy.same s1, fun q2 H2 n2 s2 hq2 => ⟨_, rfl, q2, _, sd, rfl, hq2, fun r2 hr2 => ?_⟩⟩⟩⟩
      refine ⟨_, _, dpair (s2 _ _ hr1), dpair hr2, rfl, rfl, ?_⟩
      rw [pair_eqv]
      exact q _ (s1.trans s2)
theorem ok_is_step (T : Txt K mg) (D : Shps K w T.u_SHAPES) : FnOk P w K mg base CX0 5 T.f_is_step T.d_is_step ["step"] (spStep stepB) := by
  refine T.F_is_step.ok sc_is_step (fun vs H Q E h => ?_) (fun cdv A outer s H vs Q E hr h => ?_)
  · obtain ⟨p, ts, rfl, _⟩ := h
    rfl
  · obtain ⟨p, ts, rfl, hS, ln, q⟩ := h
    refine ⟨_, (pss_cons (ps_if (pt_not (pt_val (pe_call (ok_has_shape T D) (hr.mono (by decide)) (by rfl) T.g_has_shape T.F_has_shape.kp T.b_has_shape .nil pass0 (pa_cons (pv 0) pa_nil)))) (pss_one (ps_ret pe_bl)) pss_nil)
      (pss_cons (ps_if (pt_cmpR op_eq (pe_ix ix_tup (pv 0) pe_int (fun _ _ => rfl)) pe_str (nomark _)) (pss_one (ps_ret (pe_call (ok_is_even_split T) (hr.mono (by decide)) (by rfl) T.g_is_even_split T.F_is_even_split.kp T.b_is_even_split .nil pass0 (pa_cons (pv 0) pa_nil)))) pss_nil)
      (pss_cons (ps_if (pt_cmpR op_eq (pe_ix ix_tup (pv 0) pe_int (fun _ _ => rfl)) pe_str (nomark _)) (pss_one (ps_ret (pe_call (ok_is_even_glue T) (hr.mono (by decide)) (by rfl) T.g_is_even_glue T.F_is_even_glue.kp T.b_is_even_glue .nil pass0 (pa_cons (pv 0) pa_nil)))) pss_nil)
      (pss_one (ps_ret pe_bl))))), ?_⟩
    refine ⟨_, rfl, p, ts, rfl, hS, ln, fun H1 s1 => ⟨_, rfl, ?_⟩⟩
    unfold stepB at q
    cases z : shapeB ts with
    | false =>
      rw [z, Bool.false_and] at q
      exact iteT (q _ s1)
    | true =>
      rw [z, Bool.true_and] at q
      refine iteF ?_
      have hS1 := hS.same s1
      obtain ⟨vs, hp, hts⟩ := id hS1
      have at0 : ∀ {wd : Str} {r : List Itm}, ts = .str wd :: r → ∃ vs', vs = .str wd :: vs' := by
        rintro wd r rfl
        match vs, hts with
        | v :: vs', .cons ⟨e, _⟩ _ => exact ⟨vs', by rw [e]⟩
      cases shape_inv z with
      | saw hs hc =>
        obtain ⟨vs', rfl⟩ := at0 rfl
        exact ⟨_, rfl, p, _, 0, .str "saw", rfl, rfl, SqT.of hp, atI_nat (j := 0) rfl, rfl, false, by decide +kernel, iteF ⟨_, rfl, p, _, 0, .str "saw", rfl, rfl, SqT.of hp, atI_nat (j := 0) rfl, rfl, false, by decide +kernel, iteF (q _ s1)⟩⟩
      | @split x sd n c hs hn hc =>
        obtain ⟨vs', rfl⟩ := at0 rfl
        exact ⟨_, rfl, p, _, 0, .str "split", rfl, rfl, SqT.of hp, atI_nat (j := 0) rfl, rfl, true, by decide +kernel, iteT ⟨_, rfl, p, x, sd, n, c, rfl, hS1, hn, q _ s1⟩⟩
      | @glue x y sd c hs hc =>
        obtain ⟨vs', rfl⟩ := at0 rfl
        exact ⟨_, rfl, p, _, 0, .str "glue", rfl, rfl, SqT.of hp, atI_nat (j := 0) rfl, rfl, false, by decide +kernel, iteF ⟨_, rfl, p, _, 0, .str "glue", rfl, rfl, SqT.of hp, atI_nat (j := 0) rfl, rfl, true, by decide +kernel, iteT ⟨_, rfl, p, x, y, sd, c, rfl, hS1, fun H2 s2 => q _ (s1.trans s2)⟩⟩⟩
      | stack hs hn hc =>
        obtain ⟨vs', rfl⟩ := at0 rfl
        exact ⟨_, rfl, p, _, 0, .str "stack", rfl, rfl, SqT.of hp, atI_nat (j := 0) rfl, rfl, false, by decide +kernel, iteF ⟨_, rfl, p, _, 0, .str "stack", rfl, rfl, SqT.of hp, atI_nat (j := 0) rfl, rfl, false, by decide +kernel, iteF (q _ s1)⟩⟩
      | turn hc =>
        obtain ⟨vs', rfl⟩ := at0 rfl
        exact ⟨_, rfl, p, _, 0, .str "turn", rfl, rfl, SqT.of hp, atI_nat (j := 0) rfl, rfl, false, by decide +kernel, iteF ⟨_, rfl, p, _, 0, .str "turn", rfl, rfl, SqT.of hp, atI_nat (j := 0) rfl, rfl, false, by decide +kernel, iteF (q _ s1)⟩⟩
end
/-- steps, in a list or in a tuple -/
inductive HandedS (K : PySem.W.Frag) (H : Hp) : V → List (List Itm) → Prop
  | list {l : Addr} {as : List Addr} {ss : List (List Itm)} (hl : SqL K H l (as.map V.ref)) (hr : Paired (StepAt H) as ss) : HandedS K H (.ref l) ss
  | tup {l : Addr} {as : List Addr} {ss : List (List Itm)} (hl : SqT K H l (as.map V.ref)) (hr : Paired (StepAt H) as ss) : HandedS K H (.ref l) ss
def Throws (C : Addr) (fs : List (Str × V)) (H : Hp) (E : XK) : Prop := ∀ x Hf, H x = none → Same H Hf → Hf x = some (.xd fs) → E (.ref C) (some x) Hf
theorem Throws.up {C : Addr} {fs : List (Str × V)} {H H1 : Hp} {E : XK} (h : Throws C fs H E) (s : Same H H1) : Throws C fs H1 E := fun x Hf hx s1 f1 => h x Hf (s.free hx) (s.trans s1) f1
def badStep (i : Nat) : List (Str × V) := [("at", .int (i : Int)), ("word", .str "BadStep")]
def FirstOdd (ss : List (List Itm)) (i : Nat) : Prop := (∃ t, ss[i]? = some t ∧ stepB t = false) ∧ ∀ j t, j < i → ss[j]? = some t → stepB t = true
section
variable {base : Heap} {K : PySem.W.Frag} {mg : Str → Option Value} {w : World}
theorem step_row {H : Hp} {as : List Addr} {ss : List (List Itm)} (h : Paired (StepAt H) as ss) {i : Nat} {v : V} (hv : (as.map V.ref)[i]? = some v) : ∃ a t, v = .ref a ∧ ss[i]? = some t ∧ StepAt H a t := by
  rw [List.getElem?_map] at hv
  cases ha : as[i]? with
  | none =>
    rw [ha] at hv
    cases hv
  | some a =>
    rw [ha] at hv
    obtain ⟨t, ht, z⟩ := Paired.getL h ha
    exact ⟨a, t, (Option.some.inj hv).symm, ht, z⟩
def spCkSteps (T : Txt K mg) : Sp := fun vs H Q E => ∃ (r : V) (ss : List (List Itm)), vs = [r] ∧ HandedS K H r ss ∧ (∀ t ∈ ss, t.length ≤ 10) ∧ ((∀ t ∈ ss, stepB t = true) → ∀ H', Same H H' → Q .non H') ∧ (∀ i, FirstOdd ss i → Throws T.e_BadStep.C (badStep i) H E)
theorem ok_check_steps (T : Txt K mg) (D : Shps K w T.u_SHAPES) : FnOk PySem.Challenge.pw_grainyard_k24_recipes_as_lists w K mg base (L2.CX PySem.Challenge.pw_grainyard_k24_recipes_as_lists w) 6 T.f_check_steps T.d_check_steps ["steps"] (spCkSteps T) := by
  refine T.F_check_steps.okX sc_check_steps (fun vs H Q E h => ?_) (fun cdv A outer s H vs Q E hr h => ?_)
  · obtain ⟨r, ss, rfl, _⟩ := h
    rfl
  · obtain ⟨r, ss, rfl, hh, ln, q1, q2⟩ := h
    refine ⟨_, (pss_one (ps_for (passes_of rfl) rfl (PI.or (pi_enum (by rfl) T.n_enumerate (pa_cons (pv 0) pa_nil)) (pi_enumT (by rfl) T.n_enumerate (pa_cons (pv 0) pa_nil))) (pg_tup (by rfl) (pgs_cons (pg_name (i := 1) sc_check_steps.nd rfl (Or.inl rfl)) (pgs_cons (pg_name (i := 2) sc_check_steps.nd rfl (Or.inl rfl)) pgs_nil))) (pss_one (ps_if (pt_not (pt_val (pe_call (ok_is_step T D) (hr.mono (by decide)) (by rfl) T.g_is_step T.F_is_step.kp T.b_is_step .nil pass0 (pa_cons (pv 2) pa_nil)))) (pss_one (ps_raise rfl (takes_of rfl rfl rfl rfl) (pmk_oex (oex_of T.e_BadStep) T.e_BadStep.iC T.e_BadStep.tI (ini_BadStep T) (hr.mono (by decide)) (bi_BadStep T) .nil pass0 (by rfl) T.e_BadStep.g (pa_cons (pv 1) pa_nil)))) pss_nil)))), ?_⟩
    have all : (∀ j t, j < ss.length → ss[j]? = some t → stepB t = true) → ∀ t ∈ ss, stepB t = true := by
      intro g t ht
      obtain ⟨j, hj⟩ := List.mem_iff_getElem?.mp ht
      exact g j t (List.getElem?_eq_some_iff.mp hj).1 hj
    cases hh with
    | @list l as _ hl hr' =>
      refine .inl ⟨_, rfl, l, _, rfl, hl, for_enumL (K := K) (a := l) (xs := as.map V.ref) (fun i σ H' => ∃ y1 y2, σ = [some (.ref l), y1, y2] ∧ Same H H' ∧ ∀ j t, j < i → ss[j]? = some t → stepB t = true) ⟨_, _, rfl, Same.refl _, fun j f hj => absurd hj (Nat.not_lt_zero _)⟩ ?_ ?_ ?_⟩
      · rintro i τ G hi ⟨_, _, _, s, _⟩
        exact Same.seq s hl
      · rintro i x τ G T1 hx ⟨y1, y2, rfl, s, good⟩ hT
        obtain ⟨a, t, rfl, ht, hs⟩ := step_row hr' hx
        have s1 := s.trans (same_new (o := .tup [.int (i : Nat), .ref a]) hT)
        refine ⟨T1, _, rfl, SqT.of upd_same, rfl, .int i, _, rfl, .ref a, _, rfl, rfl, ?_⟩
        refine ⟨_, rfl, a, t, rfl, hs.same s1, ln t (List.mem_of_getElem? ht), fun H2 s2 => ⟨_, rfl, ?_⟩⟩
        cases z : stepB t with
        | true =>
          refine iteF ⟨_, _, rfl, s1.trans s2, fun j t' hj ht' => ?_⟩
          rcases Nat.lt_succ_iff_lt_or_eq.mp hj with l | rfl
          · exact good j t' l ht'
          · cases ht.symm.trans ht'
            exact z
        | false => exact iteT ⟨_, rfl, mk_use rfl (by decide) fun x Hf hx s3 f3 => ((q2 i ⟨⟨t, ht, z⟩, good⟩).up (s1.trans s2)) x Hf hx s3 f3⟩
      · rintro τ G ⟨_, _, rfl, s, good⟩
        rw [List.length_map, Paired.length hr'] at good
        exact q1 (all good) _ s
    | @tup l as _ hl hr' =>
      refine .inr ⟨_, rfl, l, _, rfl, hl, for_enumT (K := K) (a := l) (xs := as.map V.ref) (fun i σ H' => ∃ y1 y2, σ = [some (.ref l), y1, y2] ∧ Same H H' ∧ ∀ j t, j < i → ss[j]? = some t → stepB t = true) ⟨_, _, rfl, Same.refl _, fun j f hj => absurd hj (Nat.not_lt_zero _)⟩ ?_ ?_ ?_⟩
      · rintro i τ G hi ⟨_, _, _, s, _⟩
        exact Evl.ex_t s hl
      · rintro i x τ G T1 hx ⟨y1, y2, rfl, s, good⟩ hT
        obtain ⟨a, t, rfl, ht, hs⟩ := step_row hr' hx
        have s1 := s.trans (same_new (o := .tup [.int (i : Nat), .ref a]) hT)
        refine ⟨T1, _, rfl, SqT.of upd_same, rfl, .int i, _, rfl, .ref a, _, rfl, rfl, ?_⟩
        refine ⟨_, rfl, a, t, rfl, hs.same s1, ln t (List.mem_of_getElem? ht), fun H2 s2 => ⟨_, rfl, ?_⟩⟩
        cases z : stepB t with
        | true =>
          refine iteF ⟨_, _, rfl, s1.trans s2, fun j t' hj ht' => ?_⟩
          rcases Nat.lt_succ_iff_lt_or_eq.mp hj with l | rfl
          · exact good j t' l ht'
          · cases ht.symm.trans ht'
            exact z
        | false => exact iteT ⟨_, rfl, mk_use rfl (by decide) fun x Hf hx s3 f3 => ((q2 i ⟨⟨t, ht, z⟩, good⟩).up (s1.trans s2)) x Hf hx s3 f3⟩
      · rintro τ G ⟨_, _, rfl, s, good⟩
        rw [List.length_map, Paired.length hr'] at good
        exact q1 (all good) _ s
end

/-! ### what is a step, by the law -/
section
variable {base : Heap} {K : PySem.W.Frag} {mg : Str → Option Value} {P : Program} {w : World}
def spLSide : Sp := fun vs H Q _ => ∃ (p : Addr) (x : Sh) (s : Str), vs = [.ref p, .str s] ∧ ShAt H p x ∧ SideW s ∧ ∀ r H', Same H H' → H' r = some (.tup [.int (sideOf x s).1, .int (sideOf x s).2]) → Q (.ref r) H'
theorem ok_lside_of (T : Txt K mg) : FnOk P w K mg base CX0 1 T.f_lside_of T.d_lside_of ["_law_sheet", "_law_side"] spLSide := by
  refine T.F_lside_of.ok sc_lside_of (fun vs H Q E h => ?_) (fun cdv A outer s H vs Q E hr h => ?_)
  · obtain ⟨p, x, s, rfl, _⟩ := h
    rfl
  · obtain ⟨p, x, sd, rfl, ⟨u, v, h1, h2, h3⟩, hs, q⟩ := h
    refine ⟨_, (pss_one (ps_ret (pe_ix ix_tup (pv 0) (pe_bm PySem.F.plainAttrs_list PySem.F.slot_list_index PySem.F.type_list_index mt_index (pe_lst (pa_cons pe_str (pa_cons pe_str pa_nil))) (pa_cons (pv 1) pa_nil)) (fun _ _ => rfl)))), ?_⟩
    refine ⟨_, rfl, by show 2 ≤ sizeLine; decide, fun l nl => ?_⟩
    have e := same_new (o := .lst [.str "across", .str "along"]) nl
    refine ⟨.inl ⟨rfl, _, SqL.of upd_same⟩, _, rfl, ?_⟩
    unfold sideOf at q
    rcases hs with rfl | rfl
    · refine ⟨l, _, .str "across", 0, .str "across", rfl, rfl, SqL.of upd_same, rfl, rfl, rfl, by decide +kernel, fun m z' hm => absurd hm (Nat.not_lt_zero _), ?_⟩
      exact ⟨p, _, 0, .ref u, rfl, rfl, SqT.of (e _ _ h1), atI_nat (j := 0) rfl, q u _ e (e _ _ h2)⟩
    · refine ⟨l, _, .str "along", 1, .str "along", rfl, rfl, SqL.of upd_same, rfl, rfl, rfl, by decide +kernel, fun m z' hm hz => ?_, ?_⟩
      · obtain rfl : m = 0 := by omega
        cases hz
        decide +kernel
      exact ⟨p, _, 1, .ref v, rfl, rfl, SqT.of (e _ _ h1), atI_nat (j := 1) rfl, q v _ e (e _ _ h3)⟩
theorem ok_lis_pair (T : Txt K mg) : FnOk P w K mg base CX0 1 T.f_lis_pair T.d_lis_pair ["_law_x"] (spItm pairB) := by
  refine T.F_lis_pair.ok sc_lis_pair (fun vs H Q E h => ?_) (fun cdv A outer s H vs Q E hr h => ?_)
  · obtain ⟨v, t, rfl, _⟩ := h
    rfl
  · obtain ⟨v, t, rfl, h, q⟩ := h
    refine ⟨_, (pss_one (ps_ret (pe_and (pe_callB call_isi (by rfl) T.n_isinstance (by decide +kernel) (pa_cons (pv 0) (pa_cons (pe_bltn (v := .ty "tuple") (by rfl) T.n_tuple (by decide +kernel) rfl) pa_nil))) (pe_and (pe_cmpR op_eq (pe_callB call_len_seq (by rfl) T.n_len (by decide +kernel) (pa_cons (pv 0) pa_nil)) pe_int (nomark _)) (pe_and (pe_callB call_isi (by rfl) T.n_isinstance (by decide +kernel) (pa_cons (pe_ix ix_tup (pv 0) pe_int (fun _ _ => rfl)) (pa_cons (pe_bltn (v := .ty "int") (by rfl) T.n_int (by decide +kernel) rfl) pa_nil))) (pe_one (pe_callB call_isi (by rfl) T.n_isinstance (by decide +kernel) (pa_cons (pe_ix ix_tup (pv 0) pe_int (fun _ _ => rfl)) (pa_cons (pe_bltn (v := .ty "int") (by rfl) T.n_int (by decide +kernel) rfl) pa_nil))))))))), ?_⟩
    cases t with
    | str s =>
      obtain ⟨rfl, _⟩ := h
      exact ⟨_, rfl, .str s, .ty "tuple", _, _, false, rfl, ClsV.ty _, TyX.base (TyOf.str _), kit_ty (by decide +kernel), false, rfl, iteF q⟩
    | int n =>
      cases (show v = .int n from h)
      exact ⟨_, rfl, .int n, .ty "tuple", _, _, false, rfl, ClsV.ty _, TyX.base (TyOf.int _), kit_ty (by decide +kernel), false, rfl, iteF q⟩
    | pair a b =>
      obtain ⟨p, rfl, h⟩ := h
      refine ⟨_, rfl, .ref p, .ty "tuple", _, _, true, rfl, ClsV.ty _, TyX.base (TyOf.tup h), kit_ty (by decide +kernel), true, rfl, iteT ?_⟩
      refine ⟨_, rfl, p, _, rfl, .inr (SqT.of h), rfl, true, rfl, iteT ?_⟩
      refine ⟨_, rfl, p, _, 0, .int a, rfl, rfl, SqT.of h, atI_nat (j := 0) rfl, .int a, .ty "int", _, _, true, rfl, ClsV.ty _, TyX.base (TyOf.int _), kit_ty (by decide +kernel), true, rfl, iteT ?_⟩
      exact ⟨_, rfl, p, _, 1, .int b, rfl, rfl, SqT.of h, atI_nat (j := 1) rfl, .int b, .ty "int", _, _, true, rfl, ClsV.ty _, TyX.base (TyOf.int _), kit_ty (by decide +kernel), q⟩
    | sheet x =>
      obtain ⟨p, rfl, u, v, h, h2, h3⟩ := h
      refine ⟨_, rfl, .ref p, .ty "tuple", _, _, true, rfl, ClsV.ty _, TyX.base (TyOf.tup h), kit_ty (by decide +kernel), true, rfl, iteT ?_⟩
      refine ⟨_, rfl, p, _, rfl, .inr (SqT.of h), rfl, true, rfl, iteT ?_⟩
      exact ⟨_, rfl, p, _, 0, .ref u, rfl, rfl, SqT.of h, atI_nat (j := 0) rfl, .ref u, .ty "int", _, _, false, rfl, ClsV.ty _, TyX.base (TyOf.tup h2), kit_ty (by decide +kernel), false, rfl, iteF q⟩
theorem ok_is_pairs (T : Txt K mg) : FnOk P w K mg base CX0 2 T.f_is_pairs T.d_is_pairs ["_law_x"] (spItm sheetB) := by
  refine T.F_is_pairs.ok sc_is_pairs (fun vs H Q E h => ?_) (fun cdv A outer s H vs Q E hr h => ?_)
  · obtain ⟨v, t, rfl, _⟩ := h
    rfl
  · obtain ⟨v, t, rfl, h, q⟩ := h
    refine ⟨_, (pss_one (ps_ret (pe_and (pe_callB call_isi (by rfl) T.n_isinstance (by decide +kernel) (pa_cons (pv 0) (pa_cons (pe_bltn (v := .ty "tuple") (by rfl) T.n_tuple (by decide +kernel) rfl) pa_nil))) (pe_and (pe_cmpR op_eq (pe_callB call_len_seq (by rfl) T.n_len (by decide +kernel) (pa_cons (pv 0) pa_nil)) pe_int (nomark _)) (pe_and (pe_call (ok_lis_pair T) (hr.mono (by decide)) (by rfl) T.g_lis_pair T.F_lis_pair.kp T.b_lis_pair .nil pass0 (pa_cons (pe_ix ix_tup (pv 0) pe_int (fun _ _ => rfl)) pa_nil)) (pe_one (pe_call (ok_lis_pair T) (hr.mono (by decide)) (by rfl) T.g_lis_pair T.F_lis_pair.kp T.b_lis_pair .nil pass0 (pa_cons (pe_ix ix_tup (pv 0) pe_int (fun _ _ => rfl)) pa_nil)))))))), ?_⟩
    cases t with
    | str s =>
      obtain ⟨rfl, _⟩ := h
      exact ⟨_, rfl, .str s, .ty "tuple", _, _, false, rfl, ClsV.ty _, TyX.base (TyOf.str _), kit_ty (by decide +kernel), false, rfl, iteF q⟩
    | int n =>
      cases (show v = .int n from h)
      exact ⟨_, rfl, .int n, .ty "tuple", _, _, false, rfl, ClsV.ty _, TyX.base (TyOf.int _), kit_ty (by decide +kernel), false, rfl, iteF q⟩
    | pair a b =>
      obtain ⟨p, rfl, h⟩ := h
      refine ⟨_, rfl, .ref p, .ty "tuple", _, _, true, rfl, ClsV.ty _, TyX.base (TyOf.tup h), kit_ty (by decide +kernel), true, rfl, iteT ?_⟩
      refine ⟨_, rfl, p, _, rfl, .inr (SqT.of h), rfl, true, rfl, iteT ?_⟩
      exact ⟨_, rfl, p, _, 0, .int a, rfl, rfl, SqT.of h, atI_nat (j := 0) rfl, .int a, .int a, rfl, rfl, false, rfl, iteF q⟩
    | sheet x =>
      obtain ⟨p, rfl, u, v, h, h2, h3⟩ := h
      refine ⟨_, rfl, .ref p, .ty "tuple", _, _, true, rfl, ClsV.ty _, TyX.base (TyOf.tup h), kit_ty (by decide +kernel), true, rfl, iteT ?_⟩
      refine ⟨_, rfl, p, _, rfl, .inr (SqT.of h), rfl, true, rfl, iteT ?_⟩
      refine ⟨_, rfl, p, _, 0, .ref u, rfl, rfl, SqT.of h, atI_nat (j := 0) rfl, .ref u, .pair x.1 x.2.1, rfl, ⟨u, rfl, h2⟩, true, rfl, iteT ?_⟩
      exact ⟨_, rfl, p, _, 1, .ref v, rfl, rfl, SqT.of h, atI_nat (j := 1) rfl, .ref v, .pair x.2.2.1 x.2.2.2, rfl, ⟨v, rfl, h3⟩, q⟩
def spLeast : Sp := fun vs H Q _ => ∃ (v : V) (t : Itm) (n : Int), vs = [v, .int n] ∧ ItAt H v t ∧ Q (.bl (leastB n t)) H
theorem ok_at_least (T : Txt K mg) : FnOk P w K mg base CX0 1 T.f_at_least T.d_at_least ["_law_x", "_law_least"] spLeast := by
  refine T.F_at_least.ok sc_at_least (fun vs H Q E h => ?_) (fun cdv A outer s H vs Q E hr h => ?_)
  · obtain ⟨v, t, n, rfl, _⟩ := h
    rfl
  · obtain ⟨v, t, n, rfl, h, q⟩ := h
    refine ⟨_, (pss_one (ps_ret (pe_and (pe_callB call_isi (by rfl) T.n_isinstance (by decide +kernel) (pa_cons (pv 0) (pa_cons (pe_bltn (v := .ty "int") (by rfl) T.n_int (by decide +kernel) rfl) pa_nil))) (pe_one (pe_cmpR op_ge (pv 0) (pv 1) (nomark _)))))), ?_⟩
    cases t with
    | str s =>
      obtain ⟨rfl, _⟩ := h
      exact ⟨_, rfl, .str s, .ty "int", _, _, false, rfl, ClsV.ty _, TyX.base (TyOf.str _), kit_ty (by decide +kernel), false, rfl, iteF q⟩
    | int m =>
      cases (show v = .int m from h)
      exact ⟨_, rfl, .int m, .ty "int", _, _, true, rfl, ClsV.ty _, TyX.base (TyOf.int _), kit_ty (by decide +kernel), true, rfl, iteT ⟨_, rfl, _, rfl, m, n, rfl, rfl, q⟩⟩
    | pair a b =>
      obtain ⟨p, rfl, h⟩ := h
      exact ⟨_, rfl, .ref p, .ty "int", _, _, false, rfl, ClsV.ty _, TyX.base (TyOf.tup h), kit_ty (by decide +kernel), false, rfl, iteF q⟩
    | sheet x =>
      obtain ⟨p, rfl, u, v, h, _⟩ := h
      exact ⟨_, rfl, .ref p, .ty "int", _, _, false, rfl, ClsV.ty _, TyX.base (TyOf.tup h), kit_ty (by decide +kernel), false, rfl, iteF q⟩
def spWith : Sp := fun vs H Q _ => ∃ (p r : Addr) (x : Sh) (s : Str) (a b : Int), vs = [.ref p, .str s, .ref r] ∧ ShAt H p x ∧ SideW s ∧ H r = some (.tup [.int a, .int b]) ∧ ∀ q H' y, H q = none → Same H H' → ShAt H' q y → (y = if s = "across" then (a, b, x.2.2.1, x.2.2.2) else (x.1, x.2.1, a, b)) → Q (.ref q) H'
theorem ok_with (T : Txt K mg) : FnOk P w K mg base CX0 1 T.f_with T.d_with ["_law_sheet", "_law_side", "_law_pair"] spWith := by
  refine T.F_with.ok sc_with (fun vs H Q E h => ?_) (fun cdv A outer s H vs Q E hr h => ?_)
  · obtain ⟨p, r, x, s, a, b, rfl, _⟩ := h
    rfl
  · obtain ⟨p, r, x, sd, a, b, rfl, ⟨u, v, h1, h2, h3⟩, hs, hr', q⟩ := h
    refine ⟨_, (pss_one (ps_ret (pe_ifExp (pt_cmpR op_eq (pv 1) pe_str (nomark _)) (pe_tup (pa_cons (pv 2) (pa_cons (pe_ix ix_tup (pv 0) pe_int (fun _ _ => rfl)) pa_nil))) (pe_tup (pa_cons (pe_ix ix_tup (pv 0) pe_int (fun _ _ => rfl)) (pa_cons (pv 2) pa_nil)))))), ?_⟩
    refine ⟨_, rfl, rfl, ?_⟩
    by_cases z : sd = "across"
    · refine ⟨true, by rw [z, decide_eq_true rfl], iteT ⟨_, rfl, _, rfl, p, _, 1, .ref v, rfl, rfl, SqT.of h1, atI_nat (j := 1) rfl, by show 2 ≤ sizeLine; decide, fun t nt => ?_⟩⟩
      have e := same_new (o := .tup [.ref r, .ref v]) nt
      exact q t _ (a, b, x.2.2.1, x.2.2.2) nt e ⟨r, v, upd_same, e _ _ hr', e _ _ h3⟩ (by rw [if_pos z])
    · refine ⟨false, by rw [decide_eq_false fun e => z (V.str.inj e)], iteF ⟨_, rfl, p, _, 0, .ref u, rfl, rfl, SqT.of h1, atI_nat (j := 0) rfl, _, rfl, by show 2 ≤ sizeLine; decide, fun t nt => ?_⟩⟩
      have e := same_new (o := .tup [.ref u, .ref r]) nt
      exact q t _ (x.1, x.2.1, a, b) nt e ⟨u, r, upd_same, e _ _ h2, e _ _ hr'⟩ (by rw [if_neg z])
theorem more_else {s : Str} {ts : List Itm} (h1 : s ≠ "split") (h2 : s ≠ "glue") : moreB (.str s :: ts) = true := by
  unfold moreB
  split
  · rename_i h
    cases h
    exact if_neg h1
  · rename_i h
    cases h
    exact if_neg h2
  · rfl
theorem step_turn (t1 t2 : Itm) : stepB [.str "turn", t1, t2] = (sheetB t1 && leastB 1 t2) := by
  have m : moreB [.str "turn", t1, t2] = true := more_else (by decide +kernel) (by decide +kernel)
  have e : shapeB [.str "turn", t1, t2] = (sheetB t1 && (leastB 1 t2 && true)) := rfl
  unfold stepB
  rw [m, e]
  cases sheetB t1 <;> cases leastB 1 t2 <;> rfl
theorem step_saw (t1 t2 t3 t4 : Itm) : stepB [.str "saw", t1, t2, t3, t4] = ((sheetB t1 && leastB 1 t4) && (sideB t2 && pairB t3)) := by
  have m : moreB [.str "saw", t1, t2, t3, t4] = true := more_else (by decide +kernel) (by decide +kernel)
  have e : shapeB [.str "saw", t1, t2, t3, t4] = (sheetB t1 && (sideB t2 && (pairB t3 && (leastB 1 t4 && true)))) := rfl
  unfold stepB
  rw [m, e]
  cases sheetB t1 <;> cases sideB t2 <;> cases pairB t3 <;> cases leastB 1 t4 <;> rfl
theorem step_stack (t1 t2 t3 t4 : Itm) : stepB [.str "stack", t1, t2, t3, t4] = ((sheetB t1 && leastB 1 t4) && (sideB t2 && leastB 2 t3)) := by
  have m : moreB [.str "stack", t1, t2, t3, t4] = true := more_else (by decide +kernel) (by decide +kernel)
  have e : shapeB [.str "stack", t1, t2, t3, t4] = (sheetB t1 && (sideB t2 && (leastB 2 t3 && (leastB 1 t4 && true)))) := rfl
  unfold stepB
  rw [m, e]
  cases sheetB t1 <;> cases sideB t2 <;> cases leastB 2 t3 <;> cases leastB 1 t4 <;> rfl
theorem step_split (t1 t2 t3 t4 : Itm) : stepB [.str "split", t1, t2, t3, t4] = ((sheetB t1 && leastB 1 t4) && ((sideB t2 && leastB 2 t3) && moreB [.str "split", t1, t2, t3, t4])) := by
  have e : shapeB [.str "split", t1, t2, t3, t4] = (sheetB t1 && (sideB t2 && (leastB 2 t3 && (leastB 1 t4 && true)))) := rfl
  unfold stepB
  rw [e]
  cases sheetB t1 <;> cases sideB t2 <;> cases leastB 2 t3 <;> cases leastB 1 t4 <;> rfl
theorem step_glue (t1 t2 t3 t4 : Itm) : stepB [.str "glue", t1, t2, t3, t4] = ((sheetB t1 && leastB 1 t4) && (sideB t3 && (sheetB t2 && moreB [.str "glue", t1, t2, t3, t4]))) := by
  have e : shapeB [.str "glue", t1, t2, t3, t4] = (sheetB t1 && (sheetB t2 && (sideB t3 && (leastB 1 t4 && true)))) := rfl
  unfold stepB
  rw [e]
  cases sheetB t1 <;> cases sideB t3 <;> cases sheetB t2 <;> cases leastB 1 t4 <;> rfl
theorem step_len {s : Str} {ts : List Itm} (h : ts.length ≠ if s = "turn" then 2 else 4) : stepB (.str s :: ts) = false := by
  cases e : shapeOf s with
  | none => simp only [stepB, shapeB, e, Bool.false_and]
  | some ks =>
    have : ks.length = if s = "turn" then 2 else 4 := by
      unfold shapeOf at e
      by_cases s1 : s = "saw"
      · subst s1; cases e; rfl
      rw [if_neg s1] at e
      by_cases s2 : s = "split"
      · subst s2; cases e; rfl
      rw [if_neg s2] at e
      by_cases s3 : s = "glue"
      · subst s3; cases e; rfl
      rw [if_neg s3] at e
      by_cases s4 : s = "stack"
      · subst s4; cases e; rfl
      rw [if_neg s4] at e
      by_cases s5 : s = "turn"
      · subst s5; cases e; rfl
      rw [if_neg s5] at e
      cases e
    simp only [stepB, shapeB, e, this, decide_eq_false h, Bool.false_and]
theorem paired2 {α β : Type} {R : α → β → Prop} {as : List α} {bs : List β} (h : Paired R as bs) (l : bs.length = 2) : ∃ a1 a2 b1 b2, as = [a1, a2] ∧ bs = [b1, b2] ∧ R a1 b1 ∧ R a2 b2 := by
  match bs, l with
  | [b1, b2], _ =>
    cases h with
    | cons h1 h => cases h with
      | cons h2 h =>
        cases h
        exact ⟨_, _, _, _, rfl, rfl, h1, h2⟩
theorem paired4 {α β : Type} {R : α → β → Prop} {as : List α} {bs : List β} (h : Paired R as bs) (l : bs.length = 4) : ∃ a1 a2 a3 a4 b1 b2 b3 b4, as = [a1, a2, a3, a4] ∧ bs = [b1, b2, b3, b4] ∧ R a1 b1 ∧ R a2 b2 ∧ R a3 b3 ∧ R a4 b4 := by
  match bs, l with
  | [b1, b2, b3, b4], _ =>
    cases h with
    | cons h1 h => cases h with
      | cons h2 h => cases h with
        | cons h3 h => cases h with
          | cons h4 h =>
            cases h
            exact ⟨_, _, _, _, _, _, _, _, rfl, rfl, h1, h2, h3, h4⟩
theorem inV_side (s : Str) : inV (.str s) [.str "across", .str "along"] = sideB (.str s) := by
  have e : ∀ c : Str, eqV (.str c) (.str s) = decide (s = c) := fun c => by
    by_cases z : s = c
    · subst z
      rw [decide_eq_true rfl]
      simp [eqV]
    · rw [decide_eq_false z]
      simpa [eqV] using fun q => z q.symm
  show (eqV (.str "across") (.str s) || (eqV (.str "along") (.str s) || false)) = decide (s = "across" ∨ s = "along")
  rw [e, e, Bool.or_false, Bool.decide_or]
abbrev sizesK : List (Key × V) := [(Sum.inr "saw", .int 5), (Sum.inr "split", .int 5), (Sum.inr "glue", .int 5), (Sum.inr "stack", .int 5), (Sum.inr "turn", .int 3)]
theorem size_at {s : Str} (h : s ∈ words) : (shapeOf s = none ∧ valV (mergeK [] sizesK) (Sum.inr s) = none) ∨ (s = "turn" ∧ valV (mergeK [] sizesK) (Sum.inr s) = some (.int 3)) ∨ ((s = "saw" ∨ s = "split" ∨ s = "glue" ∨ s = "stack") ∧ valV (mergeK [] sizesK) (Sum.inr s) = some (.int 5)) := by
  simp only [words, List.mem_cons, List.not_mem_nil, or_false] at h
  rcases h with rfl | rfl | rfl | rfl | rfl | rfl | rfl | rfl | rfl | rfl
  · exact .inr (.inr ⟨.inl rfl, by rfl⟩)
  · exact .inr (.inr ⟨.inr (.inl rfl), by rfl⟩)
  · exact .inr (.inr ⟨.inr (.inr (.inl rfl)), by rfl⟩)
  · exact .inr (.inr ⟨.inr (.inr (.inr rfl)), by rfl⟩)
  · exact .inr (.inl ⟨rfl, by rfl⟩)
  · exact .inl ⟨rfl, by rfl⟩
  · exact .inl ⟨rfl, by rfl⟩
  · exact .inl ⟨rfl, by rfl⟩
  · exact .inl ⟨rfl, by rfl⟩
  · exact .inl ⟨rfl, by rfl⟩
theorem ok_good_step (T : Txt K mg) : FnOk P w K mg base CX0 3 T.f_good_step T.d_good_step ["_law_step"] (spStep stepB) := by
  refine T.F_good_step.ok sc_good_step (fun vs H Q E h => ?_) (fun cdv A outer s H vs Q E hr h => ?_)
  · obtain ⟨p, ts, rfl, _⟩ := h
    rfl
  · obtain ⟨p, ts, rfl, ⟨vs, hp, hts⟩, ln, q⟩ := h
    refine ⟨_, (pss_cons (ps_set (i := 1) sc_good_step.nd rfl (Or.inl rfl) (pe_disp (pps_cons pe_str pe_int (pps_cons pe_str pe_int (pps_cons pe_str pe_int (pps_cons pe_str pe_int (pps_cons pe_str pe_int pps_nil))))) (by rfl) (by rfl) (fun z => by cases z) (by decide)))
      (pss_cons (ps_set (i := 2) sc_good_step.nd rfl (Or.inl rfl) (pe_ifExp (PW.pt (pw_and (pt_cmpR op_gt (pe_callB call_len_seq (by rfl) T.n_len (by decide +kernel) (pa_cons (pv 0) pa_nil)) pe_int (nomark _)) (pw_and1 (pt_val (pe_callB call_isi (by rfl) T.n_isinstance (by decide +kernel) (pa_cons (pe_ix ix_tup (pv 0) pe_int (fun _ _ => rfl)) (pa_cons (pe_bltn (v := .ty "str") (by rfl) T.n_str (by decide +kernel) rfl) pa_nil))))))) (pe_ix ix_tup (pv 0) pe_int (fun _ _ => rfl)) pe_str))
      (pss_cons (ps_if (PW.pt (pw_or (pt_not (pt_val (pe_callB call_isi (by rfl) T.n_isinstance (by decide +kernel) (pa_cons (pv 0) (pa_cons (pe_bltn (v := .ty "tuple") (by rfl) T.n_tuple (by decide +kernel) rfl) pa_nil))))) (pw_or (pt_cmp (pc_dnotin (hu_of hr) (pv 2) (pv 1))) (pw_or1 (pt_cmpR op_ne (pe_callB call_len_seq (by rfl) T.n_len (by decide +kernel) (pa_cons (pv 0) pa_nil)) (pe_dget (hu_of hr) (pv 1) (pv 2) (fun _ _ => rfl)) (nomark _)))))) (pss_one (ps_ret pe_bl)) pss_nil)
      (pss_cons (ps_if (PW.pt (pw_or (pt_not (pt_val (pe_call (ok_is_pairs T) (hr.mono (by decide)) (by rfl) T.g_is_pairs T.F_is_pairs.kp T.b_is_pairs .nil pass0 (pa_cons (pe_ix ix_tup (pv 0) pe_int (fun _ _ => rfl)) pa_nil)))) (pw_or1 (pt_not (pt_val (pe_call (ok_at_least T) (hr.mono (by decide)) (by rfl) T.g_at_least T.F_at_least.kp T.b_at_least .nil pass0 (pa_cons (pe_ix ix_tup (pv 0) (pe_un un_neg pe_int) (fun _ _ => rfl)) (pa_cons pe_int pa_nil)))))))) (pss_one (ps_ret pe_bl)) pss_nil)
      (pss_cons (ps_if (pt_cmpR op_eq (pv 2) pe_str (nomark _)) (pss_one (ps_ret pe_bl)) pss_nil)
      (pss_cons (ps_set (i := 3) sc_good_step.nd rfl (Or.inl rfl) (pe_ifExp (pt_cmpR op_eq (pv 2) pe_str (nomark _)) (pe_ix ix_tup (pv 0) pe_int (fun _ _ => rfl)) (pe_ix ix_tup (pv 0) pe_int (fun _ _ => rfl))))
      (pss_cons (ps_if (PW.pt (pw_or (pt_not (pt_val (pe_callB call_isi (by rfl) T.n_isinstance (by decide +kernel) (pa_cons (pv 3) (pa_cons (pe_bltn (v := .ty "str") (by rfl) T.n_str (by decide +kernel) rfl) pa_nil))))) (pw_or1 (pt_cmpR op_notIn_seq (pv 3) (pe_tup (pa_cons pe_str (pa_cons pe_str pa_nil))) (by rfl))))) (pss_one (ps_ret pe_bl)) pss_nil)
      (pss_cons (ps_if (pt_cmpR op_eq (pv 2) pe_str (nomark _)) (pss_cons (ps_set (i := 5) sc_good_step.nd rfl (Or.inl rfl) (pe_ifExp (pt_cmpR op_eq (pv 3) pe_str (nomark _)) pe_str pe_str))
      (pss_one (ps_ret (pe_and (pe_call (ok_is_pairs T) (hr.mono (by decide)) (by rfl) T.g_is_pairs T.F_is_pairs.kp T.b_is_pairs .nil pass0 (pa_cons (pe_ix ix_tup (pv 0) pe_int (fun _ _ => rfl)) pa_nil)) (pe_one (pe_cmpR (op_eqD hr.units) (pe_call (ok_lside_of T) (hr.mono (by decide)) (by rfl) T.g_lside_of T.F_lside_of.kp T.b_lside_of .nil pass0 (pa_cons (pe_ix ix_tup (pv 0) pe_int (fun _ _ => rfl)) (pa_cons (pv 5) pa_nil))) (pe_call (ok_lside_of T) (hr.mono (by decide)) (by rfl) T.g_lside_of T.F_lside_of.kp T.b_lside_of .nil pass0 (pa_cons (pe_ix ix_tup (pv 0) pe_int (fun _ _ => rfl)) (pa_cons (pv 5) pa_nil))) (nomark _))))))) pss_nil)
      (pss_cons (ps_if (pt_cmpR op_eq (pv 2) pe_str (nomark _)) (pss_one (ps_ret (pe_call (ok_lis_pair T) (hr.mono (by decide)) (by rfl) T.g_lis_pair T.F_lis_pair.kp T.b_lis_pair .nil pass0 (pa_cons (pe_ix ix_tup (pv 0) pe_int (fun _ _ => rfl)) pa_nil)))) pss_nil)
      (pss_cons (ps_if (pt_not (pt_val (pe_call (ok_at_least T) (hr.mono (by decide)) (by rfl) T.g_at_least T.F_at_least.kp T.b_at_least .nil pass0 (pa_cons (pe_ix ix_tup (pv 0) pe_int (fun _ _ => rfl)) (pa_cons pe_int pa_nil))))) (pss_one (ps_ret pe_bl)) pss_nil)
      (pss_cons (ps_set (i := 4) sc_good_step.nd rfl (Or.inl rfl) (pe_call (ok_lside_of T) (hr.mono (by decide)) (by rfl) T.g_lside_of T.F_lside_of.kp T.b_lside_of .nil pass0 (pa_cons (pe_ix ix_tup (pv 0) pe_int (fun _ _ => rfl)) (pa_cons (pv 3) pa_nil))))
      (pss_one (ps_ret (pe_or (pe_cmpR op_eq (pv 2) pe_str (nomark _)) (pe_one (pe_and (pe_cmpR op_eq (pe_op op_mod (pe_ix ix_tup (pv 4) pe_int (fun _ _ => rfl)) (pe_ix ix_tup (pv 0) pe_int (fun _ _ => rfl))) pe_int (nomark _)) (pe_one (pe_cmpR op_eq (pe_op op_mod (pe_ix ix_tup (pv 4) pe_int (fun _ _ => rfl)) (pe_ix ix_tup (pv 0) pe_int (fun _ _ => rfl))) pe_int (nomark _))))))))))))))))))), ?_⟩
    intro d nd
    refine ⟨upd_same, sizesK, rfl, by decide, ?_⟩
    have e : Same H (upd (upd H d (.dK [])) d (.dK (mergeK [] sizesK))) := fun a o z => by
      rw [upd_ne (ne_of_none z nd), upd_ne (ne_of_none z nd)]
      exact z
    have hd : upd (upd H d (.dK [])) d (.dK (mergeK [] sizesK)) d = some (.dK (mergeK [] sizesK)) := upd_same
    generalize upd (upd H d (.dK [])) d (.dK (mergeK [] sizesK)) = H2 at e hd ⊢
    have hp2 := e _ _ hp
    have tt : TyX K H2 (.ref p) (.type "tuple") := TyX.base (TyOf.tup hp2)
    have no : DGet H2 d (.str "") none := by
      have := DGet.k (k := Sum.inr "") hd
      rwa [show valV (mergeK [] sizesK) (Sum.inr "") = none by decide +kernel] at this
    cases hts with
    | nil =>
      refine ⟨_, rfl, p, _, rfl, .inr (SqT.of hp2), _, _, rfl, rfl, false, rfl, iteF ?_⟩
      exact ⟨_, rfl, .ref p, .ty "tuple", _, _, true, rfl, ClsV.ty _, tt, kit_ty (by decide +kernel), true, rfl, iteF ⟨_, rfl, _, rfl, d, none, rfl, no, true, rfl, iteT (q _ e)⟩⟩
    | @cons v t vs ts hv hts =>
      have hlen := Paired.length hts
      refine ⟨_, rfl, p, _, rfl, .inr (SqT.of hp2), _, _, rfl, rfl, true, congrArg V.bl (decide_eq_true (by rw [List.length_cons]; omega)), iteT ?_⟩
      have odd : (∀ s, t ≠ .str s) → stepB (t :: ts) = false := fun z => by
        cases t with
        | str s => exact absurd rfl (z s)
        | _ => rfl
      cases t with
      | int n =>
        cases (show v = .int n from hv)
        refine ⟨_, rfl, p, _, 0, .int n, rfl, rfl, SqT.of hp2, atI_nat (j := 0) rfl, .int n, .ty "str", _, _, false, rfl, ClsV.ty _, TyX.base (TyOf.int _), kit_ty (by decide +kernel), false, rfl, iteF ?_⟩
        exact ⟨_, rfl, .ref p, .ty "tuple", _, _, true, rfl, ClsV.ty _, tt, kit_ty (by decide +kernel), true, rfl, iteF ⟨_, rfl, _, rfl, d, none, rfl, no, true, rfl, iteT (q _ e)⟩⟩
      | pair a b =>
        obtain ⟨r, rfl, h⟩ := hv
        refine ⟨_, rfl, p, _, 0, .ref r, rfl, rfl, SqT.of hp2, atI_nat (j := 0) rfl, .ref r, .ty "str", _, _, false, rfl, ClsV.ty _, TyX.base (TyOf.tup (e _ _ h)), kit_ty (by decide +kernel), false, rfl, iteF ?_⟩
        exact ⟨_, rfl, .ref p, .ty "tuple", _, _, true, rfl, ClsV.ty _, tt, kit_ty (by decide +kernel), true, rfl, iteF ⟨_, rfl, _, rfl, d, none, rfl, no, true, rfl, iteT (q _ e)⟩⟩
      | sheet x =>
        obtain ⟨r, rfl, u, u', h, _⟩ := hv
        refine ⟨_, rfl, p, _, 0, .ref r, rfl, rfl, SqT.of hp2, atI_nat (j := 0) rfl, .ref r, .ty "str", _, _, false, rfl, ClsV.ty _, TyX.base (TyOf.tup (e _ _ h)), kit_ty (by decide +kernel), false, rfl, iteF ?_⟩
        exact ⟨_, rfl, .ref p, .ty "tuple", _, _, true, rfl, ClsV.ty _, tt, kit_ty (by decide +kernel), true, rfl, iteF ⟨_, rfl, _, rfl, d, none, rfl, no, true, rfl, iteT (q _ e)⟩⟩
      | str s =>
        obtain ⟨rfl, hw⟩ := hv
        refine ⟨_, rfl, p, _, 0, .str s, rfl, rfl, SqT.of hp2, atI_nat (j := 0) rfl, .str s, .ty "str", _, _, true, rfl, ClsV.ty _, TyX.base (TyOf.str _), kit_ty (by decide +kernel), true, rfl, iteT ?_⟩
        refine ⟨_, rfl, p, _, 0, .str s, rfl, rfl, SqT.of hp2, atI_nat (j := 0) rfl, ?_⟩
        refine ⟨_, rfl, .ref p, .ty "tuple", _, _, true, rfl, ClsV.ty _, tt, kit_ty (by decide +kernel), true, rfl, iteF ?_⟩
        have g := DGet.k (k := Sum.inr s) hd
        rcases size_at hw with ⟨sn, z⟩ | ⟨rfl, z⟩ | ⟨sw, z⟩
        · rw [z] at g
          have : stepB (.str s :: ts) = false := by simp only [stepB, shapeB, sn, Bool.false_and]
          rw [this] at q
          exact ⟨_, rfl, _, rfl, d, none, rfl, g, true, rfl, iteT (q _ e)⟩
        · rw [z] at g
          refine ⟨_, rfl, _, rfl, d, _, rfl, g, false, rfl, iteF ?_⟩
          refine ⟨_, rfl, p, _, rfl, .inr (SqT.of hp2), _, rfl, _, rfl, d, .int 3, rfl, g, rfl, ?_⟩
          by_cases le : ts.length = 2
          · obtain ⟨v1, v2, t1, t2, rfl, rfl, h1, h2⟩ := paired2 hts le
            · have h1 := h1.same e
              have h2 := h2.same e
              rw [step_turn] at q
              refine ⟨false, rfl, iteF ?_⟩
              refine ⟨_, rfl, p, _, 1, v1, rfl, rfl, SqT.of hp2, atI_nat (j := 1) rfl, v1, t1, rfl, h1, sheetB t1, rfl, ?_⟩
              cases z1 : sheetB t1 with
              | false =>
                rw [z1] at q
                exact iteT (q _ e)
              | true =>
                rw [z1] at q
                refine iteF ⟨_, rfl, 1, rfl, p, _, -1, v2, rfl, rfl, SqT.of hp2, atI_last [.str "turn", v1] v2, v2, t2, 1, rfl, h2, leastB 1 t2, rfl, ?_⟩
                cases z2 : leastB 1 t2 with
                | false =>
                  rw [z2] at q
                  exact iteT (q _ e)
                | true =>
                  rw [z2] at q
                  exact iteF ⟨_, rfl, rfl, true, by decide +kernel, iteT (q _ e)⟩
          · rw [step_len (by rwa [if_pos rfl])] at q
            exact ⟨true, congrArg V.bl (by rw [dV', decide_eq_false (by rw [List.length_cons]; omega)]; rfl), iteT (q _ e)⟩
        · rw [z] at g
          refine ⟨_, rfl, _, rfl, d, _, rfl, g, false, rfl, iteF ?_⟩
          have nt : s ≠ "turn" := by
            rcases sw with rfl | rfl | rfl | rfl <;> decide +kernel
          refine ⟨_, rfl, p, _, rfl, .inr (SqT.of hp2), _, rfl, _, rfl, d, .int 5, rfl, g, rfl, ?_⟩
          by_cases le : ts.length = 4
          · obtain ⟨v1, v2, v3, v4, t1, t2, t3, t4, rfl, rfl, h1, h2, h3, h4⟩ := paired4 hts le
            · have h1 := h1.same e
              have h2 := h2.same e
              have h3 := h3.same e
              have h4 := h4.same e
              refine ⟨false, rfl, iteF ?_⟩
              have bad : (sheetB t1 && leastB 1 t4) = false → stepB [.str s, t1, t2, t3, t4] = false := fun zb => by
                rcases sw with rfl | rfl | rfl | rfl
                · rw [step_saw, zb, Bool.false_and]
                · rw [step_split, zb, Bool.false_and]
                · rw [step_glue, zb, Bool.false_and]
                · rw [step_stack, zb, Bool.false_and]
              refine ⟨_, rfl, p, _, 1, v1, rfl, rfl, SqT.of hp2, atI_nat (j := 1) rfl, v1, t1, rfl, h1, sheetB t1, rfl, ?_⟩
              cases z1 : sheetB t1 with
              | false =>
                rw [bad (by rw [z1, Bool.false_and])] at q
                exact iteT (q _ e)
              | true =>
                refine iteF ⟨_, rfl, 1, rfl, p, _, -1, v4, rfl, rfl, SqT.of hp2, atI_last [.str s, v1, v2, v3] v4, v4, t4, 1, rfl, h4, leastB 1 t4, rfl, ?_⟩
                cases z2 : leastB 1 t4 with
                | false =>
                  rw [bad (by rw [z2, Bool.and_false])] at q
                  exact iteT (q _ e)
                | true =>
                  refine iteF ⟨_, rfl, rfl, false, congrArg V.bl (decide_eq_false fun z => nt (V.str.inj z)), iteF ?_⟩
                  rcases sw with rfl | rfl | rfl | rfl
                  · refine ⟨_, rfl, rfl, false, by decide +kernel, iteF ⟨_, rfl, p, _, 2, v2, rfl, rfl, SqT.of hp2, atI_nat (j := 2) rfl, ?_⟩⟩
                    rw [step_saw, z1, z2] at q
                    cases t2 with
                    | int n =>
                      cases (show v2 = .int n from h2)
                      exact ⟨_, rfl, .int n, .ty "str", _, _, false, rfl, ClsV.ty _, TyX.base (TyOf.int _), kit_ty (by decide +kernel), false, rfl, iteT (q _ e)⟩
                    | pair a b =>
                      obtain ⟨r, rfl, h⟩ := h2
                      exact ⟨_, rfl, .ref r, .ty "str", _, _, false, rfl, ClsV.ty _, TyX.base (TyOf.tup h), kit_ty (by decide +kernel), false, rfl, iteT (q _ e)⟩
                    | sheet x =>
                      obtain ⟨r, rfl, u, u', h, _⟩ := h2
                      exact ⟨_, rfl, .ref r, .ty "str", _, _, false, rfl, ClsV.ty _, TyX.base (TyOf.tup h), kit_ty (by decide +kernel), false, rfl, iteT (q _ e)⟩
                    | str sd =>
                      obtain ⟨rfl, hsd⟩ := h2
                      refine ⟨_, rfl, .str sd, .ty "str", _, _, true, rfl, ClsV.ty _, TyX.base (TyOf.str _), kit_ty (by decide +kernel), true, rfl, iteF ⟨_, rfl, by show 2 ≤ sizeLine; decide, fun t nt' => ⟨t, _, rfl, .inr (SqT.of upd_same), rfl, rfl, _, rfl, ?_⟩⟩⟩
                      have e3 := same_new (o := .tup [.str "across", .str "along"]) nt'
                      generalize upd H2 t (.tup [.str "across", .str "along"]) = H3 at e3 ⊢
                      have hp3 := e3 _ _ hp2
                      rw [inV_side]
                      cases z3 : sideB (.str sd) with
                      | false =>
                        rw [z3] at q
                        exact iteT (q _ (e.trans e3))
                      | true =>
                        rw [z3] at q
                        have hs : SideW sd := of_decide_eq_true z3
                        refine iteF ?_
                        refine ⟨_, rfl, rfl, false, by decide +kernel, iteF ⟨_, rfl, rfl, true, by decide +kernel, iteT ?_⟩⟩
                        exact ⟨_, rfl, p, _, 3, v3, rfl, rfl, SqT.of hp3, atI_nat (j := 3) rfl, v3, t3, rfl, h3.same e3, q _ (e.trans e3)⟩
                  · refine ⟨_, rfl, rfl, false, by decide +kernel, iteF ⟨_, rfl, p, _, 2, v2, rfl, rfl, SqT.of hp2, atI_nat (j := 2) rfl, ?_⟩⟩
                    rw [step_split, z1, z2] at q
                    cases t2 with
                    | int n =>
                      cases (show v2 = .int n from h2)
                      exact ⟨_, rfl, .int n, .ty "str", _, _, false, rfl, ClsV.ty _, TyX.base (TyOf.int _), kit_ty (by decide +kernel), false, rfl, iteT (q _ e)⟩
                    | pair a b =>
                      obtain ⟨r, rfl, h⟩ := h2
                      exact ⟨_, rfl, .ref r, .ty "str", _, _, false, rfl, ClsV.ty _, TyX.base (TyOf.tup h), kit_ty (by decide +kernel), false, rfl, iteT (q _ e)⟩
                    | sheet x =>
                      obtain ⟨r, rfl, u, u', h, _⟩ := h2
                      exact ⟨_, rfl, .ref r, .ty "str", _, _, false, rfl, ClsV.ty _, TyX.base (TyOf.tup h), kit_ty (by decide +kernel), false, rfl, iteT (q _ e)⟩
                    | str sd =>
                      obtain ⟨rfl, hsd⟩ := h2
                      refine ⟨_, rfl, .str sd, .ty "str", _, _, true, rfl, ClsV.ty _, TyX.base (TyOf.str _), kit_ty (by decide +kernel), true, rfl, iteF ⟨_, rfl, by show 2 ≤ sizeLine; decide, fun t nt' => ⟨t, _, rfl, .inr (SqT.of upd_same), rfl, rfl, _, rfl, ?_⟩⟩⟩
                      have e3 := same_new (o := .tup [.str "across", .str "along"]) nt'
                      generalize upd H2 t (.tup [.str "across", .str "along"]) = H3 at e3 ⊢
                      have hp3 := e3 _ _ hp2
                      rw [inV_side]
                      cases z3 : sideB (.str sd) with
                      | false =>
                        rw [z3] at q
                        exact iteT (q _ (e.trans e3))
                      | true =>
                        rw [z3] at q
                        have hs : SideW sd := of_decide_eq_true z3
                        refine iteF ?_
                        refine ⟨_, rfl, rfl, false, by decide +kernel, iteF ⟨_, rfl, rfl, false, by decide +kernel, iteF ?_⟩⟩
                        refine ⟨_, rfl, p, _, 3, v3, rfl, rfl, SqT.of hp3, atI_nat (j := 3) rfl, v3, t3, 2, rfl, h3.same e3, leastB 2 t3, rfl, ?_⟩
                        cases z4 : leastB 2 t3 with
                        | false =>
                          rw [z4] at q
                          exact iteT (q _ (e.trans e3))
                        | true =>
                          rw [z4] at q
                          obtain ⟨x, rfl⟩ := fit_sheet z1
                          obtain ⟨px, rfl, hx⟩ := h1
                          refine iteF ⟨_, rfl, p, _, 1, .ref px, rfl, rfl, SqT.of hp3, atI_nat (j := 1) rfl, _, rfl, px, x, sd, rfl, hx.same e3, hs, fun r H4 e4 hr4 => ?_⟩
                          obtain ⟨n, rfl, hn⟩ := fit_pieces z4
                          cases (show v3 = .int n from h3)
                          have hp4 := e4 _ _ hp3
                          obtain ⟨c, rfl, hc⟩ := fit_copies z2
                          have q : Q (.bl (evenB x sd n)) H4 := q _ ((e.trans e3).trans e4)
                          unfold evenB at q
                          refine ⟨_, rfl, rfl, false, by decide +kernel, iteF ?_⟩
                          refine ⟨_, rfl, r, _, 0, .int _, rfl, rfl, SqT.of hr4, atI_nat (j := 0) rfl, _, rfl, p, _, 3, .int n, rfl, rfl, SqT.of hp4, atI_nat (j := 3) rfl, _, n, rfl, rfl, (show 0 < n by omega), rfl, _, rfl, ?_⟩
                          rw [dV']
                          cases z5 : decide ((sideOf x sd).1 % n = 0) with
                          | false =>
                            rw [z5, Bool.false_and] at q
                            exact iteF q
                          | true =>
                            rw [z5, Bool.true_and] at q
                            refine iteT ⟨_, rfl, r, _, 1, .int _, rfl, rfl, SqT.of hr4, atI_nat (j := 1) rfl, _, rfl, p, _, 3, .int n, rfl, rfl, SqT.of hp4, atI_nat (j := 3) rfl, _, n, rfl, rfl, (show 0 < n by omega), rfl, ?_⟩
                            rw [dV']
                            exact q
                  · refine ⟨_, rfl, rfl, true, by decide +kernel, iteT ⟨_, rfl, p, _, 3, v3, rfl, rfl, SqT.of hp2, atI_nat (j := 3) rfl, ?_⟩⟩
                    rw [step_glue, z1, z2] at q
                    cases t3 with
                    | int n =>
                      cases (show v3 = .int n from h3)
                      exact ⟨_, rfl, .int n, .ty "str", _, _, false, rfl, ClsV.ty _, TyX.base (TyOf.int _), kit_ty (by decide +kernel), false, rfl, iteT (q _ e)⟩
                    | pair a b =>
                      obtain ⟨r, rfl, h⟩ := h3
                      exact ⟨_, rfl, .ref r, .ty "str", _, _, false, rfl, ClsV.ty _, TyX.base (TyOf.tup h), kit_ty (by decide +kernel), false, rfl, iteT (q _ e)⟩
                    | sheet x =>
                      obtain ⟨r, rfl, u, u', h, _⟩ := h3
                      exact ⟨_, rfl, .ref r, .ty "str", _, _, false, rfl, ClsV.ty _, TyX.base (TyOf.tup h), kit_ty (by decide +kernel), false, rfl, iteT (q _ e)⟩
                    | str sd =>
                      obtain ⟨rfl, hsd⟩ := h3
                      refine ⟨_, rfl, .str sd, .ty "str", _, _, true, rfl, ClsV.ty _, TyX.base (TyOf.str _), kit_ty (by decide +kernel), true, rfl, iteF ⟨_, rfl, by show 2 ≤ sizeLine; decide, fun t nt' => ⟨t, _, rfl, .inr (SqT.of upd_same), rfl, rfl, _, rfl, ?_⟩⟩⟩
                      have e3 := same_new (o := .tup [.str "across", .str "along"]) nt'
                      generalize upd H2 t (.tup [.str "across", .str "along"]) = H3 at e3 ⊢
                      have hp3 := e3 _ _ hp2
                      rw [inV_side]
                      cases z3 : sideB (.str sd) with
                      | false =>
                        rw [z3] at q
                        exact iteT (q _ (e.trans e3))
                      | true =>
                        rw [z3] at q
                        have hs : SideW sd := of_decide_eq_true z3
                        refine iteF ?_
                        refine ⟨_, rfl, rfl, true, by decide +kernel, iteT ?_⟩
                        rcases hs with rfl | rfl
                        · refine ⟨_, rfl, rfl, true, by decide +kernel, iteT ?_⟩
                          refine ⟨_, rfl, p, _, 2, v2, rfl, rfl, SqT.of hp3, atI_nat (j := 2) rfl, v2, t2, rfl, h2.same e3, sheetB t2, rfl, ?_⟩
                          cases z4 : sheetB t2 with
                          | false =>
                            rw [z4] at q
                            exact iteF (q _ (e.trans e3))
                          | true =>
                            rw [z4] at q
                            obtain ⟨x, rfl⟩ := fit_sheet z1
                            obtain ⟨px, rfl, hx⟩ := h1
                            obtain ⟨y, rfl⟩ := fit_sheet z4
                            obtain ⟨py, rfl, hy⟩ := h2
                            obtain ⟨c, rfl, hc⟩ := fit_copies z2
                            refine iteT ⟨_, rfl, p, _, 1, .ref px, rfl, rfl, SqT.of hp3, atI_nat (j := 1) rfl, _, rfl, px, x, "along", rfl, hx.same e3, .inr rfl, fun r H4 e4 hr4 => ⟨_, rfl, p, _, 2, .ref py, rfl, rfl, SqT.of (e4 _ _ hp3), atI_nat (j := 2) rfl, _, rfl, py, y, "along", rfl, (hy.same e3).same e4, .inr rfl, fun r2 H5 e5 hr5 => ⟨_, _, dpair (e5 _ _ hr4), dpair hr5, rfl, rfl, ?_⟩⟩⟩
                            have q : Q (.bl (glueB x y "across")) H5 := q _ (((e.trans e3).trans e4).trans e5)
                            rw [pair_eqv]
                            exact q
                        · refine ⟨_, rfl, rfl, false, by decide +kernel, iteF ?_⟩
                          refine ⟨_, rfl, p, _, 2, v2, rfl, rfl, SqT.of hp3, atI_nat (j := 2) rfl, v2, t2, rfl, h2.same e3, sheetB t2, rfl, ?_⟩
                          cases z4 : sheetB t2 with
                          | false =>
                            rw [z4] at q
                            exact iteF (q _ (e.trans e3))
                          | true =>
                            rw [z4] at q
                            obtain ⟨x, rfl⟩ := fit_sheet z1
                            obtain ⟨px, rfl, hx⟩ := h1
                            obtain ⟨y, rfl⟩ := fit_sheet z4
                            obtain ⟨py, rfl, hy⟩ := h2
                            obtain ⟨c, rfl, hc⟩ := fit_copies z2
                            refine iteT ⟨_, rfl, p, _, 1, .ref px, rfl, rfl, SqT.of hp3, atI_nat (j := 1) rfl, _, rfl, px, x, "across", rfl, hx.same e3, .inl rfl, fun r H4 e4 hr4 => ⟨_, rfl, p, _, 2, .ref py, rfl, rfl, SqT.of (e4 _ _ hp3), atI_nat (j := 2) rfl, _, rfl, py, y, "across", rfl, (hy.same e3).same e4, .inl rfl, fun r2 H5 e5 hr5 => ⟨_, _, dpair (e5 _ _ hr4), dpair hr5, rfl, rfl, ?_⟩⟩⟩
                            have q : Q (.bl (glueB x y "along")) H5 := q _ (((e.trans e3).trans e4).trans e5)
                            rw [pair_eqv]
                            exact q
                  · refine ⟨_, rfl, rfl, false, by decide +kernel, iteF ⟨_, rfl, p, _, 2, v2, rfl, rfl, SqT.of hp2, atI_nat (j := 2) rfl, ?_⟩⟩
                    rw [step_stack, z1, z2] at q
                    cases t2 with
                    | int n =>
                      cases (show v2 = .int n from h2)
                      exact ⟨_, rfl, .int n, .ty "str", _, _, false, rfl, ClsV.ty _, TyX.base (TyOf.int _), kit_ty (by decide +kernel), false, rfl, iteT (q _ e)⟩
                    | pair a b =>
                      obtain ⟨r, rfl, h⟩ := h2
                      exact ⟨_, rfl, .ref r, .ty "str", _, _, false, rfl, ClsV.ty _, TyX.base (TyOf.tup h), kit_ty (by decide +kernel), false, rfl, iteT (q _ e)⟩
                    | sheet x =>
                      obtain ⟨r, rfl, u, u', h, _⟩ := h2
                      exact ⟨_, rfl, .ref r, .ty "str", _, _, false, rfl, ClsV.ty _, TyX.base (TyOf.tup h), kit_ty (by decide +kernel), false, rfl, iteT (q _ e)⟩
                    | str sd =>
                      obtain ⟨rfl, hsd⟩ := h2
                      refine ⟨_, rfl, .str sd, .ty "str", _, _, true, rfl, ClsV.ty _, TyX.base (TyOf.str _), kit_ty (by decide +kernel), true, rfl, iteF ⟨_, rfl, by show 2 ≤ sizeLine; decide, fun t nt' => ⟨t, _, rfl, .inr (SqT.of upd_same), rfl, rfl, _, rfl, ?_⟩⟩⟩
                      have e3 := same_new (o := .tup [.str "across", .str "along"]) nt'
                      generalize upd H2 t (.tup [.str "across", .str "along"]) = H3 at e3 ⊢
                      have hp3 := e3 _ _ hp2
                      rw [inV_side]
                      cases z3 : sideB (.str sd) with
                      | false =>
                        rw [z3] at q
                        exact iteT (q _ (e.trans e3))
                      | true =>
                        rw [z3] at q
                        have hs : SideW sd := of_decide_eq_true z3
                        refine iteF ?_
                        refine ⟨_, rfl, rfl, false, by decide +kernel, iteF ⟨_, rfl, rfl, false, by decide +kernel, iteF ?_⟩⟩
                        refine ⟨_, rfl, p, _, 3, v3, rfl, rfl, SqT.of hp3, atI_nat (j := 3) rfl, v3, t3, 2, rfl, h3.same e3, leastB 2 t3, rfl, ?_⟩
                        cases z4 : leastB 2 t3 with
                        | false =>
                          rw [z4] at q
                          exact iteT (q _ (e.trans e3))
                        | true =>
                          rw [z4] at q
                          obtain ⟨x, rfl⟩ := fit_sheet z1
                          obtain ⟨px, rfl, hx⟩ := h1
                          refine iteF ⟨_, rfl, p, _, 1, .ref px, rfl, rfl, SqT.of hp3, atI_nat (j := 1) rfl, _, rfl, px, x, sd, rfl, hx.same e3, hs, fun r H4 e4 hr4 => ?_⟩
                          exact ⟨_, rfl, rfl, true, by decide +kernel, iteT (q _ ((e.trans e3).trans e4))⟩
          · rw [step_len (by rwa [if_neg nt])] at q
            exact ⟨true, congrArg V.bl (by rw [dV', decide_eq_false (by rw [List.length_cons]; omega)]; rfl), iteT (q _ e)⟩
end
/-! ### steps that are drawn -/
def Sm (x : Int) : Prop := x.natAbs ≤ 10 ^ 6
theorem w100 {x : Int} (h : x.natAbs < 2 ^ 100) : x.natAbs < 2 ^ 9000 := Nat.lt_of_lt_of_le h (Nat.pow_le_pow_right (by decide) (by decide))
theorem Sm.w {x : Int} (h : Sm x) : x.natAbs < 2 ^ 9000 := w100 (Nat.lt_of_le_of_lt h (by decide))
theorem IsRoot.sm {d : Int} (h : IsRoot d) : d.natAbs < 2 ^ 64 := by
  obtain ⟨h1, h2, _⟩ := h
  exact Nat.lt_of_le_of_lt (show d.natAbs ≤ 99 by omega) (by decide)
section
variable {base : Heap} {K : PySem.W.Frag} {mg : Str → Option Value} {P : Program} {w : World}
def spLen9 : Sp := fun vs H Q _ => ∃ (b sb : Addr) (d : Int), vs = [.ref b, .int d] ∧ Bag H b sb ∧ IsRoot d ∧ ∀ x y p H', Sm x → Sm y → p ≠ b → H' p = some (.tup [.int x, .int y]) → Bag H' b sb → Keep b H H' → Q (.ref p) H'
theorem ok_a_length (T : Txt K mg) : FnOk P w K mg base CX0 4 T.f_a_length T.d_a_length ["_law_bag", "_law_root"] spLen9 := by
  refine T.F_a_length.ok sc_a_length (fun vs H Q E h => ?_) (fun cdv A outer s H vs Q E hr h => ?_)
  · obtain ⟨b, sb, d, rfl, _⟩ := h
    rfl
  · obtain ⟨b, sb, d, rfl, B, hd, q⟩ := h
    refine ⟨_, (pss_cons (ps_set (i := 2) sc_a_length.nd rfl (Or.inl rfl) (pe_call (ok_any_pair T) (hr.mono (by decide)) (by rfl) T.g_any_pair T.F_any_pair.kp T.b_any_pair .nil pass0 (pa_cons (pv 0) pa_nil)))
      (pss_cons (ps_if (pt_cmpR op_eq (pe_call (ok_lsign T) (hr.mono (by decide)) (by rfl) T.g_lsign T.F_lsign.kp T.b_lsign .nil pass0 (pa_cons (pv 2) (pa_cons (pv 1) pa_nil))) pe_int (nomark _)) (pss_one (ps_ret (pe_tup (pa_cons (pe_op op_add pe_int (pe_call (ok_pull T) (hr.mono (by decide)) (by rfl) T.g_pull T.F_pull.kp T.b_pull .nil pass0 (pa_cons (pv 0) (pa_cons pe_int pa_nil)))) (pa_cons pe_int pa_nil))))) pss_nil)
      (pss_one (ps_ret (pe_ifExp (pt_cmpR op_gt (pe_call (ok_lsign T) (hr.mono (by decide)) (by rfl) T.g_lsign T.F_lsign.kp T.b_lsign .nil pass0 (pa_cons (pv 2) (pa_cons (pv 1) pa_nil))) pe_int (nomark _)) (pv 2) (pe_tup (pa_cons (pe_op op_sub pe_int (pe_ix ix_tup (pv 2) pe_int (fun _ _ => rfl))) (pa_cons (pe_op op_sub pe_int (pe_ix ix_tup (pv 2) pe_int (fun _ _ => rfl))) pa_nil)))))))), ?_⟩
    refine ⟨.ref b, rfl, b, sb, rfl, B, fun x y p H1 a1 a2 a3 a4 n1 h1 B1 k1 => ?_⟩
    have bx : Sm x := by unfold Sm; omega
    have bY : Sm y := by unfold Sm; omega
    have np := B.ne n1
    refine ⟨.ref p, rfl, .int d, rfl, p, d, x, y, rfl, SqT.of h1, hd.sm, bx.w, bY.w, rfl, ?_⟩
    by_cases z : sgnI (vl x y d) = 0
    · refine ⟨true, congrArg V.bl (by rw [dV', decide_eq_true z]), iteT ⟨.ref b, rfl, b, sb, 9, rfl, B1, by decide, by decide, fun n H2 z0 z1 B2 k2 => ⟨1, n, rfl, rfl, by show 2 ≤ sizeLine; decide, fun p2 hp2 => ?_⟩⟩⟩
      exact q _ _ p2 _ (by unfold Sm; omega) (by unfold Sm; decide) (B2.ne hp2) upd_same (B2.new hp2) (k1.trans (k2.trans (keep_new hp2)))
    · refine ⟨false, congrArg V.bl (by rw [dV', decide_eq_false z]), iteF ⟨.ref p, rfl, .int d, rfl, p, d, x, y, rfl, SqT.of h1, hd.sm, bx.w, bY.w, ?_⟩⟩
      by_cases z2 : 0 < sgnI (vl x y d)
      · exact ⟨_, 0, rfl, rfl, true, congrArg V.bl (decide_eq_true z2), iteT ⟨_, rfl, q x y p H1 bx bY np h1 B1 k1⟩⟩
      · refine ⟨_, 0, rfl, rfl, false, congrArg V.bl (decide_eq_false z2), iteF ⟨_, rfl, p, _, 0, .int x, rfl, rfl, SqT.of h1, atI_nat (j := 0) rfl, 0, x, rfl, rfl, _, rfl, p, _, 1, .int y, rfl, rfl, SqT.of h1, atI_nat (j := 1) rfl, 0, y, rfl, rfl, by show 2 ≤ sizeLine; decide, fun p2 hp2 => ?_⟩⟩
        exact q (0 - x) (0 - y) p2 _ (by unfold Sm at *; omega) (by unfold Sm at *; omega) (B1.ne hp2) upd_same (B1.new hp2) (k1.trans (keep_new hp2))
def SmS (x : Sh) : Prop := (Sm x.1 ∧ Sm x.2.1) ∧ Sm x.2.2.1 ∧ Sm x.2.2.2
def spSheet9 : Sp := fun vs H Q _ => ∃ (b sb : Addr) (d : Int), vs = [.ref b, .int d] ∧ Bag H b sb ∧ IsRoot d ∧ ∀ x p H', SmS x → ShAt H' p x → Bag H' b sb → Keep b H H' → Q (.ref p) H'
theorem ok_a_sheet (T : Txt K mg) : FnOk P w K mg base CX0 5 T.f_a_sheet T.d_a_sheet ["_law_bag", "_law_root"] spSheet9 := by
  refine T.F_a_sheet.ok sc_a_sheet (fun vs H Q E h => ?_) (fun cdv A outer s H vs Q E hr h => ?_)
  · obtain ⟨b, sb, d, rfl, _⟩ := h
    rfl
  · obtain ⟨b, sb, d, rfl, B, hd, q⟩ := h
    refine ⟨_, (pss_cons (ps_set (i := 2) sc_a_sheet.nd rfl (Or.inl rfl) (pe_call (ok_a_length T) (hr.mono (by decide)) (by rfl) T.g_a_length T.F_a_length.kp T.b_a_length .nil pass0 (pa_cons (pv 0) (pa_cons (pv 1) pa_nil))))
      (pss_one (ps_ret (pe_tup (pa_cons (pv 2) (pa_cons (pe_call (ok_of T) (hr.mono (by decide)) (by rfl) T.g_of T.F_of.kp T.b_of .nil pass0 (pa_cons (pv 0) (pa_cons (pe_lst (pa_cons (pe_call (ok_a_length T) (hr.mono (by decide)) (by rfl) T.g_a_length T.F_a_length.kp T.b_a_length .nil pass0 (pa_cons (pv 0) (pa_cons (pv 1) pa_nil))) (pa_cons (pe_call (ok_a_length T) (hr.mono (by decide)) (by rfl) T.g_a_length T.F_a_length.kp T.b_a_length .nil pass0 (pa_cons (pv 0) (pa_cons (pv 1) pa_nil))) (pa_cons (pe_call (ok_a_length T) (hr.mono (by decide)) (by rfl) T.g_a_length T.F_a_length.kp T.b_a_length .nil pass0 (pa_cons (pv 0) (pa_cons (pv 1) pa_nil))) (pa_cons (pv 2) pa_nil))))) pa_nil))) pa_nil)))))), ?_⟩
    refine ⟨.ref b, rfl, .int d, rfl, b, sb, d, rfl, B, hd, fun x y p H1 l1 l1' n1 h1 B1 k1 => ?_⟩
    refine ⟨.ref p, rfl, .ref b, rfl, .ref b, rfl, .int d, rfl, b, sb, d, rfl, B1, hd, fun x2 y2 p2 H2 l2 l2' n2 h2 B2 k2 => ?_⟩
    refine ⟨.ref b, rfl, .int d, rfl, b, sb, d, rfl, B2, hd, fun x3 y3 p3 H3 l3 l3' n3 h3 B3 k3 => ?_⟩
    refine ⟨.ref b, rfl, .int d, rfl, b, sb, d, rfl, B3, hd, fun x4 y4 p4 H4 l4 l4' n4 h4 B4 k4 => ?_⟩
    refine ⟨.ref p, rfl, by show 4 ≤ sizeLine; decide, fun l hl => ?_⟩
    refine ⟨b, sb, l, _, rfl, B4.new hl, upd_same, B4.ne hl, by simp, by simp, fun i v H5 hv B5 k5 => ⟨by show 2 ≤ sizeLine; decide, fun t ht => ?_⟩⟩
    have k45 : Keep b H4 H5 := (keep_new hl).trans k5
    have kk := k1.trans (k2.trans (k3.trans (k4.trans k45)))
    have e := same_new (o := .tup [.ref p, v]) ht
    have g1 := e _ _ ((k2.trans (k3.trans (k4.trans k45))) _ _ n1 h1)
    have fin : ∀ (x' y' : Int) (p' : Addr), v = .ref p' → Sm x' → Sm y' → H5 p' = some (.tup [.int x', .int y']) → Q (.ref t) (upd H5 t (.tup [.ref p, v])) := by
      rintro x' y' p' rfl m1 m2 h'
      exact q (x, y, x', y') t _ ⟨⟨l1, l1'⟩, m1, m2⟩ ⟨p, p', upd_same, g1, e _ _ h'⟩ (B5.same e) (kk.trans (keep_of e))
    match i, hv with
    | 0, hv => cases hv; exact fin x2 y2 p2 rfl l2 l2' ((k3.trans (k4.trans k45)) _ _ n2 h2)
    | 1, hv => cases hv; exact fin x3 y3 p3 rfl l3 l3' ((k4.trans k45) _ _ n3 h3)
    | 2, hv => cases hv; exact fin x4 y4 p4 rfl l4 l4' (k45 _ _ n4 h4)
    | 3, hv => cases hv; exact fin x y p rfl l1 l1' ((k2.trans (k3.trans (k4.trans k45))) _ _ n1 h1)
    | n + 4, hv => simp at hv
def spLScaled : Sp := fun vs H Q _ => ∃ (r : Addr) (a b n : Int), vs = [.ref r, .int n] ∧ H r = some (.tup [.int a, .int b]) ∧ Sm n ∧ ∀ q H', H q = none → Same H H' → H' q = some (.tup [.int (a * n), .int (b * n)]) → Q (.ref q) H'
theorem ok_lscaled (T : Txt K mg) : FnOk P w K mg base CX0 1 T.f_lscaled T.d_lscaled ["_law_pair", "_law_number"] spLScaled := by
  refine T.F_lscaled.ok sc_lscaled (fun vs H Q E h => ?_) (fun cdv A outer s H vs Q E hr h => ?_)
  · obtain ⟨r, a, b, n, rfl, _⟩ := h
    rfl
  · obtain ⟨r, a, b, n, rfl, h, hn, q⟩ := h
    refine ⟨_, (pss_one (ps_ret (pe_tup (pa_cons (pe_op op_mul (pe_ix ix_tup (pv 0) pe_int (fun _ _ => rfl)) (pv 1)) (pa_cons (pe_op op_mul (pe_ix ix_tup (pv 0) pe_int (fun _ _ => rfl)) (pv 1)) pa_nil))))), ?_⟩
    unfold Sm at hn
    have m : -(2 ^ 64) < n ∧ n < 2 ^ 64 := ⟨by omega, by omega⟩
    refine ⟨_, rfl, r, _, 0, .int a, rfl, rfl, SqT.of h, atI_nat (j := 0) rfl, _, rfl, a, n, rfl, rfl, .inr m, _, rfl, r, _, 1, .int b, rfl, rfl, SqT.of h, atI_nat (j := 1) rfl, _, rfl, b, n, rfl, rfl, .inr m, by show 2 ≤ sizeLine; decide, fun t nt => ?_⟩
    exact q t _ nt (same_new nt) upd_same
theorem items_same {H H' : Hp} (s : Same H H') {vs : List V} {ts : List Itm} (h : Paired (ItAt H) vs ts) : Paired (ItAt H') vs ts := by
  induction h with
  | nil => exact .nil
  | cons r _ ih => exact .cons (r.same s) ih
theorem side_word {s : Str} (h : SideW s) : s ∈ words := by
  rcases h with rfl | rfl <;> decide +kernel
theorem ShAt.keep {H H' : Hp} {b sb p : Addr} {x : Sh} (h : ShAt H p x) (B : Bag H b sb) (k : Keep b H H') : ShAt H' p x := h.mono (tup_keep B k)
def spAnyStep : Sp := fun vs H Q _ => ∃ (b sb : Addr) (d : Int), vs = [.ref b, .int d] ∧ Bag H b sb ∧ IsRoot d ∧ ∀ p ts H', 0 < ts.length → ts.length ≤ 5 → StepAt H' p ts → Bag H' b sb → Keep b H H' → Q (.ref p) H'
theorem ok_any_step (T : Txt K mg) : FnOk P w K mg base CX0 6 T.f_any_step T.d_any_step ["_law_bag", "_law_root"] spAnyStep := by
  refine T.F_any_step.ok sc_any_step (fun vs H Q E h => ?_) (fun cdv A outer s H vs Q E hr h => ?_)
  · obtain ⟨b, sb, d, rfl, _⟩ := h
    rfl
  · obtain ⟨b, sb, d, rfl, B, hd, q⟩ := h
    refine ⟨_, (pss_cons (ps_par3 (i := 2) (j := 3) (l := 4) (by rfl) sc_any_step.nd rfl rfl rfl (by decide) (by decide) (by decide) rfl rfl rfl (pa_cons (pe_call (ok_a_sheet T) (hr.mono (by decide)) (by rfl) T.g_a_sheet T.F_a_sheet.kp T.b_a_sheet .nil pass0 (pa_cons (pv 0) (pa_cons (pv 1) pa_nil))) (pa_cons (pe_call (ok_of T) (hr.mono (by decide)) (by rfl) T.g_of T.F_of.kp T.b_of .nil pass0 (pa_cons (pv 0) (pa_cons (pe_lst (pa_cons pe_str (pa_cons pe_str pa_nil))) pa_nil))) (pa_cons (pe_call (ok_of T) (hr.mono (by decide)) (by rfl) T.g_of T.F_of.kp T.b_of .nil pass0 (pa_cons (pv 0) (pa_cons (pe_lst (pa_cons pe_int (pa_cons pe_int (pa_cons pe_int pa_nil)))) pa_nil))) pa_nil))) (by rfl))
      (pss_cons (ps_par (i := 5) (j := 6) (by rfl) sc_any_step.nd rfl rfl (by decide) rfl rfl (pa_cons (pe_call (ok_pull T) (hr.mono (by decide)) (by rfl) T.g_pull T.F_pull.kp T.b_pull .nil pass0 (pa_cons (pv 0) (pa_cons pe_int pa_nil))) (pa_cons (pe_call (ok_a_sheet T) (hr.mono (by decide)) (by rfl) T.g_a_sheet T.F_a_sheet.kp T.b_a_sheet .nil pass0 (pa_cons (pv 0) (pa_cons (pv 1) pa_nil))) pa_nil)) (by rfl))
      (pss_cons (ps_if (pt_cmpR op_eq (pv 5) pe_int (nomark _)) (pss_one (ps_ret (pe_tup (pa_cons pe_str (pa_cons (pv 2) (pa_cons (pv 3) (pa_cons (pe_call (ok_of T) (hr.mono (by decide)) (by rfl) T.g_of T.F_of.kp T.b_of .nil pass0 (pa_cons (pv 0) (pa_cons (pe_lst (pa_cons (pe_call (ok_any_pair T) (hr.mono (by decide)) (by rfl) T.g_any_pair T.F_any_pair.kp T.b_any_pair .nil pass0 (pa_cons (pv 0) pa_nil)) (pa_cons (pe_ix ix_tup (pv 6) pe_int (fun _ _ => rfl)) pa_nil))) pa_nil))) (pa_cons (pv 4) pa_nil)))))))) pss_nil)
      (pss_cons (ps_if (pt_cmpR op_eq (pv 5) pe_int (nomark _)) (pss_cons (ps_set (i := 7) sc_any_step.nd rfl (Or.inl rfl) (pe_op op_add pe_int (pe_call (ok_pull T) (hr.mono (by decide)) (by rfl) T.g_pull T.F_pull.kp T.b_pull .nil pass0 (pa_cons (pv 0) (pa_cons pe_int pa_nil)))))
      (pss_cons (ps_set (i := 8) sc_any_step.nd rfl (Or.inl rfl) (pe_call (ok_lscaled T) (hr.mono (by decide)) (by rfl) T.g_lscaled T.F_lscaled.kp T.b_lscaled .nil pass0 (pa_cons (pe_call (ok_lside_of T) (hr.mono (by decide)) (by rfl) T.g_lside_of T.F_lside_of.kp T.b_lside_of .nil pass0 (pa_cons (pv 2) (pa_cons (pv 3) pa_nil))) (pa_cons (pe_call (ok_of T) (hr.mono (by decide)) (by rfl) T.g_of T.F_of.kp T.b_of .nil pass0 (pa_cons (pv 0) (pa_cons (pe_lst (pa_cons (pv 7) (pa_cons pe_int pa_nil))) pa_nil))) pa_nil))))
      (pss_one (ps_ret (pe_tup (pa_cons pe_str (pa_cons (pe_call (ok_with T) (hr.mono (by decide)) (by rfl) T.g_with T.F_with.kp T.b_with .nil pass0 (pa_cons (pv 2) (pa_cons (pv 3) (pa_cons (pv 8) pa_nil)))) (pa_cons (pv 3) (pa_cons (pv 7) (pa_cons (pv 4) pa_nil)))))))))) pss_nil)
      (pss_cons (ps_if (pt_cmpR op_eq (pv 5) pe_int (nomark _)) (pss_cons (ps_set (i := 6) sc_any_step.nd rfl (Or.inl rfl) (pe_call (ok_of T) (hr.mono (by decide)) (by rfl) T.g_of T.F_of.kp T.b_of .nil pass0 (pa_cons (pv 0) (pa_cons (pe_lst (pa_cons (pe_call (ok_with T) (hr.mono (by decide)) (by rfl) T.g_with T.F_with.kp T.b_with .nil pass0 (pa_cons (pv 2) (pa_cons (pv 3) (pa_cons (pe_call (ok_lside_of T) (hr.mono (by decide)) (by rfl) T.g_lside_of T.F_lside_of.kp T.b_lside_of .nil pass0 (pa_cons (pv 6) (pa_cons (pv 3) pa_nil))) pa_nil)))) (pa_cons (pv 6) pa_nil))) pa_nil))))
      (pss_one (ps_ret (pe_tup (pa_cons pe_str (pa_cons (pv 2) (pa_cons (pv 6) (pa_cons (pv 3) (pa_cons (pv 4) pa_nil))))))))) pss_nil)
      (pss_cons (ps_if (pt_cmpR op_eq (pv 5) pe_int (nomark _)) (pss_one (ps_ret (pe_tup (pa_cons pe_str (pa_cons (pv 2) (pa_cons (pv 3) (pa_cons (pe_op op_add pe_int (pe_call (ok_pull T) (hr.mono (by decide)) (by rfl) T.g_pull T.F_pull.kp T.b_pull .nil pass0 (pa_cons (pv 0) (pa_cons pe_int pa_nil)))) (pa_cons (pv 4) pa_nil)))))))) pss_nil)
      (pss_one (ps_ret (pe_tup (pa_cons pe_str (pa_cons (pv 2) (pa_cons (pv 4) pa_nil)))))))))))), ?_⟩
    refine ⟨.ref b, rfl, .int d, rfl, b, sb, d, rfl, B, hd, fun x px H1 m1 hx B1 k1 => ?_⟩
    refine ⟨.ref b, rfl, by show 2 ≤ sizeLine; decide, fun l hl => ⟨b, sb, l, _, rfl, B1.new hl, upd_same, B1.ne hl, by simp, by simp, fun i v H2 hv B2 k2 => ?_⟩⟩
    obtain ⟨sd, rfl, hs⟩ : ∃ sd, v = .str sd ∧ SideW sd := by
      match i, hv with
      | 0, hv => cases hv; exact ⟨_, rfl, .inl rfl⟩
      | 1, hv => cases hv; exact ⟨_, rfl, .inr rfl⟩
      | n + 2, hv => simp at hv
    refine ⟨.ref b, rfl, by show 3 ≤ sizeLine; decide, fun l2 hl2 => ⟨b, sb, l2, _, rfl, B2.new hl2, upd_same, B2.ne hl2, by simp, by simp, fun i v H3 hv B3 k3 => ?_⟩⟩
    obtain ⟨c, rfl⟩ : ∃ c : Int, v = .int c := by
      match i, hv with
      | 0, hv => cases hv; exact ⟨_, rfl⟩
      | 1, hv => cases hv; exact ⟨_, rfl⟩
      | 2, hv => cases hv; exact ⟨_, rfl⟩
      | n + 3, hv => simp at hv
    refine ⟨_, _, _, rfl, ?_⟩
    refine ⟨.ref b, rfl, b, sb, 5, rfl, B3, by decide, by decide, fun wy H4 w0 w1 B4 k4 => ?_⟩
    refine ⟨.ref b, rfl, .int d, rfl, b, sb, d, rfl, B4, hd, fun y py H5 m5 hy B5 k5 => ?_⟩
    refine ⟨_, _, rfl, ?_⟩
    have k15 : Keep b H1 H5 := (keep_new hl).trans (k2.trans ((keep_new hl2).trans (k3.trans (k4.trans k5))))
    have kk := k1.trans k15
    have hx5 := hx.keep B1 k15
    have hw := side_word hs
    have fin : ∀ (H6 : Hp) (t : Addr) (vs : List V) (ts : List Itm), Bag H6 b sb → Keep b H5 H6 → H6 t = none → Paired (ItAt H6) vs ts → 0 < ts.length → ts.length ≤ 5 → Q (.ref t) (upd H6 t (.tup vs)) := fun H6 t vs ts B6 k6 ht hts l0 l5 =>
      q t ts _ l0 l5 ⟨vs, upd_same, items_same (same_new ht) hts⟩ (B6.new ht) ((kk.trans k6).trans (keep_new ht))
    by_cases y0 : wy = 0
    · refine ⟨_, rfl, rfl, true, congrArg V.bl (by rw [dV', decide_eq_true y0]), iteT ?_⟩
      obtain ⟨u, u', g1, g2, g3⟩ := id hy
      refine ⟨_, rfl, _, rfl, .ref b, rfl, .ref b, rfl, b, sb, rfl, B5, fun a0 a1 p6 H6 _ _ _ _ n6 h6 B6 k6 => ?_⟩
      refine ⟨_, rfl, py, _, 0, .ref u, rfl, rfl, SqT.of (tup_keep B5 k6 _ _ g1), atI_nat (j := 0) rfl, by show 2 ≤ sizeLine; decide, fun l3 hl3 => ⟨b, sb, l3, _, rfl, B6.new hl3, upd_same, B6.ne hl3, by simp, by simp, fun i v H7 hv B7 k7 => ?_⟩⟩
      have k67 : Keep b H6 H7 := (keep_new hl3).trans k7
      have k57 := k6.trans k67
      obtain ⟨r, a0, a1, rfl, hr7⟩ : ∃ (r : Addr) (a0 a1 : Int), v = .ref r ∧ H7 r = some (.tup [.int a0, .int a1]) := by
        match i, hv with
        | 0, hv => cases hv; exact ⟨_, _, _, rfl, tup_keep B6 k67 _ _ h6⟩
        | 1, hv => cases hv; exact ⟨_, _, _, rfl, tup_keep B5 k57 _ _ g2⟩
        | n + 2, hv => simp at hv
      refine ⟨_, rfl, by show 5 ≤ sizeLine; decide, fun t ht => ?_⟩
      exact fin H7 t _ [.str "saw", .sheet x, .str sd, .pair a0 a1, .int c] B7 k57 ht (.cons ⟨rfl, by decide +kernel⟩ (.cons ⟨px, rfl, hx5.keep B5 k57⟩ (.cons ⟨rfl, hw⟩ (.cons ⟨r, rfl, hr7⟩ (.cons rfl .nil))))) (Nat.succ_pos _) (by simp)
    refine ⟨_, rfl, rfl, false, congrArg V.bl (by rw [dV', decide_eq_false y0]), iteF ?_⟩
    by_cases y1 : wy = 1
    · refine ⟨_, rfl, rfl, true, congrArg V.bl (by rw [dV', decide_eq_true y1]), iteT ?_⟩
      refine ⟨.ref b, rfl, b, sb, 3, rfl, B5, by decide, by decide, fun z H6 z0 z1 B6 k6 => ⟨2, z, rfl, rfl, ?_⟩⟩
      refine ⟨_, rfl, _, rfl, px, x, sd, rfl, hx5.keep B5 k6, hs, fun r H7 e7 hr7 => ⟨.ref b, rfl, _, rfl, by show 2 ≤ sizeLine; decide, fun l3 hl3 => ⟨b, sb, l3, _, rfl, (B6.same e7).new hl3, upd_same, (B6.same e7).ne hl3, by simp, by simp, fun i v H8 hv B8 k8 => ?_⟩⟩⟩
      have k78 : Keep b H7 H8 := (keep_new hl3).trans k8
      have k58 : Keep b H5 H8 := k6.trans ((keep_of e7).trans k78)
      obtain ⟨n, rfl, hn⟩ : ∃ n : Int, v = .int n ∧ Sm n := by
        match i, hv with
        | 0, hv => cases hv; exact ⟨_, rfl, by unfold Sm; omega⟩
        | 1, hv => cases hv; exact ⟨_, rfl, by unfold Sm; decide⟩
        | n + 2, hv => simp at hv
      refine ⟨r, _, _, n, rfl, tup_keep (B6.same e7) k78 _ _ hr7, hn, fun q9 H9 n9 e9 h9 => ?_⟩
      have k59 : Keep b H5 H9 := k58.trans (keep_of e9)
      refine ⟨_, rfl, _, rfl, _, rfl, px, q9, x, sd, _, _, rfl, hx5.keep B5 k59, hs, h9, fun q10 H10 y10 n10 e10 h10 _ => ⟨_, rfl, _, rfl, _, rfl, by show 5 ≤ sizeLine; decide, fun t ht => ?_⟩⟩
      exact fin H10 t _ [.str "split", .sheet y10, .str sd, .int (2 + z), .int c] ((B8.same e9).same e10) (k59.trans (keep_of e10)) ht (.cons ⟨rfl, by decide +kernel⟩ (.cons ⟨q10, rfl, h10⟩ (.cons ⟨rfl, hw⟩ (.cons rfl (.cons rfl .nil))))) (Nat.succ_pos _) (by simp)
    refine ⟨_, rfl, rfl, false, congrArg V.bl (by rw [dV', decide_eq_false y1]), iteF ?_⟩
    by_cases y2 : wy = 2
    · refine ⟨_, rfl, rfl, true, congrArg V.bl (by rw [dV', decide_eq_true y2]), iteT ?_⟩
      refine ⟨.ref b, rfl, _, rfl, _, rfl, _, rfl, _, rfl, py, y, sd, rfl, hy, hs, fun r H6 e6 hr6 => ⟨px, r, x, sd, _, _, rfl, hx5.same e6, hs, hr6, fun q7 H7 y7 n7 e7 h7 _ => ⟨_, rfl, by show 2 ≤ sizeLine; decide, fun l3 hl3 => ⟨b, sb, l3, _, rfl, ((B5.same e6).same e7).new hl3, upd_same, ((B5.same e6).same e7).ne hl3, by simp, by simp, fun i v H8 hv B8 k8 => ?_⟩⟩⟩⟩
      have k78 : Keep b H7 H8 := (keep_new hl3).trans k8
      have k58 : Keep b H5 H8 := (keep_of e6).trans ((keep_of e7).trans k78)
      obtain ⟨r2, z, rfl, hz⟩ : ∃ (r2 : Addr) (z : Sh), v = .ref r2 ∧ ShAt H8 r2 z := by
        match i, hv with
        | 0, hv => cases hv; exact ⟨_, _, rfl, h7.keep ((B5.same e6).same e7) k78⟩
        | 1, hv => cases hv; exact ⟨_, _, rfl, hy.keep B5 k58⟩
        | n + 2, hv => simp at hv
      refine ⟨_, rfl, _, rfl, _, rfl, _, rfl, by show 5 ≤ sizeLine; decide, fun t ht => ?_⟩
      exact fin H8 t _ [.str "glue", .sheet x, .sheet z, .str sd, .int c] B8 k58 ht (.cons ⟨rfl, by decide +kernel⟩ (.cons ⟨px, rfl, hx5.keep B5 k58⟩ (.cons ⟨r2, rfl, hz⟩ (.cons ⟨rfl, hw⟩ (.cons rfl .nil))))) (Nat.succ_pos _) (by simp)
    refine ⟨_, rfl, rfl, false, congrArg V.bl (by rw [dV', decide_eq_false y2]), iteF ?_⟩
    by_cases y3 : wy = 3
    · refine ⟨_, rfl, rfl, true, congrArg V.bl (by rw [dV', decide_eq_true y3]), iteT ?_⟩
      refine ⟨_, rfl, _, rfl, .ref b, rfl, b, sb, 5, rfl, B5, by decide, by decide, fun z H6 z0 z1 B6 k6 => ⟨2, z, rfl, rfl, _, rfl, by show 5 ≤ sizeLine; decide, fun t ht => ?_⟩⟩
      exact fin H6 t _ [.str "stack", .sheet x, .str sd, .int (2 + z), .int c] B6 k6 ht (.cons ⟨rfl, by decide +kernel⟩ (.cons ⟨px, rfl, hx5.keep B5 k6⟩ (.cons ⟨rfl, hw⟩ (.cons rfl (.cons rfl .nil))))) (Nat.succ_pos _) (by simp)
    · refine ⟨_, rfl, rfl, false, congrArg V.bl (by rw [dV', decide_eq_false y3]), iteF ?_⟩
      refine ⟨_, rfl, _, rfl, by show 3 ≤ sizeLine; decide, fun t ht => ?_⟩
      exact fin H5 t _ [.str "turn", .sheet x, .int c] B5 (Keep.refl _) ht (.cons ⟨rfl, by decide +kernel⟩ (.cons ⟨px, rfl, hx5⟩ (.cons rfl .nil))) (Nat.succ_pos _) (by simp)
end
section
variable {base : Heap} {K : PySem.W.Frag} {mg : Str → Option Value} {P : Program} {w : World}
theorem paired_cut {α β : Type} {R : α → β → Prop} : ∀ {as : List α} {bs : List β} (n : Nat), Paired R as bs → Paired R (as.take n) (bs.take n) ∧ Paired R (as.drop n) (bs.drop n)
  | _, _, 0, h => ⟨.nil, h⟩
  | _, _, _ + 1, .nil => ⟨.nil, .nil⟩
  | _, _, n + 1, .cons r t => ⟨.cons r (paired_cut n t).1, (paired_cut n t).2⟩
theorem paired_app {α β : Type} {R : α → β → Prop} : ∀ {as : List α} {bs : List β} {as' : List α} {bs' : List β}, Paired R as bs → Paired R as' bs' → Paired R (as ++ as') (bs ++ bs')
  | _, _, _, _, .nil, h => h
  | _, _, _, _, .cons r t, h => .cons r (paired_app t h)
/-- a piece of a step -/
theorem sl_step {H : Hp} {p : Addr} {ts : List Itm} {lo hi : Option Int} {Q : VK} {n : Nat} (hp : StepAt H p ts) (hn : HT.sIx ts.length ts.length hi - HT.sIx ts.length 0 lo ≤ n) (h : ∀ p' ts' H', Same H H' → StepAt H' p' ts' → ts'.length ≤ n → Q (.ref p') H') : rSlA K (.ref p) lo hi H Q := by
  obtain ⟨vs, hp, hts⟩ := hp
  have hl := Paired.length hts
  refine ⟨p, vs, rfl, SqT.of hp, fun z => h p ts H (Same.refl _) ⟨vs, hp, hts⟩ ?_, fun _ p2 n2 => ?_⟩
  · rw [hl] at z
    omega
  · refine h p2 ((ts.drop (HT.sIx ts.length 0 lo)).take (HT.sIx ts.length ts.length hi - HT.sIx ts.length 0 lo)) _ (same_new n2) ⟨_, upd_same, items_same (same_new n2) ?_⟩ ?_
    · unfold cutV
      rw [hl]
      exact (paired_cut _ (paired_cut _ hts).2).1
    · rw [List.length_take]
      omega
theorem cat_step {H : Hp} {p p2 : Addr} {ts ts2 : List Itm} {Q : VK} (hp : StepAt H p ts) (hp2 : StepAt H p2 ts2) (hn : ts.length + ts2.length ≤ 1000) (h : ∀ p' H', Same H H' → StepAt H' p' (ts ++ ts2) → Q (.ref p') H') : rCatA K (.ref p) (.ref p2) H Q := by
  obtain ⟨vs, g, hts⟩ := id hp
  obtain ⟨vs2, g2, hts2⟩ := id hp2
  have hl := Paired.length hts
  have hl2 := Paired.length hts2
  refine ⟨p, p2, vs, vs2, rfl, rfl, SqT.of g, SqT.of g2, Nat.le_of_lt (small1000 (by omega)), fun z => ?_, fun _ z => ?_, fun _ _ p3 n3 => ?_⟩
  · subst z
    cases hts
    exact h p2 H (Same.refl _) hp2
  · subst z
    cases hts2
    rw [List.append_nil] at h
    exact h p H (Same.refl _) hp
  · exact h p3 _ (same_new n3) ⟨_, upd_same, items_same (same_new n3) (paired_app hts hts2)⟩
def spOddStep : Sp := fun vs H Q _ => ∃ (b sb p : Addr) (ts : List Itm), vs = [.ref b, .ref p] ∧ Bag H b sb ∧ StepAt H p ts ∧ 0 < ts.length ∧ ts.length ≤ 5 ∧ ∀ p' ts' H', ts'.length ≤ 10 → StepAt H' p' ts' → Bag H' b sb → Keep b H H' → Q (.ref p') H'
theorem ok_odd_step (T : Txt K mg) : FnOk P w K mg base CX0 3 T.f_odd_step T.d_odd_step ["_law_bag", "_law_step"] spOddStep := by
  refine T.F_odd_step.ok sc_odd_step (fun vs H Q E h => ?_) (fun cdv A outer s H vs Q E hr h => ?_)
  · obtain ⟨b, sb, p, ts, rfl, _⟩ := h
    rfl
  · obtain ⟨b, sb, p, ts, rfl, B, ⟨vs, hp, hts⟩, l0, l5, q⟩ := h
    refine ⟨_, (pss_cons (ps_set (i := 2) sc_odd_step.nd rfl (Or.inl rfl) (pe_call (ok_pull T) (hr.mono (by decide)) (by rfl) T.g_pull T.F_pull.kp T.b_pull .nil pass0 (pa_cons (pv 0) (pa_cons (pe_callB call_len_seq (by rfl) T.n_len (by decide +kernel) (pa_cons (pv 1) pa_nil)) pa_nil))))
      (pss_cons (ps_set (i := 3) sc_odd_step.nd rfl (Or.inl rfl) (pe_call (ok_pull T) (hr.mono (by decide)) (by rfl) T.g_pull T.F_pull.kp T.b_pull .nil pass0 (pa_cons (pv 0) (pa_cons pe_int pa_nil))))
      (pss_cons (ps_set (i := 4) sc_odd_step.nd rfl (Or.inl rfl) (pe_lst (pa_cons pe_str (pa_cons pe_str (pa_cons pe_str (pa_cons pe_str (pa_cons pe_str (pa_cons pe_int (pa_cons pe_int (pa_cons pe_int (pa_cons (pe_un un_neg pe_int) (pa_cons (pe_tup (pa_cons pe_int (pa_cons pe_int pa_nil))) (pa_cons (pe_tup (pa_cons pe_int (pa_cons pe_int pa_nil))) (pa_cons (pe_tup (pa_cons (pe_tup (pa_cons pe_int (pa_cons pe_int pa_nil))) (pa_cons (pe_tup (pa_cons pe_int (pa_cons pe_int pa_nil))) pa_nil))) (pa_cons (pe_tup (pa_cons (pe_tup (pa_cons (pe_un un_neg pe_int) (pa_cons pe_int pa_nil))) (pa_cons (pe_tup (pa_cons pe_int (pa_cons pe_int pa_nil))) pa_nil))) pa_nil)))))))))))))))
      (pss_cons (ps_if (pt_cmpR op_eq (pv 3) pe_int (nomark _)) (pss_one (ps_ret (pe_op op_catA (pe_slice sl_tupA (pv 1) po_none (po_some (pv 2))) (pe_slice sl_tupA (pv 1) (po_some (pe_op op_add (pv 2) pe_int)) po_none)))) pss_nil)
      (pss_cons (ps_if (pt_cmpR op_eq (pv 3) pe_int (nomark _)) (pss_one (ps_ret (pe_op op_catA (pe_op op_catA (pe_slice sl_tupA (pv 1) po_none (po_some (pv 2))) (pe_tup (pa_cons (pe_call (ok_of T) (hr.mono (by decide)) (by rfl) T.g_of T.F_of.kp T.b_of .nil pass0 (pa_cons (pv 0) (pa_cons (pv 4) pa_nil))) pa_nil))) (pe_slice sl_tupA (pv 1) (po_some (pv 2)) po_none)))) pss_nil)
      (pss_one (ps_ret (pe_op op_catA (pe_op op_catA (pe_slice sl_tupA (pv 1) po_none (po_some (pv 2))) (pe_tup (pa_cons (pe_call (ok_of T) (hr.mono (by decide)) (by rfl) T.g_of T.F_of.kp T.b_of .nil pass0 (pa_cons (pv 0) (pa_cons (pv 4) pa_nil))) pa_nil))) (pe_slice sl_tupA (pv 1) (po_some (pe_op op_add (pv 2) pe_int)) po_none))))))))), ?_⟩
    have hl := Paired.length hts
    refine ⟨.ref b, rfl, _, rfl, p, vs, rfl, .inr (SqT.of hp), b, sb, _, rfl, B, (by show (0 : Int) < (vs.length : Int); omega), Nat.lt_of_le_of_lt (show (vs.length : Int).natAbs ≤ 5 by omega) (by decide), fun at_ H1 a0 a1 B1 k1 => ?_⟩
    refine ⟨.ref b, rfl, b, sb, 4, rfl, B1, by decide, by decide, fun wy H2 w0 w1 B2 k2 => ?_⟩
    refine ⟨3, rfl, by show 2 ≤ sizeLine; decide, fun p1 n1 => ⟨by show 2 ≤ sizeLine; decide, fun p2 n2 => ⟨by show 2 ≤ sizeLine; decide, fun p3 n3 => ⟨by show 2 ≤ sizeLine; decide, fun p4 n4 => ⟨by show 2 ≤ sizeLine; decide, fun p5 n5 => ⟨1, rfl, by show 2 ≤ sizeLine; decide, fun p6 n6 => ⟨by show 2 ≤ sizeLine; decide, fun p7 n7 => ⟨by show 2 ≤ sizeLine; decide, fun p8 n8 => ⟨by show 13 ≤ sizeLine; decide, fun l nl => ?_⟩⟩⟩⟩⟩⟩⟩⟩⟩
    have e1 := same_new (o := .tup [.int 1, .int 0]) n1
    have e2 := same_new (o := .tup [.int 0, .int 0]) n2
    have e3 := same_new (o := .tup [.int 1, .int 0]) n3
    have e4 := same_new (o := .tup [.int 0, .int 1]) n4
    have e5 := same_new (o := .tup [.ref p3, .ref p4]) n5
    have e6 := same_new (o := .tup [.int (-1), .int 0]) n6
    have e7 := same_new (o := .tup [.int 0, .int 0]) n7
    have e8 := same_new (o := .tup [.ref p6, .ref p7]) n8
    have e9 := same_new (o := .lst [.str "saw", .str "Saw", .str "across", .str "along", .str "", .int 0, .int 1, .int 2, .int (-3), .ref p1, .ref p2, .ref p5, .ref p8]) nl
    have eG : Same H2 (upd (upd (upd (upd (upd (upd (upd (upd (upd H2 p1 (.tup [.int 1, .int 0])) p2 (.tup [.int 0, .int 0])) p3 (.tup [.int 1, .int 0])) p4 (.tup [.int 0, .int 1])) p5 (.tup [.ref p3, .ref p4])) p6 (.tup [.int (-1), .int 0])) p7 (.tup [.int 0, .int 0])) p8 (.tup [.ref p6, .ref p7])) l (.lst [.str "saw", .str "Saw", .str "across", .str "along", .str "", .int 0, .int 1, .int 2, .int (-3), .ref p1, .ref p2, .ref p5, .ref p8])) := (e1.trans (e2.trans (e3.trans (e4.trans (e5.trans (e6.trans (e7.trans (e8.trans e9))))))))
    have g1 := (e2.trans (e3.trans (e4.trans (e5.trans (e6.trans (e7.trans (e8.trans e9))))))) _ _ upd_same
    have g2 := (e3.trans (e4.trans (e5.trans (e6.trans (e7.trans (e8.trans e9)))))) _ _ upd_same
    have g3 := (e4.trans (e5.trans (e6.trans (e7.trans (e8.trans e9))))) _ _ upd_same
    have g4 := (e5.trans (e6.trans (e7.trans (e8.trans e9)))) _ _ upd_same
    have g5 := (e6.trans (e7.trans (e8.trans e9))) _ _ upd_same
    have g6 := (e7.trans (e8.trans e9)) _ _ upd_same
    have g7 := (e8.trans e9) _ _ upd_same
    have g8 := e9 _ _ upd_same
    have its : ∀ (i : Nat) (v : V), ([.str "saw", .str "Saw", .str "across", .str "along", .str "", .int 0, .int 1, .int 2, .int (-3), .ref p1, .ref p2, .ref p5, .ref p8] : List V)[i]? = some v → ∃ t, ItAt (upd (upd (upd (upd (upd (upd (upd (upd (upd H2 p1 (.tup [.int 1, .int 0])) p2 (.tup [.int 0, .int 0])) p3 (.tup [.int 1, .int 0])) p4 (.tup [.int 0, .int 1])) p5 (.tup [.ref p3, .ref p4])) p6 (.tup [.int (-1), .int 0])) p7 (.tup [.int 0, .int 0])) p8 (.tup [.ref p6, .ref p7])) l (.lst [.str "saw", .str "Saw", .str "across", .str "along", .str "", .int 0, .int 1, .int 2, .int (-3), .ref p1, .ref p2, .ref p5, .ref p8])) v t := by
      intro i v hv
      match i, hv with
      | 0, hv => cases hv; exact ⟨.str "saw", rfl, by decide +kernel⟩
      | 1, hv => cases hv; exact ⟨.str "Saw", rfl, by decide +kernel⟩
      | 2, hv => cases hv; exact ⟨.str "across", rfl, by decide +kernel⟩
      | 3, hv => cases hv; exact ⟨.str "along", rfl, by decide +kernel⟩
      | 4, hv => cases hv; exact ⟨.str "", rfl, by decide +kernel⟩
      | 5, hv => cases hv; exact ⟨.int 0, rfl⟩
      | 6, hv => cases hv; exact ⟨.int 1, rfl⟩
      | 7, hv => cases hv; exact ⟨.int 2, rfl⟩
      | 8, hv => cases hv; exact ⟨.int (-3), rfl⟩
      | 9, hv => cases hv; exact ⟨.pair 1 0, p1, rfl, g1⟩
      | 10, hv => cases hv; exact ⟨.pair 0 0, p2, rfl, g2⟩
      | 11, hv => cases hv; exact ⟨.sheet (1, 0, 0, 1), p5, rfl, p3, p4, g5, g3, g4⟩
      | 12, hv => cases hv; exact ⟨.sheet (-1, 0, 0, 0), p8, rfl, p6, p7, g8, g6, g7⟩
      | n + 13, hv => simp at hv
    have hL : (upd (upd (upd (upd (upd (upd (upd (upd (upd H2 p1 (.tup [.int 1, .int 0])) p2 (.tup [.int 0, .int 0])) p3 (.tup [.int 1, .int 0])) p4 (.tup [.int 0, .int 1])) p5 (.tup [.ref p3, .ref p4])) p6 (.tup [.int (-1), .int 0])) p7 (.tup [.int 0, .int 0])) p8 (.tup [.ref p6, .ref p7])) l (.lst [.str "saw", .str "Saw", .str "across", .str "along", .str "", .int 0, .int 1, .int 2, .int (-3), .ref p1, .ref p2, .ref p5, .ref p8])) l = some (.lst [.str "saw", .str "Saw", .str "across", .str "along", .str "", .int 0, .int 1, .int 2, .int (-3), .ref p1, .ref p2, .ref p5, .ref p8]) := upd_same
    have nb : l ≠ b := ((((((((B2.same e1).same e2).same e3).same e4).same e5).same e6).same e7).same e8).ne nl
    generalize (upd (upd (upd (upd (upd (upd (upd (upd (upd H2 p1 (.tup [.int 1, .int 0])) p2 (.tup [.int 0, .int 0])) p3 (.tup [.int 1, .int 0])) p4 (.tup [.int 0, .int 1])) p5 (.tup [.ref p3, .ref p4])) p6 (.tup [.int (-1), .int 0])) p7 (.tup [.int 0, .int 0])) p8 (.tup [.ref p6, .ref p7])) l (.lst [.str "saw", .str "Saw", .str "across", .str "along", .str "", .int 0, .int 1, .int 2, .int (-3), .ref p1, .ref p2, .ref p5, .ref p8])) = H3 at its eG hL ⊢
    clear g1 g2 g3 g4 g5 g6 g7 g8 e1 e2 e3 e4 e5 e6 e7 e8 e9 nl n8 n7 n6 n5 n4 n3 n2 n1
    have B3 := B2.same eG
    have k3 : Keep b H H3 := k1.trans (k2.trans (keep_of eG))
    have hS : StepAt H3 p ts := StepAt.mono (tup_keep B k3) ⟨vs, hp, hts⟩
    obtain ⟨n, rfl⟩ := Int.eq_ofNat_of_zero_le a0
    have n5 : n < ts.length := by omega
    have c1 : HT.sIx ts.length ts.length (some (n : Int)) - HT.sIx ts.length 0 none ≤ 4 := by
      rw [HT.sIx_nat, HT.sIx_none]
      omega
    have c2 : ∀ o, HT.sIx ts.length ts.length none - HT.sIx ts.length 0 o ≤ 5 := fun o => by
      rw [HT.sIx_none]
      omega
    by_cases y0 : wy = 0
    · refine ⟨_, rfl, rfl, true, congrArg V.bl (by rw [dV', decide_eq_true y0]), iteT ?_⟩
      refine ⟨_, rfl, _, rfl, (n : Int), rfl, sl_step hS c1 fun q1 ts1 H4 s4 h4 l4 => ⟨_, rfl, _, rfl, _, 1, rfl, rfl, _, rfl, ?_⟩⟩
      unfold tNoPart
      refine sl_step (hS.same s4) (c2 _) fun q2 ts2 H5 s5 h5 l5' => cat_step (h4.same s5) h5 (by omega) fun q3 H6 s6 h6 => ?_
      have ss := s4.trans (s5.trans s6)
      exact q q3 _ H6 (by rw [List.length_append]; omega) h6 (B3.same ss) (k3.trans (keep_of ss))
    refine ⟨_, rfl, rfl, false, congrArg V.bl (by rw [dV', decide_eq_false y0]), iteF ?_⟩
    have one : ∀ (v : V) (H5 : Hp) (p5 : Addr) (t : Itm), H5 p5 = none → ItAt H5 v t → StepAt (upd H5 p5 (.tup [v])) p5 [t] := fun v H5 p5 t n5 ht => ⟨[v], upd_same, .cons (ht.same (same_new n5)) .nil⟩
    by_cases y1 : wy = 1
    · refine ⟨_, rfl, rfl, true, congrArg V.bl (by rw [dV', decide_eq_true y1]), iteT ?_⟩
      refine ⟨_, rfl, _, rfl, (n : Int), rfl, sl_step hS c1 fun q1 ts1 H4 s4 h4 l4 => ?_⟩
      refine ⟨.ref b, rfl, .ref l, rfl, b, sb, l, _, rfl, B3.same s4, s4 _ _ hL, nb, by simp, by simp, fun i v H5 hv B5 k5 => ⟨by show 1 ≤ sizeLine; decide, fun p5 m5 => ?_⟩⟩
      have k35 : Keep b H3 H5 := (keep_of s4).trans k5
      obtain ⟨t, ht⟩ := its i v hv
      have ht5 : ItAt H5 v t := ht.mono (tup_keep B3 k35)
      have h15 : StepAt H5 q1 ts1 := h4.mono (tup_keep (B3.same s4) k5)
      have s6 := same_new (o := .tup [v]) m5
      refine cat_step (h15.same s6) (one v H5 p5 t m5 ht5) (by rw [List.length_singleton]; omega) fun q6 H6 s6' h6 => ⟨_, rfl, _, rfl, (n : Int), rfl, ?_⟩
      unfold tNoPart
      have hS6 : StepAt H6 p ts := (hS.mono (tup_keep B3 k35)).same (s6.trans s6')
      refine sl_step hS6 (c2 _) fun q7 ts7 H7 s7 h7 l7 => cat_step (h6.same s7) h7 (by rw [List.length_append, List.length_singleton]; omega) fun q8 H8 s8 h8 => ?_
      have ss := s6.trans (s6'.trans (s7.trans s8))
      exact q q8 _ H8 (by rw [List.length_append, List.length_append, List.length_singleton]; omega) h8 (B5.same ss) (k3.trans (k35.trans (keep_of ss)))
    · refine ⟨_, rfl, rfl, false, congrArg V.bl (by rw [dV', decide_eq_false y1]), iteF ?_⟩
      refine ⟨_, rfl, _, rfl, (n : Int), rfl, sl_step hS c1 fun q1 ts1 H4 s4 h4 l4 => ?_⟩
      refine ⟨.ref b, rfl, .ref l, rfl, b, sb, l, _, rfl, B3.same s4, s4 _ _ hL, nb, by simp, by simp, fun i v H5 hv B5 k5 => ⟨by show 1 ≤ sizeLine; decide, fun p5 m5 => ?_⟩⟩
      have k35 : Keep b H3 H5 := (keep_of s4).trans k5
      obtain ⟨t, ht⟩ := its i v hv
      have ht5 : ItAt H5 v t := ht.mono (tup_keep B3 k35)
      have h15 : StepAt H5 q1 ts1 := h4.mono (tup_keep (B3.same s4) k5)
      have s6 := same_new (o := .tup [v]) m5
      refine cat_step (h15.same s6) (one v H5 p5 t m5 ht5) (by rw [List.length_singleton]; omega) fun q6 H6 s6' h6 => ⟨_, rfl, _, rfl, _, 1, rfl, rfl, _, rfl, ?_⟩
      unfold tNoPart
      have hS6 : StepAt H6 p ts := (hS.mono (tup_keep B3 k35)).same (s6.trans s6')
      refine sl_step hS6 (c2 _) fun q7 ts7 H7 s7 h7 l7 => cat_step (h6.same s7) h7 (by rw [List.length_append, List.length_singleton]; omega) fun q8 H8 s8 h8 => ?_
      have ss := s6.trans (s6'.trans (s7.trans s8))
      exact q q8 _ H8 (by rw [List.length_append, List.length_append, List.length_singleton]; omega) h8 (B5.same ss) (k3.trans (k35.trans (keep_of ss)))
end
inductive LkAll (H : Hp) (n : Nat) : List V → List V → Prop
  | nil : LkAll H n [] []
  | cons {x y : V} {xs ys : List V} : Lk H n x y → LkAll H n xs ys → LkAll H n (x :: xs) (y :: ys)
theorem LkAll.get {H : Hp} {n : Nat} : ∀ {xs ys : List V}, LkAll H n xs ys → xs.length = ys.length ∧ ∀ (i : Nat) (x y : V), xs[i]? = some x → ys[i]? = some y → Lk H n x y
  | _, _, .nil => ⟨rfl, fun i x y h => by simp at h⟩
  | _, _, .cons h t => ⟨congrArg Nat.succ t.get.1, fun i x y h1 h2 => match i, h1, h2 with
    | 0, h1, h2 => by cases h1; cases h2; exact h
    | i + 1, h1, h2 => t.get.2 i x y (by simpa using h1) (by simpa using h2)⟩
theorem Lk.lists {H : Hp} {n : Nat} {p q : Addr} {xs ys : List V} (hp : H p = some (.lst xs)) (hq : H q = some (.lst ys)) (hl : xs.length ≤ 1000) (h : LkAll H n xs ys) : Lk H (n + 1) (.ref p) (.ref q) := .inr ⟨p, q, xs, ys, rfl, rfl, .inr ⟨hp, hq⟩, h.get.1, hl, h.get.2⟩
theorem Lk.tups {H : Hp} {n : Nat} {p q : Addr} {xs ys : List V} (hp : H p = some (.tup xs)) (hq : H q = some (.tup ys)) (hl : xs.length ≤ 1000) (h : LkAll H n xs ys) : Lk H (n + 1) (.ref p) (.ref q) := .inr ⟨p, q, xs, ys, rfl, rfl, .inl ⟨hp, hq⟩, h.get.1, hl, h.get.2⟩
theorem Lk.int {H : Hp} {n : Nat} {i j : Int} (e : i = j) : Lk H n (.int i) (.int j) := Lk.flat (.inl ⟨i, rfl, by rw [e]⟩)
theorem Lk.bl {H : Hp} {n : Nat} {i j : Bool} (e : i = j) : Lk H n (.bl i) (.bl j) := Lk.flat (.inr (.inl ⟨i, rfl, by rw [e]⟩))
theorem Lk.pair {H : Hp} {n : Nat} {p q : Addr} {x y x' y' : Int} (hp : H p = some (.tup [.int x, .int y])) (hq : H q = some (.tup [.int x', .int y'])) (e1 : x = x') (e2 : y = y') : Lk H (n + 1) (.ref p) (.ref q) :=
  .tups hp hq (by simp) (.cons (.int e1) (.cons (.int e2) .nil))
/-! ### lists of steps as data -/
section
variable {base : Heap} {K : PySem.W.Frag} {mg : Str → Option Value} {P : Program} {w : World}
def StepsL (H : Hp) (l : Addr) (ss : List (List Itm)) : Prop := ∃ as : List Addr, H l = some (.lst (as.map V.ref)) ∧ Paired (StepAt H) as ss
theorem paired_snoc {H H' : Hp} {as : List Addr} {ss : List (List Itm)} {t : Addr} {x : List Itm} (k : ∀ p xs, H p = some (.tup xs) → H' p = some (.tup xs)) (h : Paired (StepAt H) as ss) (ht : StepAt H' t x) : Paired (StepAt H') (as ++ [t]) (ss ++ [x]) := by
  induction h with
  | nil => exact .cons ht .nil
  | cons r _ ih => exact .cons (r.mono k) ih
theorem steps_mono {H H' : Hp} {as : List Addr} {ss : List (List Itm)} (k : ∀ p xs, H p = some (.tup xs) → H' p = some (.tup xs)) (h : Paired (StepAt H) as ss) : Paired (StepAt H') as ss := by
  induction h with
  | nil => exact .nil
  | cons r _ ih => exact .cons (r.mono k) ih
theorem steps_app {H : Hp} : ∀ {as as' : List Addr} {ss ss' : List (List Itm)}, Paired (StepAt H) as ss → Paired (StepAt H) as' ss' → Paired (StepAt H) (as ++ as') (ss ++ ss')
  | _, _, _, _, .nil, h => h
  | _, _, _, _, .cons r t, h => .cons r (steps_app t h)
theorem StepsL.mono {H H' : Hp} {l : Addr} {ss : List (List Itm)} (h : StepsL H l ss) (k : ∀ xs, H l = some (.lst xs) → H' l = some (.lst xs)) (t : ∀ p xs, H p = some (.tup xs) → H' p = some (.tup xs)) : StepsL H' l ss := by
  obtain ⟨as, h1, h2⟩ := h
  exact ⟨as, k _ h1, steps_mono t h2⟩
theorem StepsL.same {H H' : Hp} {l : Addr} {ss : List (List Itm)} (h : StepsL H l ss) (s : Same H H') : StepsL H' l ss := h.mono (fun _ z => s _ _ z) fun _ _ z => s _ _ z
theorem StepsL.keep {H H' : Hp} {b sb l : Addr} {ss : List (List Itm)} (h : StepsL H l ss) (B : Bag H b sb) (n : l ≠ b) (k : Keep b H H') : StepsL H' l ss := h.mono (fun _ z => k _ _ n z) (tup_keep B k)
theorem StepsL.put {H : Hp} {l : Addr} {ss : List (List Itm)} {t : Addr} {x : List Itm} {as : List Addr} (h1 : H l = some (.lst (as.map V.ref))) (h2 : Paired (StepAt H) as ss) (ht : StepAt H t x) : StepsL (upd H l (.lst (as.map V.ref ++ [.ref t]))) l (ss ++ [x]) :=
  ⟨as ++ [t], by rw [upd_same, List.map_append]; rfl, paired_snoc (tup_put h1) h2 (ht.mono (tup_put h1))⟩
end
theorem tabs_put {H : Hp} {l : Addr} {ys zs : List V} {T : List (Addr × Str)} (t : LamX.Tabs T H) (hl : H l = some (.lst ys)) : LamX.Tabs T (upd H l (.lst zs)) := by
  intro p hp
  obtain ⟨ps, h1, h2, h3⟩ := t p hp
  refine ⟨ps, (upd_ne (ne_of h1 hl (by intro z; cases z))).trans h1, h2, fun pos cv hc => ?_⟩
  obtain ⟨c', e1, e2⟩ := h3 pos cv hc
  exact ⟨c', e1, (upd_ne (ne_of e2 hl (by intro z; unfold LamX.CodeO at z; cases z))).trans e2⟩
abbrev qn : Str := "law" ++ ".<locals>." ++ "<lambda>"
section
variable {base : Heap} {K : PySem.W.Frag} {mg : Str → Option Value} {w : World}
/-- a heap by another name -/
theorem steps_loop {H H1 : Hp} {F : Addr} {xs : List V} {as : List Addr} {ss : List (List Itm)} {G : Hp → Prop} (hP : Paired (StepAt (upd H1 F (.lst xs))) as ss) (s : Same H (upd H1 F (.lst xs))) (h : ∀ H8, Same H H8 → Paired (StepAt H8) as ss → H8 F = some (.lst xs) → G H8) : G (upd H1 F (.lst xs)) := h _ s hP upd_same
theorem raised_step (T : Txt K mg) {Q : VK} {d : Addr} {Hf : Hp} {n : Nat} (hd : Hf d = some (.xd (badStep n))) (q : Told Q "BadStep" (.int n) Hf) : Raised K T.r_GrainError Q (.ref T.e_BadStep.C) (some d) Hf := by
  obtain ⟨cg, hg, _⟩ := T.c_GrainError
  exact raised_er T.e_BadStep hg T.t_GrainError T.sb_GrainError (no_two T.x_BadStep_at T.x_BadStep_word) rfl rfl hd q
theorem dints {H : Hp} {l : Addr} {ns : List Int} (h : H l = some (.lst (ns.map V.int))) : Dp K H (.ref l) (.list (ns.map .int)) := by
  refine .lst (SqL.of h) ?_
  clear h
  induction ns with
  | nil => exact .nil
  | cons n ns ih => exact .cons (.int _) ih
theorem ints_shaped (ns : List Int) : SeqAt.shaped (.list (ns.map .int)) = true := by
  have h : ∀ ns : List Int, PyData.canLayAll0 (ns.map .int) = true ∧ PyData.depthAll (ns.map .int) ≤ 3 := by
    intro ns
    induction ns with
    | nil => exact ⟨by simp [PyData.canLayAll0], by simp [PyData.depthAll]⟩
    | cons e es ih => exact ⟨by simp [PyData.canLayAll0, PyData.canLay0, ih.1], by simp [PyData.depthAll, PyData.depth, ih.2]⟩
  obtain ⟨h1, h2⟩ := h ns
  unfold SeqAt.shaped
  rw [Bool.and_eq_true]
  refine ⟨by simp [PyData.canLay0, h1], decide_eq_true ?_⟩
  simp only [PyData.depth]
  omega
theorem ints_nil (ns : List Int) : PyData.eqv (.list (ns.map .int)) (.list (([] : List Int).map .int)) = ns.isEmpty := by
  cases ns with
  | nil => simp [PyData.eqv, PyData.eqvAll]
  | cons e es => simp [PyData.eqv, PyData.eqvAll]
def stepD (ts : List Itm) : PyData := .tuple (ts.map itD)
theorem step_dp {H : Hp} {p : Addr} {ts : List Itm} (h : StepAt H p ts) : Dp K H (.ref p) (stepD ts) := by
  obtain ⟨vs, h1, h2⟩ := h
  refine .tup (SqT.of h1) ?_
  clear h1
  induction h2 with
  | nil => exact .nil
  | cons r _ ih => exact .cons r.dp ih
theorem StepsL.dp {H : Hp} {l : Addr} {ss : List (List Itm)} (h : StepsL H l ss) : Dp K H (.ref l) (.list (ss.map stepD)) := by
  obtain ⟨as, h1, h2⟩ := h
  refine .lst (SqL.of h1) ?_
  clear h1
  induction h2 with
  | nil => exact .nil
  | cons r _ ih => exact .cons (step_dp r) ih
def Known (ts : List Itm) : Prop := ∀ s, Itm.str s ∈ ts → s ∈ words
theorem StepAt.known {H : Hp} {p : Addr} {ts : List Itm} (h : StepAt H p ts) : Known ts := by
  obtain ⟨vs, g, h2⟩ := h
  clear g
  induction h2 with
  | nil => exact fun s hs => by cases hs
  | cons r _ ih =>
    intro s hs
    rcases List.mem_cons.mp hs with rfl | hs
    · exact r.2
    · exact ih s hs
theorem words_ok : ∀ s ∈ words, PyData.strOk s = true := by decide +kernel
theorem stepD_can {ts : List Itm} (kn : Known ts) : (stepD ts).canLay0 = true ∧ (stepD ts).depth ≤ 3 ∧ (stepD ts).plain = true := by
  have h : ∀ ts : List Itm, Known ts → PyData.canLayAll0 (ts.map itD) = true ∧ PyData.depthAll (ts.map itD) ≤ 2 ∧ PyData.plainAll (ts.map itD) = true := by
    intro ts
    induction ts with
    | nil => exact fun _ => ⟨by simp [PyData.canLayAll0], by simp [PyData.depthAll], by simp [PyData.plainAll]⟩
    | cons t ts ih =>
      intro kn
      obtain ⟨h1, h2, h3⟩ := ih fun s hs => kn s (List.mem_cons_of_mem _ hs)
      have c : (itD t).canLay0 = true ∧ (itD t).depth ≤ 2 := by
        cases t with
        | str s => exact ⟨by simp [itD, PyData.canLay0, words_ok s (kn s List.mem_cons_self)], by simp [itD, PyData.depth]⟩
        | int n => simp [itD, PyData.canLay0, PyData.depth]
        | pair a b => simp [itD, PyData.canLay0, PyData.canLayAll0, PyData.depth, PyData.depthAll]
        | sheet x => simp [itD, encS, PyData.canLay0, PyData.canLayAll0, PyData.depth, PyData.depthAll]
      refine ⟨by simp [PyData.canLayAll0, c.1, h1], ?_, by simp [PyData.plainAll, itD_plain, h3]⟩
      simp only [List.map_cons, PyData.depthAll]
      have := c.2
      omega
  obtain ⟨h1, h2, h3⟩ := h ts kn
  refine ⟨by simp [stepD, PyData.canLay0, h1], ?_, by simp [stepD, PyData.plain, h3]⟩
  simp only [stepD, PyData.depth]
  omega
theorem steps_can {ss : List (List Itm)} (kn : ∀ ts ∈ ss, Known ts) : SeqAt.shaped (.list (ss.map stepD)) = true ∧ PyData.eqv (.list (ss.map stepD)) (.list (ss.map stepD)) = true := by
  have h : ∀ ss : List (List Itm), (∀ ts ∈ ss, Known ts) → PyData.canLayAll0 (ss.map stepD) = true ∧ PyData.depthAll (ss.map stepD) ≤ 3 ∧ PyData.plainAll (ss.map stepD) = true := by
    intro ss
    induction ss with
    | nil => exact fun _ => ⟨by simp [PyData.canLayAll0], by simp [PyData.depthAll], by simp [PyData.plainAll]⟩
    | cons t ts ih =>
      intro kn
      obtain ⟨h1, h2, h3⟩ := ih fun s hs => kn s (List.mem_cons_of_mem _ hs)
      obtain ⟨c1, c2, c3⟩ := stepD_can (kn t List.mem_cons_self)
      refine ⟨by simp [PyData.canLayAll0, c1, h1], ?_, by simp [PyData.plainAll, c3, h3]⟩
      simp only [List.map_cons, PyData.depthAll]
      omega
  obtain ⟨h1, h2, h3⟩ := h ss kn
  constructor
  · unfold SeqAt.shaped
    rw [Bool.and_eq_true]
    refine ⟨by simp [PyData.canLay0, h1], decide_eq_true ?_⟩
    simp only [PyData.depth]
    omega
  · exact PySem.SeqAt.eqv_refl_plain _ (by simp [PyData.plain, h3])
theorem StepsL.known {H : Hp} {l : Addr} {ss : List (List Itm)} (h : StepsL H l ss) : ∀ ts ∈ ss, Known ts := by
  obtain ⟨as, g, h2⟩ := h
  clear g
  induction h2 with
  | nil => exact fun ts h => by cases h
  | cons r _ ih =>
    intro ts h
    rcases List.mem_cons.mp h with rfl | h
    · exact r.known
    · exact ih ts h
theorem StepsL.extN {H H' : Hp} {l : Addr} {ss : List (List Itm)} (h : StepsL H l ss) (e : LamX.ExtN H H') : StepsL H' l ss := h.mono (fun _ z => lst_extN z e) fun _ _ z => tup_extN z e
theorem StepsL.handed {H : Hp} {l : Addr} {ss : List (List Itm)} (h : StepsL H l ss) : HandedS K H (.ref l) ss := by
  obtain ⟨as, h1, h2⟩ := h
  exact .list (SqL.of h1) h2
abbrev rTup (K : PySem.W.Frag) : List V → Hp → VK → Prop := fun xs H Q => ∃ p ys, xs = [V.ref p] ∧ ((SqL K H p ys ∧ ∀ l : Addr, H l = none → Q (V.ref l) (upd H l (.tup ys))) ∨ SqT K H p ys ∧ Q (V.ref p) H)
theorem PE.to {X : Cx} {e : Expr} {t t' : TE} (h : PE X e t) (q : t = t') : PE X e t' := q ▸ h
end
/-! ### steps that are allowed -/
def turnB : List Itm → Bool
  | .str s :: _ => decide (s = "turn")
  | _ => false
def allowB (tu : Bool) (ts : List Itm) : Bool := stepB ts && (tu || !turnB ts)
theorem step_word {ts : List Itm} (h : stepB ts = true) : ∃ s r, ts = .str s :: r := by
  unfold stepB at h
  rw [Bool.and_eq_true] at h
  cases shape_inv h.1 <;> exact ⟨_, _, rfl⟩
theorem dS {x y : Str} : decide (V.str x = V.str y) = decide (x = y) := by
  by_cases h : x = y
  · rw [h, decide_eq_true rfl, decide_eq_true rfl]
  · rw [decide_eq_false h, decide_eq_false fun z => h (V.str.inj z)]
def FirstNo (f : List Itm → Bool) (ss : List (List Itm)) (i : Nat) : Prop := (∃ t, ss[i]? = some t ∧ f t = false) ∧ ∀ j t, j < i → ss[j]? = some t → f t = true
theorem first_one {f : List Itm → Bool} {ss : List (List Itm)} {i j : Nat} (h : FirstNo f ss i) (g : FirstNo f ss j) : i = j := by
  obtain ⟨⟨t, ht, ft⟩, a⟩ := h
  obtain ⟨⟨u, hu, fu⟩, b⟩ := g
  rcases Nat.lt_trichotomy i j with l | l | l
  · rw [b i t l ht] at ft
    cases ft
  · exact l
  · rw [a j u l hu] at fu
    cases fu
theorem none_first {f : List Itm → Bool} {ss : List (List Itm)} (ok : ∀ t ∈ ss, f t = true) {i : Nat} (h : FirstNo f ss i) : False := by
  obtain ⟨⟨t, ht, ft⟩, _⟩ := h
  rw [ok t (List.mem_of_getElem? ht)] at ft
  cases ft
/-- the places of those that are not so, ahead of n -/
def nosTo (f : List Itm → Bool) (ss : List (List Itm)) : Nat → List Int
  | 0 => []
  | n + 1 => if f (ss.getD n []) = true then nosTo f ss n else nosTo f ss n ++ [(n : Int)]
theorem nos_len (f : List Itm → Bool) (ss : List (List Itm)) : ∀ n, (nosTo f ss n).length ≤ n
  | 0 => Nat.le_refl _
  | n + 1 => by
    have := nos_len f ss n
    unfold nosTo
    split
    · omega
    · rw [List.length_append, List.length_singleton]
      omega
theorem nos_first (f : List Itm → Bool) (ss : List (List Itm)) : ∀ n, n ≤ ss.length → (nosTo f ss n = [] ∧ ∀ j t, j < n → ss[j]? = some t → f t = true) ∨ ∃ (i : Nat) (r : List Int), nosTo f ss n = (i : Int) :: r ∧ i < n ∧ FirstNo f ss i
  | 0, _ => .inl ⟨rfl, fun j t h => absurd h (Nat.not_lt_zero _)⟩
  | n + 1, h => by
    have hn : n < ss.length := by omega
    have e : ss.getD n [] = ss[n] := by rw [List.getD_eq_getElem?_getD, List.getElem?_eq_getElem hn]; rfl
    rcases nos_first f ss n (by omega) with ⟨h1, h2⟩ | ⟨i, r, h1, h2, h3⟩
    · cases z : f ss[n] with
      | true =>
        refine .inl ⟨by unfold nosTo; rw [e, z, if_pos rfl, h1], fun j t hj ht => ?_⟩
        rcases Nat.lt_succ_iff_lt_or_eq.mp hj with l | rfl
        · exact h2 j t l ht
        · rw [List.getElem?_eq_getElem hn] at ht
          cases ht
          exact z
      | false => exact .inr ⟨n, [], by unfold nosTo; rw [e, z, if_neg (by decide), h1]; rfl, Nat.lt_succ_self n, ⟨_, List.getElem?_eq_getElem hn, z⟩, h2⟩
    · cases z : f ss[n] with
      | true => exact .inr ⟨i, r, by unfold nosTo; rw [e, z, if_pos rfl, h1], by omega, h3⟩
      | false => exact .inr ⟨i, r ++ [(n : Int)], by unfold nosTo; rw [e, z, if_neg (by decide), h1]; rfl, by omega, h3⟩
section
variable {base : Heap} {K : PySem.W.Frag} {mg : Str → Option Value} {P : Program} {w : World}
def spAllow : Sp := fun vs H Q _ => ∃ (p : Addr) (ts : List Itm) (tu : Bool), vs = [.ref p, .bl tu] ∧ StepAt H p ts ∧ ts.length ≤ 10 ∧ ∀ H', Same H H' → Q (.bl (allowB tu ts)) H'
theorem ok_is_allowed (T : Txt K mg) (D : Shps K w T.u_SHAPES) : FnOk P w K mg base CX0 6 T.f_is_allowed T.d_is_allowed ["step", "turning"] spAllow := by
  refine T.F_is_allowed.ok sc_is_allowed (fun vs H Q E h => ?_) (fun cdv A outer s H vs Q E hr h => ?_)
  · obtain ⟨p, ts, tu, rfl, _⟩ := h
    rfl
  · obtain ⟨p, ts, tu, rfl, hS, ln, q⟩ := h
    refine ⟨_, (pss_one (ps_ret (pe_and (pe_call (ok_is_step T D) (hr.mono (by decide)) (by rfl) T.g_is_step T.F_is_step.kp T.b_is_step .nil pass0 (pa_cons (pv 0) pa_nil)) (pe_one (pe_or (pv 1) (pe_one (pe_cmpR op_ne (pe_ix ix_tup (pv 0) pe_int (fun _ _ => rfl)) pe_str (nomark _)))))))), ?_⟩
    refine ⟨_, rfl, p, ts, rfl, hS, ln, fun H1 s1 => ⟨stepB ts, rfl, ?_⟩⟩
    unfold allowB at q
    cases z : stepB ts with
    | false =>
      rw [z, Bool.false_and] at q
      exact iteF (q _ s1)
    | true =>
      rw [z, Bool.true_and] at q
      refine iteT ⟨_, rfl, tu, rfl, ?_⟩
      cases tu with
      | true => exact iteT (q _ s1)
      | false =>
        obtain ⟨wd, r, rfl⟩ := step_word z
        obtain ⟨vs, hp, hts⟩ := hS.same s1
        match vs, hts with
        | v :: vs', .cons ⟨e, _⟩ _ =>
          subst e
          refine iteF ⟨_, rfl, p, _, 0, .str wd, rfl, rfl, SqT.of hp, atI_nat (j := 0) rfl, rfl, ?_⟩
          rw [dS]
          exact q _ s1
end
section
variable {base : Heap} {K : PySem.W.Frag} {mg : Str → Option Value} {w : World}
def spCkAllow (T : Txt K mg) : Sp := fun vs H Q E => ∃ (r : V) (ss : List (List Itm)) (tu : Bool), vs = [r, .bl tu] ∧ HandedS K H r ss ∧ (∀ t ∈ ss, t.length ≤ 10) ∧ ((∀ t ∈ ss, allowB tu t = true) → ∀ H', Same H H' → Q .non H') ∧ (∀ i, FirstNo (allowB tu) ss i → Throws T.e_BadStep.C (badStep i) H E)
theorem ok_check_allowed (T : Txt K mg) (D : Shps K w T.u_SHAPES) : FnOk PySem.Challenge.pw_grainyard_k24_recipes_as_lists w K mg base (L2.CX PySem.Challenge.pw_grainyard_k24_recipes_as_lists w) 7 T.f_check_allowed T.d_check_allowed ["steps", "turning"] (spCkAllow T) := by
  refine T.F_check_allowed.okX sc_check_allowed (fun vs H Q E h => ?_) (fun cdv A outer s H vs Q E hr h => ?_)
  · obtain ⟨r, ss, tu, rfl, _⟩ := h
    rfl
  · obtain ⟨r, ss, tu, rfl, hh, ln, q1, q2⟩ := h
    refine ⟨_, (pss_one (ps_for (passes_of rfl) rfl (PI.or (pi_enum (by rfl) T.n_enumerate (pa_cons (pv 0) pa_nil)) (pi_enumT (by rfl) T.n_enumerate (pa_cons (pv 0) pa_nil))) (pg_tup (by rfl) (pgs_cons (pg_name (i := 2) sc_check_allowed.nd rfl (Or.inl rfl)) (pgs_cons (pg_name (i := 3) sc_check_allowed.nd rfl (Or.inl rfl)) pgs_nil))) (pss_one (ps_if (pt_not (pt_val (pe_call (ok_is_allowed T D) (hr.mono (by decide)) (by rfl) T.g_is_allowed T.F_is_allowed.kp T.b_is_allowed .nil pass0 (pa_cons (pv 3) (pa_cons (pv 1) pa_nil))))) (pss_one (ps_raise rfl (takes_of rfl rfl rfl rfl) (pmk_oex (oex_of T.e_BadStep) T.e_BadStep.iC T.e_BadStep.tI (ini_BadStep T) (hr.mono (by decide)) (bi_BadStep T) .nil pass0 (by rfl) T.e_BadStep.g (pa_cons (pv 2) pa_nil)))) pss_nil)))), ?_⟩
    have all : (∀ j t, j < ss.length → ss[j]? = some t → allowB tu t = true) → ∀ t ∈ ss, allowB tu t = true := by
      intro g t ht
      obtain ⟨j, hj⟩ := List.mem_iff_getElem?.mp ht
      exact g j t (List.getElem?_eq_some_iff.mp hj).1 hj
    cases hh with
    | @list l as _ hl hr' =>
      refine .inl ⟨_, rfl, l, _, rfl, hl, for_enumL (K := K) (a := l) (xs := as.map V.ref) (fun i σ H' => ∃ y1 y2, σ = [some (.ref l), some (.bl tu), y1, y2] ∧ Same H H' ∧ ∀ j t, j < i → ss[j]? = some t → allowB tu t = true) ⟨_, _, rfl, Same.refl _, fun j f hj => absurd hj (Nat.not_lt_zero _)⟩ ?_ ?_ ?_⟩
      · rintro i τ G hi ⟨_, _, _, s, _⟩
        exact Same.seq s hl
      · rintro i x τ G T1 hx ⟨y1, y2, rfl, s, good⟩ hT
        obtain ⟨a, t, rfl, ht, hs⟩ := step_row hr' hx
        have s1 := s.trans (same_new (o := .tup [.int (i : Nat), .ref a]) hT)
        refine ⟨T1, _, rfl, SqT.of upd_same, rfl, .int i, _, rfl, .ref a, _, rfl, rfl, ?_⟩
        refine ⟨_, rfl, _, rfl, a, t, tu, rfl, hs.same s1, ln t (List.mem_of_getElem? ht), fun H2 s2 => ⟨_, rfl, ?_⟩⟩
        cases z : allowB tu t with
        | true =>
          refine iteF ⟨_, _, rfl, s1.trans s2, fun j t' hj ht' => ?_⟩
          rcases Nat.lt_succ_iff_lt_or_eq.mp hj with l | rfl
          · exact good j t' l ht'
          · cases ht.symm.trans ht'
            exact z
        | false => exact iteT ⟨_, rfl, mk_use rfl (by decide) fun x Hf hx s3 f3 => ((q2 i ⟨⟨t, ht, z⟩, good⟩).up (s1.trans s2)) x Hf hx s3 f3⟩
      · rintro τ G ⟨_, _, rfl, s, good⟩
        rw [List.length_map, Paired.length hr'] at good
        exact q1 (all good) _ s
    | @tup l as _ hl hr' =>
      refine .inr ⟨_, rfl, l, _, rfl, hl, for_enumT (K := K) (a := l) (xs := as.map V.ref) (fun i σ H' => ∃ y1 y2, σ = [some (.ref l), some (.bl tu), y1, y2] ∧ Same H H' ∧ ∀ j t, j < i → ss[j]? = some t → allowB tu t = true) ⟨_, _, rfl, Same.refl _, fun j f hj => absurd hj (Nat.not_lt_zero _)⟩ ?_ ?_ ?_⟩
      · rintro i τ G hi ⟨_, _, _, s, _⟩
        exact Evl.ex_t s hl
      · rintro i x τ G T1 hx ⟨y1, y2, rfl, s, good⟩ hT
        obtain ⟨a, t, rfl, ht, hs⟩ := step_row hr' hx
        have s1 := s.trans (same_new (o := .tup [.int (i : Nat), .ref a]) hT)
        refine ⟨T1, _, rfl, SqT.of upd_same, rfl, .int i, _, rfl, .ref a, _, rfl, rfl, ?_⟩
        refine ⟨_, rfl, _, rfl, a, t, tu, rfl, hs.same s1, ln t (List.mem_of_getElem? ht), fun H2 s2 => ⟨_, rfl, ?_⟩⟩
        cases z : allowB tu t with
        | true =>
          refine iteF ⟨_, _, rfl, s1.trans s2, fun j t' hj ht' => ?_⟩
          rcases Nat.lt_succ_iff_lt_or_eq.mp hj with l | rfl
          · exact good j t' l ht'
          · cases ht.symm.trans ht'
            exact z
        | false => exact iteT ⟨_, rfl, mk_use rfl (by decide) fun x Hf hx s3 f3 => ((q2 i ⟨⟨t, ht, z⟩, good⟩).up (s1.trans s2)) x Hf hx s3 f3⟩
      · rintro τ G ⟨_, _, rfl, s, good⟩
        rw [List.length_map, Paired.length hr'] at good
        exact q1 (all good) _ s
end
/-! ### recipes -/
def RecAt (C : Addr) (H : Hp) (x l : Addr) (ss : List (List Itm)) (tu : Bool) : Prop := ∃ dx : Addr, H x = some (.ins C dx [("listed", .ref l), ("allowed", .bl tu)]) ∧ StepsL H l ss
theorem RecAt.same {C : Addr} {H H' : Hp} {x l : Addr} {ss : List (List Itm)} {tu : Bool} (h : RecAt C H x l ss tu) (s : Same H H') : RecAt C H' x l ss tu := by
  obtain ⟨dx, h1, h2⟩ := h
  exact ⟨dx, s _ _ h1, h2.same s⟩
/-- another list is changed -/
theorem RecAt.put {C : Addr} {H : Hp} {x l m : Addr} {ss : List (List Itm)} {tu : Bool} {xs ys : List V} (h : RecAt C H x l ss tu) (hm : H m = some (.lst xs)) (ne : l ≠ m) : RecAt C (upd H m (.lst ys)) x l ss tu := by
  obtain ⟨dx, h1, h2⟩ := h
  exact ⟨dx, (upd_ne (ne_of h1 hm (by intro z; cases z))).trans h1, h2.mono (fun _ z => (upd_ne ne).trans z) (tup_put hm)⟩
section
variable {base : Heap} {K : PySem.W.Frag} {mg : Str → Option Value} {w : World}
theorem HandedS.same {H H' : Hp} {r : V} {ss : List (List Itm)} (h : HandedS K H r ss) (s : Same H H') : HandedS K H' r ss := by
  cases h with
  | list hl hr => exact .list (Same.seq s hl) (steps_mono (fun p xs z => s _ _ z) hr)
  | tup hl hr => exact .tup (Evl.ex_t s hl) (steps_mono (fun p xs z => s _ _ z) hr)
def spRInit (T : Txt K mg) : Sp := fun vs H Q E => ∃ (x dx : Addr) (r : V) (ss : List (List Itm)) (tu : Bool), vs = [.ref x, r, .bl tu] ∧ H x = some (.ins T.C_Recipe dx []) ∧ HandedS K H r ss ∧ (∀ t ∈ ss, t.length ≤ 10) ∧
  ((∀ t ∈ ss, allowB tu t = true) → ∀ l H', H l = none → RecAt T.C_Recipe H' x l ss tu → (∀ q o, H q = some o → q ≠ x → H' q = some o) → Q .non H') ∧ (∀ i, FirstNo (allowB tu) ss i → Throws T.e_BadStep.C (badStep i) H E)
theorem ok_Recipe_init (T : Txt K mg) (D : Shps K w T.u_SHAPES) : FnOk PySem.Challenge.pw_grainyard_k24_recipes_as_lists w K mg base (L2.CX PySem.Challenge.pw_grainyard_k24_recipes_as_lists w) 8 T.f_Recipe_init T.d_Recipe_init ["self", "steps", "turning"] (spRInit T) := by
  refine T.F_Recipe_init.ok sc_Recipe_init (fun vs H Q E h => ?_) (fun cdv A outer s H vs Q E hr h => ?_)
  · obtain ⟨x, dx, r, ss, tu, rfl, _⟩ := h
    rfl
  · obtain ⟨x, dx, r, ss, tu, rfl, hx, hh, ln, q1, q2⟩ := h
    refine ⟨_, (pss_cons (ps_expr (pe_call (ok_check_allowed (w := w) T D) (hr.mono (by decide)) (by rfl) T.g_check_allowed T.F_check_allowed.kp T.b_check_allowed .nil (passes_call (takes_of rfl rfl rfl rfl) (fun _ _ _ _ h => h)) (pa_cons (pv 1) (pa_cons (pv 2) pa_nil))))
      (pss_cons (ps_fld (pv 0) (pe_callTy call_list_of (by rfl) T.n_list (by decide +kernel) (pa_cons (pv 1) pa_nil)) rfl)
      (pss_one (ps_fld (pv 0) (pv 2) rfl)))), ?_⟩
    refine ⟨_, rfl, _, rfl, r, ss, tu, rfl, hh, ln, fun ok H1 s1 => ?_, q2⟩
    have hx1 := s1 _ _ hx
    have fin : ∀ (as : List Addr) (l : Addr), Paired (StepAt H1) as ss → H1 l = none →
        Q .non (upd (upd (upd H1 l (.lst (as.map V.ref))) x (.ins T.C_Recipe dx [("listed", .ref l)])) x (.ins T.C_Recipe dx [("listed", .ref l), ("allowed", .bl tu)])) := by
      intro as l hP nl
      have lx : l ≠ x := fun z => by rw [z, hx1] at nl; cases nl
      refine q1 ok l _ (s1.free nl) ⟨dx, upd_same, as, ?_, ?_⟩ fun b o z ne => ?_
      · rw [upd_ne lx, upd_ne lx, upd_same]
      · refine steps_mono (fun p xs z => ?_) hP
        have p1 := ne_of z hx1 (by intro z; cases z)
        rw [upd_ne p1, upd_ne p1, upd_ne (ne_of_none z nl)]
        exact z
      · rw [upd_ne ne, upd_ne ne, upd_ne (ne_of_none (s1 _ _ z) nl)]
        exact s1 _ _ z
    have go : ∀ (as : List Addr) (l : Addr), Paired (StepAt H1) as ss → H1 l = none → upd H1 l (.lst (as.map V.ref)) x = some (.ins T.C_Recipe dx []) := fun as l hP nl => (upd_ne (ne_of_none hx1 nl)).trans hx1
    cases hh.same s1 with
    | @list a as _ hl hP =>
      exact ⟨_, rfl, a, _, rfl, .inl hl, fun l nl => ⟨_, rfl, x, T.C_Recipe, dx, [], rfl, go as l hP nl, T.cl_Recipe, T.n_Recipe_listed, by decide, _, rfl, _, rfl, x, T.C_Recipe, dx, _, rfl, upd_same, T.cl_Recipe, T.n_Recipe_allowed, (by show 1 < 1000; decide), fin as l hP nl⟩⟩
    | @tup a as _ hl hP =>
      exact ⟨_, rfl, a, _, rfl, .inr hl, fun l nl => ⟨_, rfl, x, T.C_Recipe, dx, [], rfl, go as l hP nl, T.cl_Recipe, T.n_Recipe_listed, by decide, _, rfl, _, rfl, x, T.C_Recipe, dx, _, rfl, upd_same, T.cl_Recipe, T.n_Recipe_allowed, (by show 1 < 1000; decide), fin as l hP nl⟩⟩
theorem new_ins {H : Hp} {x dx C : Addr} {fs : List (Str × V)} (nx : H x = none) (nd : H dx = none) : Same H (upd (upd H dx (.own x)) x (.ins C dx fs)) := fun b o z => by
  rw [upd_ne (ne_of_none z nx), upd_ne (ne_of_none z nd)]
  exact z
/-- Recipe(r, turning=tu), where nothing is wrong -/
theorem mk_rec {T : Txt K mg} {H : Hp} {r : V} {ss : List (List Itm)} {tu : Bool} {R : Addr → Hp → Prop} {E : XK} (hh : HandedS K H r ss) (ln : ∀ t ∈ ss, t.length ≤ 10) (ok : ∀ t ∈ ss, allowB tu t = true) (q : ∀ x l H', H x = none → H l = none → Same H H' → RecAt T.C_Recipe H' x l ss tu → R x H') :
    ∀ x dx, H x = none → H dx = none → dx ≠ x → spRInit T [.ref x, r, .bl tu] (upd (upd H dx (.own x)) x (.ins T.C_Recipe dx [])) (fun v H2 => v = .non ∧ R x H2) E := by
  intro x dx nx nd ne
  have s1 := new_ins (C := T.C_Recipe) (fs := []) nx nd
  exact ⟨x, dx, r, ss, tu, rfl, upd_same, hh.same s1, ln, fun _ l H' nl hA hk => ⟨rfl, q x l H' nx (s1.free nl) (fun b o z => hk b o (s1 b o z) (ne_of_none z nx)) hA⟩, fun i fb => (none_first ok fb).elim⟩
/-- what is told of such a call -/
theorem rec_told (T : Txt K mg) {H : Hp} {r : V} {ss : List (List Itm)} {tu : Bool} {Q Q1 : VK} {E : XK} (hE : E = Raised K T.r_GrainError Q) (hQ : Q1 = fun v H1 => [V.str "told", v].length ≤ sizeLine ∧ ∀ p, H1 p = none → Q (.ref p) (upd H1 p (.tup [.str "told", v])))
    (hh : HandedS K H r ss) (ln : ∀ t ∈ ss, t.length ≤ 10) (good : (∀ t ∈ ss, allowB tu t = true) → ∀ p x l H', H l = none → Same H H' → H' p = some (.tup [.str "told", .ref x]) → RecAt T.C_Recipe H' x l ss tu → Q (.ref p) H')
    (bad : ∀ i, FirstNo (allowB tu) ss i → ∀ p H', Same H H' → H' p = some (.tup [.str "BadStep", .int (i : Int)]) → Q (.ref p) H') :
    ∀ x dx, H x = none → H dx = none → dx ≠ x → spRInit T [.ref x, r, .bl tu] (upd (upd H dx (.own x)) x (.ins T.C_Recipe dx [])) (fun v H3 => v = .non ∧ Q1 (.ref x) H3) E := by
  subst hE
  subst hQ
  intro x dx nx nd ne
  have s1 := new_ins (C := T.C_Recipe) (fs := []) nx nd
  refine ⟨x, dx, r, ss, tu, rfl, upd_same, hh.same s1, ln, fun ok l H' nl hA hk => ⟨rfl, by show 2 ≤ sizeLine; decide, fun p np => ?_⟩, fun i fb => ?_⟩
  · have s2 : Same H H' := fun b o z => hk b o (s1 b o z) (ne_of_none z nx)
    have s3 := same_new (o := .tup [.str "told", .ref x]) np
    exact good ok p x l _ (s1.free nl) (s2.trans s3) upd_same (hA.same s3)
  · intro y Hf ny sf fy
    exact raised_step T fy fun H' p s' hp => bad i fb p H' (s1.trans (sf.trans s')) hp
end
section
variable {base : Heap} {K : PySem.W.Frag} {mg : Str → Option Value} {P : Program} {w : World}
def spRSteps (C : Addr) : Sp := fun vs H Q _ => ∃ (x l : Addr) (ss : List (List Itm)) (tu : Bool), vs = [.ref x] ∧ RecAt C H x l ss tu ∧ ∀ m H', H m = none → Same H H' → StepsL H' m ss → Q (.ref m) H'
theorem ok_Recipe_steps (T : Txt K mg) : FnOk P w K mg base CX0 1 T.f_Recipe_steps T.d_Recipe_steps ["self"] (spRSteps T.C_Recipe) := by
  refine T.F_Recipe_steps.ok sc_Recipe_steps (fun vs H Q E h => ?_) (fun cdv A outer s H vs Q E hr h => ?_)
  · obtain ⟨x, l, ss, tu, rfl, _⟩ := h
    rfl
  · obtain ⟨x, l, ss, tu, rfl, ⟨dx, hx, as, hl, hP⟩, q⟩ := h
    refine ⟨_, (pss_one (ps_ret (pe_callTy call_list_of (by rfl) T.n_list (by decide +kernel) (pa_cons (pe_fld (pv 0) rfl) pa_nil)))), ?_⟩
    refine ⟨_, rfl, x, T.C_Recipe, dx, _, _, rfl, hx, T.cl_Recipe, T.n_Recipe_listed, rfl, l, _, rfl, .inl (SqL.of hl), fun m nm => ?_⟩
    have e := same_new (o := .lst (as.map V.ref)) nm
    exact q m _ nm e ⟨as, upd_same, steps_mono (fun p xs z => e _ _ z) hP⟩
def spRTurn (C : Addr) : Sp := fun vs H Q _ => ∃ (x l : Addr) (ss : List (List Itm)) (tu : Bool), vs = [.ref x] ∧ RecAt C H x l ss tu ∧ Q (.bl tu) H
theorem ok_Recipe_turning (T : Txt K mg) : FnOk P w K mg base CX0 1 T.f_Recipe_turning T.d_Recipe_turning ["self"] (spRTurn T.C_Recipe) := by
  refine T.F_Recipe_turning.ok sc_Recipe_turning (fun vs H Q E h => ?_) (fun cdv A outer s H vs Q E hr h => ?_)
  · obtain ⟨x, l, ss, tu, rfl, _⟩ := h
    rfl
  · obtain ⟨x, l, ss, tu, rfl, ⟨dx, hx, _⟩, q⟩ := h
    exact ⟨_, (pss_one (ps_ret (pe_fld (pv 0) rfl))), _, rfl, x, T.C_Recipe, dx, _, _, rfl, hx, T.cl_Recipe, T.n_Recipe_allowed, rfl, q⟩
def spRLen (C : Addr) : Sp := fun vs H Q _ => ∃ (x l : Addr) (ss : List (List Itm)) (tu : Bool), vs = [.ref x] ∧ RecAt C H x l ss tu ∧ Q (.int ss.length) H
theorem ok_Recipe_len (T : Txt K mg) : FnOk P w K mg base CX0 1 T.f_Recipe_len T.d_Recipe_len ["self"] (spRLen T.C_Recipe) := by
  refine T.F_Recipe_len.ok sc_Recipe_len (fun vs H Q E h => ?_) (fun cdv A outer s H vs Q E hr h => ?_)
  · obtain ⟨x, l, ss, tu, rfl, _⟩ := h
    rfl
  · obtain ⟨x, l, ss, tu, rfl, ⟨dx, hx, as, hl, hP⟩, q⟩ := h
    refine ⟨_, (pss_one (ps_ret (pe_callB call_len_seq (by rfl) T.n_len (by decide +kernel) (pa_cons (pe_fld (pv 0) rfl) pa_nil)))), _, rfl, x, T.C_Recipe, dx, _, _, rfl, hx, T.cl_Recipe, T.n_Recipe_listed, rfl, l, _, rfl, .inl (SqL.of hl), ?_⟩
    rw [List.length_map, Paired.length hP]
    exact q
def recText (n : Nat) : Str := Str.ofString "Recipe(" ++ Str.ofString (toString (n : Int)) ++ Str.ofString " steps)"
def spRRepr (C : Addr) : Sp := fun vs H Q _ => ∃ (x l : Addr) (ss : List (List Itm)) (tu : Bool), vs = [.ref x] ∧ RecAt C H x l ss tu ∧ ss.length ≤ 1000 ∧ Q (.str (recText ss.length)) H
theorem log2_lt_of {m k : Nat} (h : m < 2 ^ k) (hk : 0 < k) : m.log2 < k := by
  by_cases z : m = 0
  · rw [z]
    simpa using hk
  · exact (Nat.log2_lt z).mpr h
theorem text_len {n : Int} (n0 : 0 ≤ n) (n1 : n < 10 ^ 64) : n.natAbs.log2 < 1920 ∧ (Str.ofString (toString n)).length ≤ 70 := by
  have h : n.natAbs < 10 ^ 64 := by omega
  refine ⟨log2_lt_of (Nat.lt_of_lt_of_le h (by decide)) (by decide), ?_⟩
  have e := int_text_length_le10 (k := 64) (by decide) h
  rw [PySem.ofString_length]
  omega
theorem ok_Recipe_repr (T : Txt K mg) : FnOk P w K mg base CX0 1 T.f_Recipe_repr T.d_Recipe_repr ["self"] (spRRepr T.C_Recipe) := by
  refine T.F_Recipe_repr.ok sc_Recipe_repr (fun vs H Q E h => ?_) (fun cdv A outer s H vs Q E hr h => ?_)
  · obtain ⟨x, l, ss, tu, rfl, _⟩ := h
    rfl
  · obtain ⟨x, l, ss, tu, rfl, ⟨dx, hx, as, hl, hP⟩, hn, q⟩ := h
    refine ⟨_, (pss_one (ps_ret (pe_joined (.cons pe_str (.cons (pe_fmt (pe_callB call_len_seq (by rfl) T.n_len (by decide +kernel) (pa_cons (pe_fld (pv 0) rfl) pa_nil))) (.cons pe_str .nil)))))), ?_⟩
    have hlen : (as.map V.ref).length = ss.length := by rw [List.length_map, Paired.length hP]
    obtain ⟨g1, g2⟩ := text_len (n := (ss.length : Int)) (by omega) (by omega)
    have e0 : Str.empty ++ Str.ofString "Recipe(" = Str.ofString "Recipe(" := by kernel_rfl
    have l0 : (Str.ofString "Recipe(").length = 7 := by kernel_rfl
    have l1 : (Str.ofString " steps)").length = 7 := by kernel_rfl
    have sz : sizeLine = 16777216 := rfl
    refine ⟨_, rfl, by rw [e0, l0, sz]; decide, _, rfl, x, T.C_Recipe, dx, _, _, rfl, hx, T.cl_Recipe, T.n_Recipe_listed, rfl, l, _, rfl, .inl (SqL.of hl), .inr ⟨(ss.length : Int), by rw [hlen], g1, _, rfl, ?_, _, rfl, ?_, ?_⟩⟩
    · rw [e0, Str.length_append, l0]
      omega
    · rw [e0, Str.length_append, Str.length_append, l0, l1]
      omega
    · rw [e0]
      exact q
theorem kit_list {C : Addr} (ic : PySem.W.isClsIn K C = true) (tw : PySem.W.typeIn K (.ref C) = some (.type "type")) (nl : PySem.W.subIn K (.type "list") (.ref C) = some false) : PySem.W.kitOne K (.type "list") (.ref C) = some false := by
  unfold PySem.W.isClsIn at ic
  unfold PySem.W.kitOne
  rw [if_neg fun z => by cases z]
  unfold PySem.W.kitCls
  dsimp only
  rw [ic, tw, if_pos (by decide +kernel)]
  exact nl
def listsD (ss : List (List Itm)) : PyData := .list (ss.map stepD)
def spREq (C : Addr) : Sp := fun vs H Q _ => (∃ (x y l m : Addr) (ss ts : List (List Itm)) (tu tv : Bool), vs = [.ref x, .ref y] ∧ RecAt C H x l ss tu ∧ RecAt C H y m ts tv ∧ Q (.bl (PyData.eqv (listsD ss) (listsD ts) && decide (tu = tv))) H) ∨
  ∃ (x l m : Addr) (ss : List (List Itm)) (tu : Bool) (zs : List V), vs = [.ref x, .ref m] ∧ RecAt C H x l ss tu ∧ H m = some (.lst zs) ∧ Q (.bl false) H
theorem ok_Recipe_eq (T : Txt K mg) : FnOk P w K mg base CX0 1 T.f_Recipe_eq T.d_Recipe_eq ["self", "other"] (spREq T.C_Recipe) := by
  refine T.F_Recipe_eq.ok sc_Recipe_eq (fun vs H Q E h => ?_) (fun cdv A outer s H vs Q E hr h => ?_)
  · rcases h with ⟨x, y, l, m, ss, ts, tu, tv, rfl, _⟩ | ⟨x, l, m, ss, tu, zs, rfl, _⟩ <;> rfl
  · rcases h with ⟨x, y, l, m, ss, ts, tu, tv, rfl, ⟨dx, hx, hl⟩, ⟨dy, hy, hm⟩, q⟩ | ⟨x, l, m, ss, tu, zs, rfl, _, hm, q⟩
    · refine ⟨_, (pss_one (ps_ret (pe_and (pe_callB call_isi (by rfl) T.n_isinstance (by decide +kernel) (pa_cons (pv 1) (pa_cons (pe_glob (v := .ref T.C_Recipe) (by rfl) T.g_Recipe rfl) pa_nil))) (pe_and (pe_cmpR (op_eqD hr.units) (pe_fld (pv 0) rfl) (pe_fld (pv 1) rfl) (nomark _)) (pe_one (pe_cmpR op_eq (pe_fld (pv 0) rfl) (pe_fld (pv 1) rfl) (nomark _))))))), ?_⟩
      refine ⟨_, rfl, .ref y, .ref T.C_Recipe, .ref T.C_Recipe, .ref T.C_Recipe, true, rfl, ClsV.own _, TyX.base (TyOf.ins hy T.cl_Recipe T.ca_Recipe T.hn T.ht T.mo_Recipe), by simp [PySem.W.kitOne], true, rfl, iteT ?_⟩
      refine ⟨_, rfl, x, T.C_Recipe, dx, _, _, rfl, hx, T.cl_Recipe, T.n_Recipe_listed, rfl, _, rfl, y, T.C_Recipe, dy, _, _, rfl, hy, T.cl_Recipe, T.n_Recipe_listed, rfl, listsD ss, listsD ts, hl.dp, hm.dp, (steps_can hl.known).1, (steps_can hm.known).1, PyData.eqv (listsD ss) (listsD ts), rfl, ?_⟩
      cases z : PyData.eqv (listsD ss) (listsD ts) with
      | false =>
        rw [z, Bool.false_and] at q
        exact iteF q
      | true =>
        rw [z, Bool.true_and] at q
        refine iteT ⟨_, rfl, x, T.C_Recipe, dx, _, _, rfl, hx, T.cl_Recipe, T.n_Recipe_allowed, rfl, _, rfl, y, T.C_Recipe, dy, _, _, rfl, hy, T.cl_Recipe, T.n_Recipe_allowed, rfl, rfl, ?_⟩
        rw [show decide (V.bl tu = V.bl tv) = decide (tu = tv) by cases tu <;> cases tv <;> rfl]
        exact q
    · exact ⟨_, (pss_one (ps_ret (pe_and (pe_callB call_isi (by rfl) T.n_isinstance (by decide +kernel) (pa_cons (pv 1) (pa_cons (pe_glob (v := .ref T.C_Recipe) (by rfl) T.g_Recipe rfl) pa_nil))) (pe_and (pe_cmpR (op_eqD hr.units) (pe_fld (pv 0) rfl) (pe_fld (pv 1) rfl) (nomark _)) (pe_one (pe_cmpR op_eq (pe_fld (pv 0) rfl) (pe_fld (pv 1) rfl) (nomark _))))))), _, rfl, .ref m, .ref T.C_Recipe, .type "list", .ref T.C_Recipe, false, rfl, ClsV.own _, TyX.base (TyOf.lst hm), kit_list T.ic_Recipe T.tw_Recipe T.nl_Recipe, false, rfl, iteF q⟩
end
/-! ### the law -/
section
variable {base : Heap} {K : PySem.W.Frag} {mg : Str → Option Value} {w : World}
abbrev tMk24 (T : Txt K mg) (E : XK) : TE := tMakeK T.C_Recipe 1 1 (spRInit T) (fun us ws => [us.getD 0 .non, us.getD 1 .non, ws.getD 0 .non]) E (tCons (tCall spOf [] E0 (tCons (tVar 1) (tCons (tLst (tCons (tVar 6) (tCons (tCB (rTup K) (tCons (tVar 6) tNil)) tNil))) tNil))) tNil) (tCons (tVar 12) tNil)
def goodF (t : List Itm) : Bool := stepB t && !turnB t
theorem good_allow {t : List Itm} {tu : Bool} (h : goodF t = true) : allowB tu t = true := by
  unfold goodF at h
  unfold allowB
  rw [Bool.and_eq_true] at h ⊢
  exact ⟨h.1, by rw [h.2, Bool.or_true]⟩
def spLaw (K : PySem.W.Frag) (P0 : Addr) : Sp := fun vs H Q _ => ∃ (a : Addr) (ns : List Int), vs = [.ref a] ∧ SqL K H a (ns.map V.int) ∧ ns.length ≤ 63 ∧ H P0 = some (.tbl #[]) ∧ ∀ H', Q (.bl true) H'
theorem rec_tell (T : Txt K mg) {H : Hp} {r : V} {ss : List (List Itm)} {tu : Bool} {Q : VK} {R : Addr → Hp → Prop} {E : XK} (hE : E = Raised K T.r_GrainError Q) (hR : R = fun x H1 => [V.str "told", V.ref x].length ≤ sizeLine ∧ ∀ p, H1 p = none → Q (.ref p) (upd H1 p (.tup [.str "told", .ref x])))
    (hh : HandedS K H r ss) (ln : ∀ t ∈ ss, t.length ≤ 10) (good : (∀ t ∈ ss, allowB tu t = true) → ∀ p x l H', H l = none → Same H H' → H' p = some (.tup [.str "told", .ref x]) → RecAt T.C_Recipe H' x l ss tu → Q (.ref p) H')
    (bad : ∀ i, FirstNo (allowB tu) ss i → ∀ p H', Same H H' → H' p = some (.tup [.str "BadStep", .int (i : Int)]) → Q (.ref p) H') :
    ∀ x dx, H x = none → H dx = none → dx ≠ x → spRInit T [.ref x, r, .bl tu] (upd (upd H dx (.own x)) x (.ins T.C_Recipe dx [])) (fun v H3 => v = .non ∧ R x H3) E := by
  subst hR
  exact rec_told T hE rfl hh ln good bad
theorem filt_next {ss : List (List Itm)} {j : Nat} {t : List Itm} (ht : ss[j]? = some t) : (ss.take (j + 1)).filter goodF = (ss.take j).filter goodF ++ [t].filter goodF := by
  rw [List.take_succ, ht, List.filter_append]
  rfl
theorem dbad {H : Hp} {p : Addr} {i : Int} (h : H p = some (.tup [.str "BadStep", .int i])) : Dp K H (.ref p) (.tuple [.str "BadStep", .int i]) := .tup (SqT.of h) (.cons (.str _) (.cons (.int _) .nil))
theorem bad_shaped (n : Int) : SeqAt.shaped (.tuple [.str "BadStep", .int n]) = true := by kernel_rfl
theorem bad_same (n : Int) : PyData.eqv (.tuple [.str "BadStep", .int n]) (.tuple [.str "BadStep", .int n]) = true := PySem.SeqAt.eqv_refl_plain _ (by simp [PyData.plain, PyData.plainAll])
theorem lk_item {H : Hp} {n : Nat} {v v' : V} {t : Itm} (h : ItAt H v t) (h' : ItAt H v' t) : Lk H (n + 2) v v' := by
  cases t with
  | str s =>
    rw [h.1, h'.1]
    exact Lk.flat (.inr (.inr (.inr ⟨s, rfl, rfl⟩)))
  | int i =>
    rw [show v = .int i from h, show v' = .int i from h']
    exact Lk.int rfl
  | pair a b =>
    obtain ⟨p, rfl, hp⟩ := h
    obtain ⟨q, rfl, hq⟩ := h'
    exact Lk.pair hp hq rfl rfl
  | sheet x =>
    obtain ⟨p, rfl, u, z, h1, h2, h3⟩ := h
    obtain ⟨q, rfl, u', z', h1', h2', h3'⟩ := h'
    exact Lk.tups h1 h1' (by simp) (.cons (Lk.pair h2 h2' rfl rfl) (.cons (Lk.pair h3 h3' rfl rfl) .nil))
theorem lk_items {H : Hp} {n : Nat} : ∀ {vs vs' : List V} {ts : List Itm}, Paired (ItAt H) vs ts → Paired (ItAt H) vs' ts → LkAll H (n + 2) vs vs'
  | _, _, _, .nil, .nil => .nil
  | _, _, _, .cons a r, .cons a' r' => .cons (lk_item a a') (lk_items r r')
theorem lk_step {H : Hp} {n : Nat} {p q : Addr} {ts : List Itm} (h : StepAt H p ts) (h' : StepAt H q ts) (ln : ts.length ≤ 10) : Lk H (n + 3) (.ref p) (.ref q) := by
  obtain ⟨vs, g, r⟩ := h
  obtain ⟨vs', g', r'⟩ := h'
  exact Lk.tups g g' (by rw [Paired.length r]; omega) (lk_items r r')
theorem lk_rows {H : Hp} {n : Nat} : ∀ {as as' : List Addr} {ss : List (List Itm)}, Paired (StepAt H) as ss → Paired (StepAt H) as' ss → (∀ t ∈ ss, t.length ≤ 10) → LkAll H (n + 3) (as.map V.ref) (as'.map V.ref)
  | _, _, _, .nil, .nil, _ => .nil
  | _, _, _, .cons a r, .cons a' r', ln => .cons (lk_step a a' (ln _ List.mem_cons_self)) (lk_rows r r' fun t ht => ln t (List.mem_cons_of_mem _ ht))
theorem lk_steps {H : Hp} {n : Nat} {l m : Addr} {ss : List (List Itm)} (h : StepsL H l ss) (h' : StepsL H m ss) (ln : ∀ t ∈ ss, t.length ≤ 10) (six : ss.length ≤ 6) : Lk H (n + 4) (.ref l) (.ref m) := by
  obtain ⟨as, g, r⟩ := h
  obtain ⟨as', g', r'⟩ := h'
  exact Lk.lists g g' (by rw [List.length_map, Paired.length r]; omega) (lk_rows r r' ln)
theorem eqv_len : ∀ {xs ys : List PyData}, PyData.eqvAll xs ys = true → xs.length = ys.length
  | [], [], _ => rfl
  | [], _ :: _, h => by simp [PyData.eqvAll] at h
  | _ :: _, [], h => by simp [PyData.eqvAll] at h
  | x :: xs, y :: ys, h => by
    simp only [PyData.eqvAll, Bool.and_eq_true] at h
    rw [List.length_cons, List.length_cons, eqv_len h.2]
theorem lists_drop (ss : List (List Itm)) : PyData.eqv (listsD ss) (listsD (ss.drop 1)) = ss.isEmpty := by
  cases ss with
  | nil => simp [listsD, PyData.eqv, PyData.eqvAll]
  | cons t ts =>
    rw [List.isEmpty_cons, Bool.eq_false_iff]
    intro h
    simp only [listsD, PyData.eqv] at h
    have := eqv_len h
    simp at this
theorem lists_nil (ss : List (List Itm)) : PyData.eqv (listsD ss) (.list []) = ss.isEmpty := by
  cases ss with
  | nil => simp [listsD, PyData.eqv, PyData.eqvAll]
  | cons t ts => simp [listsD, PyData.eqv, PyData.eqvAll]
theorem cut_one (as : List Addr) : cutV (as.map V.ref) (some 1) none = (as.drop 1).map V.ref := by
  unfold cutV
  rw [show (some (1 : Int)) = some ((1 : Nat) : Int) from rfl, HT.sIx_nat, HT.sIx_none]
  cases as with
  | nil => rfl
  | cons x xs =>
    have h : min 1 ((x :: xs).map V.ref).length = 1 := by
      rw [List.map_cons, List.length_cons]
      omega
    rw [h, ← List.map_drop, ← List.map_take]
    congr 1
    exact List.take_of_length_le (by simp)
theorem allow_true {t : List Itm} {tu : Bool} (h : allowB tu t = true) : allowB true t = true := by
  unfold allowB at h ⊢
  rw [Bool.and_eq_true] at h
  rw [h.1]
  rfl
/-- where the law stands behind the draw of its steps -/
structure Drawn (H : Hp) (b sb P0 L : Addr) (ss : List (List Itm)) : Prop where
  bag : Bag H b sb
  tabs : LamX.Tabs [(P0, qn)] H
  st : StepsL H L ss
  ln : ∀ t ∈ ss, t.length ≤ 10
  six : ss.length ≤ 6
theorem Drawn.same {H H' : Hp} {b sb P0 L : Addr} {ss : List (List Itm)} (h : Drawn H b sb P0 L ss) (s : Same H H') : Drawn H' b sb P0 L ss := ⟨h.bag.same s, h.tabs.ext s, h.st.same s, h.ln, h.six⟩
/-- what was found -/
inductive Found (C : Addr) (H : Hp) (t lh : Addr) (ss : List (List Itm)) (tu : Bool) : Prop
  | told {x l : Addr} (h : H t = some (.tup [.str "told", .ref x])) (r : RecAt C H x l ss tu) (ne : l ≠ lh) (ok : ∀ t ∈ ss, allowB tu t = true) : Found C H t lh ss tu
  | bad {i : Nat} (h : H t = some (.tup [.str "BadStep", .int (i : Int)])) (f : FirstNo (allowB tu) ss i) : Found C H t lh ss tu
theorem ok_law {f c P0 : Addr} {oc kV doc pm ct : Value} {od an : Option Addr} {osl : Array (Option Value)} (lk : K.lookup f = some ⟨oc, od, .func (PySem.W.fnOf "law" "law" (defArgs s_law) (defBody s_law) (defScope s_law) .none kV doc pm an (.ref c) ct), osl⟩) (hcd : PySem.W.codeIn K (.ref c) "law" = true)
    (TB : LamX.TabB base mg c P0) (T : Txt K mg) (D : Shps K w T.u_SHAPES) : FnOk PySem.Challenge.pw_grainyard_k24_recipes_as_lists w K mg base CX0 18 f (PySem.W.fnOf "law" "law" (defArgs s_law) (defBody s_law) (defScope s_law) .none kV doc pm an (.ref c) ct) ["_law_script"] (spLaw K P0) := by
  refine fn_of lk hcd sc_law (fun vs H Q E h => ?_) (fun A outer s H vs Q E hr h => ?_)
  · obtain ⟨a, ns, rfl, _⟩ := h
    rfl
  · obtain ⟨a, ns, rfl, hS, hlen, hP, q⟩ := h
    refine ⟨_, PSs.nox (pss_cons (ps_set (i := 1) sc_law.nd rfl (Or.inr rfl) (pe_call (ok_source T) (hr.mono (by decide)) (by rfl) T.g_source T.F_source.kp T.b_source .nil pass0 (pa_cons (pv 0) pa_nil)))
      (Evl.pss_cut (ps_for PassesOwn.never rfl (pi_range1 (by rfl) T.n_range (pa_cons pe_int pa_nil)) (pg_name (i := 2) sc_law.nd rfl (Or.inl rfl)) (pss_cons (ps_asg (pe_tup (pa_cons (pe_call (ok_a_root T) (hr.mono (by decide)) (by rfl) T.g_a_root T.F_a_root.kp T.b_a_root .nil pass0 (pa_cons (pv 1) pa_nil)) (pa_cons (pe_cmpR op_eq (pe_call (ok_pull T) (hr.mono (by decide)) (by rfl) T.g_pull T.F_pull.kp T.b_pull .nil pass0 (pa_cons (pv 1) (pa_cons pe_int pa_nil))) pe_int (nomark _)) (pa_cons (pe_lst pa_nil) pa_nil)))) (pg_tup (by rfl) (pgs_cons (pg_name (i := 11) sc_law.nd rfl (Or.inl rfl)) (pgs_cons (pg_name (i := 12) sc_law.nd rfl (Or.inr rfl)) (pgs_cons (pg_name (i := 13) sc_law.nd rfl (Or.inr rfl)) pgs_nil)))))
      (Evl.pss_cut (ps_for PassesOwn.never rfl (pi_range1 (by rfl) T.n_range (pa_cons (pe_call (ok_pull T) (hr.mono (by decide)) (by rfl) T.g_pull T.F_pull.kp T.b_pull .nil pass0 (pa_cons (pv 1) (pa_cons pe_int pa_nil))) pa_nil)) (pg_name (i := 4) sc_law.nd rfl (Or.inl rfl)) (pss_cons (ps_set (i := 14) sc_law.nd rfl (Or.inl rfl) (pe_call (ok_any_step T) (hr.mono (by decide)) (by rfl) T.g_any_step T.F_any_step.kp T.b_any_step .nil pass0 (pa_cons (pv 1) (pa_cons (pv 11) pa_nil))))
      (pss_one (ps_expr (pe_bm PySem.F.plainAttrs_list PySem.F.slot_list_append PySem.F.type_list_append mt_append (pv 13) (pa_cons (pe_ifExp (pt_cmpR op_eq (pe_call (ok_pull T) (hr.mono (by decide)) (by rfl) T.g_pull T.F_pull.kp T.b_pull .nil pass0 (pa_cons (pv 1) (pa_cons pe_int pa_nil))) pe_int (nomark _)) (pe_call (ok_odd_step T) (hr.mono (by decide)) (by rfl) T.g_odd_step T.F_odd_step.kp T.b_odd_step .nil pass0 (pa_cons (pv 1) (pa_cons (pv 14) pa_nil))) (pv 14)) pa_nil))))))
      (pss_cons (ps_setLc (i := 5) (own := [("_law_k", 4)]) (g := (gName 4)) (tt := tOr (tNot (tB (tCall (spStep stepB) [] E0 (tCons (tOp (rIxL K) (tVar 13) (tVar 4)) tNil)))) (tAnd (tTest (tOp rEq (tOp (rIxT K) (tOp (rIxL K) (tVar 13) (tVar 4)) (tC (.int 0))) (tC (.str "turn")))) (tNot (tB (tVar 12))))) (by rfl) sc_law.nd rfl rfl (sw_true rfl rfl rfl (by decide +kernel)) (pi_range1 (by rfl) T.n_range (pa_cons (pe_callB call_len_seq (by rfl) T.n_len (by decide +kernel) (pa_cons (pv 13) pa_nil)) pa_nil)) (blkOk_by (own := [("_law_k", 4)]) (N := ["_law_script", "_law_bag", "_law_turn", "_law_blank", "_law_k", "_law_bad", "_law_handed", "_law_found", "_law_recipe", "_law_due", "_law_same", "_law_root", "_law_spins", "_law_steps", "_law_step"]) (sc := defScope s_law) (by decide +kernel)) (fun _ _ _ _ _ => (pg_name (i := 4) sc_law.nd rfl (Or.inl rfl))) (fun _ _ _ _ _ => (pts_one (PW.pt (pw_or (pt_not (pt_val (pe_call (ok_good_step T) (hr.mono (by decide)) (by rfl) T.g_good_step T.F_good_step.kp T.b_good_step .nil pass0 (pa_cons (pe_ix ix_list (pv 13) (pv 4) (fun _ _ => rfl)) pa_nil)))) (pw_or1 (PW.pt (pw_and (pt_cmpR op_eq (pe_ix ix_tup (pe_ix ix_list (pv 13) (pv 4) (fun _ _ => rfl)) pe_int (fun _ _ => rfl)) pe_str (nomark _)) (pw_and1 (pt_not (pt_val (pv 12))))))))))) (fun _ _ _ _ _ => (pv 4)))
      (pss_cons (ps_set (i := 6) sc_law.nd rfl (Or.inr rfl) (pe_callTy call_list_of (by rfl) T.n_list (by decide +kernel) (pa_cons (pv 13) pa_nil)))
      (Evl.pss_cut (ps_set (i := 7) sc_law.nd rfl (Or.inl rfl) (pe_try (t := fun E => tMk24 T E) (k := 13) T (by rfl) TB rfl (hr.mono (by decide)) (LamX.lamS_by (sc := defScope s_law) (by decide +kernel)) rfl (fun _ _ _ _ _ => rfl) (fun A outer s H E f c' hr2 => (PE.to (pe_makeK T.M_Recipe (ok_Recipe_init (w := w) T D) (hr2.mono (by decide)) (by rfl) T.g_Recipe T.kb_Recipe_init_turning (passes_call (takes_of rfl rfl rfl rfl) (fun _ _ _ _ h => h)) (pa_cons (pe_call (ok_of (w := w) T) (hr2.mono (by decide)) (by rfl) T.g_of T.F_of.kp T.b_of .nil pass0 (pa_cons (pv 1) (pa_cons (pe_lst (pa_cons (pv 6) (pa_cons (pe_callTy call_tuple_of (by rfl) T.n_tuple (by decide +kernel) (pa_cons (pv 6) pa_nil)) pa_nil))) pa_nil))) pa_nil) (pk_cons (pv 12) pk_nil)) rfl))))
      (Evl.pss_cut (ps_if (pt_cmpR (op_neD hr.units) (pv 5) (pe_lst pa_nil) (nomark _)) (pss_cons (ps_if (pt_cmpR (op_neD hr.units) (pv 7) (pe_tup (pa_cons pe_str (pa_cons (pe_ix ix_list (pv 5) pe_int (fun _ _ => rfl)) pa_nil))) (nomark _)) (pss_one (ps_ret pe_bl)) pss_nil)
      (pss_cons (ps_set (i := 13) sc_law.nd rfl (Or.inr rfl) (pe_lc (own := [("_law_step", 14)]) (g := (gName 14)) (tt := tAnd (tB (tCall (spStep stepB) [] E0 (tCons (tVar 14) tNil))) (tTest (tOp rNe (tOp (rIxT K) (tVar 14) (tC (.int 0))) (tC (.str "turn"))))) (by rfl) sc_law.nd (pi_list (pv 13)) (blkOk_by (own := [("_law_step", 14)]) (N := ["_law_script", "_law_bag", "_law_turn", "_law_blank", "_law_k", "_law_bad", "_law_handed", "_law_found", "_law_recipe", "_law_due", "_law_same", "_law_root", "_law_spins", "_law_steps", "_law_step"]) (sc := defScope s_law) (by decide +kernel)) (fun _ _ _ _ _ => (pg_name (i := 14) sc_law.nd rfl (Or.inl rfl))) (fun _ _ _ _ _ => (pts_one (PW.pt (pw_and (pt_val (pe_call (ok_good_step T) (hr.mono (by decide)) (by rfl) T.g_good_step T.F_good_step.kp T.b_good_step .nil pass0 (pa_cons (pv 14) pa_nil))) (pw_and1 (pt_cmpR op_ne (pe_ix ix_tup (pv 14) pe_int (fun _ _ => rfl)) pe_str (nomark _))))))) (fun _ _ _ _ _ => (pv 14))))
      (pss_one (ps_set (i := 7) sc_law.nd rfl (Or.inl rfl) (pe_tup (pa_cons pe_str (pa_cons (pe_makeK T.M_Recipe (ok_Recipe_init (w := w) T D) (hr.mono (by decide)) (by rfl) T.g_Recipe T.kb_Recipe_init_turning pass_never (pa_cons (pv 13) pa_nil) (pk_cons (pv 12) pk_nil)) pa_nil))))))) pss_nil)
      (pss_cons (ps_set (i := 8) sc_law.nd rfl (Or.inl rfl) (pe_ix ix_tup (pv 7) pe_int (fun _ _ => rfl)))
      (pss_cons (ps_expr (pe_bm0 PySem.F.plainAttrs_list PySem.F.slot_list_clear PySem.F.type_list_clear mt_clear (pv 6)))
      (pss_cons (ps_expr (pe_bm0 PySem.F.plainAttrs_list PySem.F.slot_list_clear PySem.F.type_list_clear mt_clear (pe_meth0 (pv 8) T.cl_Recipe T.m_Recipe_steps (ok_Recipe_steps T) (hr.mono (by decide)) T.b_Recipe_steps .nil pass0)))
      (pss_cons (ps_set (i := 9) sc_law.nd rfl (Or.inl rfl) (pe_lst (pa_cons (pv 13) (pa_cons (pe_callB call_len_seq (by rfl) T.n_len (by decide +kernel) (pa_cons (pv 13) pa_nil)) (pa_cons (pe_op op_add_str (pe_op op_add_str pe_str (pe_callTy call_str_int (by rfl) T.n_str (by decide +kernel) (pa_cons (pe_callB call_len_seq (by rfl) T.n_len (by decide +kernel) (pa_cons (pv 13) pa_nil)) pa_nil))) pe_str) (pa_cons (pv 12) pa_nil))))))
      (pss_cons (ps_if (pt_not (pt_val (pe_call (ok_like T) (hr.mono (by decide)) (by rfl) T.g_like T.F_like.kp T.b_like .nil pass0 (pa_cons (pe_lst (pa_cons (pe_meth0 (pv 8) T.cl_Recipe T.m_Recipe_steps (ok_Recipe_steps T) (hr.mono (by decide)) T.b_Recipe_steps .nil pass0) (pa_cons (pe_callB (call_lenO T.m_Recipe_len (ok_Recipe_len T) (hr.mono (by decide)) T.b_Recipe_len pass0) (by rfl) T.n_len (by decide +kernel) (pa_cons (pv 8) pa_nil)) (pa_cons (pe_callB (call_reprO T.m_Recipe_repr (ok_Recipe_repr T) (hr.mono (by decide)) T.b_Recipe_repr pass0) (by rfl) T.n_repr (by decide +kernel) (pa_cons (pv 8) pa_nil)) (pa_cons (pe_prop (pv 8) T.cl_Recipe T.pr_Recipe_turning (ok_Recipe_turning T) (hr.mono (by decide)) T.b_Recipe_turning .nil pass0 rfl) pa_nil))))) (pa_cons (pv 9) pa_nil))))) (pss_one (ps_ret pe_bl)) pss_nil)
      (pss_cons (ps_set (i := 10) sc_law.nd rfl (Or.inl rfl) (pe_lst (pa_cons (pe_cmpR (op_eqO2 T.m_Recipe_eq (ok_Recipe_eq T) (hr.mono (by decide)) T.b_Recipe_eq pass0) (pv 8) (pe_makeK T.M_Recipe (ok_Recipe_init (w := w) T D) (hr.mono (by decide)) (by rfl) T.g_Recipe T.kb_Recipe_init_turning pass_never (pa_cons (pv 13) pa_nil) (pk_cons (pv 12) pk_nil)) (nomark _)) (pa_cons (pe_cmpR (op_eqO2 T.m_Recipe_eq (ok_Recipe_eq T) (hr.mono (by decide)) T.b_Recipe_eq pass0) (pv 8) (pe_makeK T.M_Recipe (ok_Recipe_init (w := w) T D) (hr.mono (by decide)) (by rfl) T.g_Recipe T.kb_Recipe_init_turning pass_never (pa_cons (pv 13) pa_nil) (pk_cons pe_bl pk_nil)) (nomark _)) (pa_cons (pe_cmpR (op_eqOL T.m_Recipe_eq T.nl_Recipe (ok_Recipe_eq T) (hr.mono (by decide)) T.b_Recipe_eq pass0) (pv 8) (pv 13) (nomark _)) pa_nil)))))
      (pss_one (ps_if (pt_not (pt_val (pe_call (ok_like T) (hr.mono (by decide)) (by rfl) T.g_like T.F_like.kp T.b_like .nil pass0 (pa_cons (pe_op op_cat (pv 10) (pe_lst (pa_cons (pe_cmpR (op_neO2 T.m_Recipe_eq T.mo_Recipe T.ne_Recipe (ok_Recipe_eq T) (hr.mono (by decide)) T.b_Recipe_eq pass0) (pv 8) (pe_makeK T.M_Recipe (ok_Recipe_init (w := w) T D) (hr.mono (by decide)) (by rfl) T.g_Recipe T.kb_Recipe_init_turning pass_never (pa_cons (pe_slice sl_list (pv 13) (po_some pe_int) po_none) pa_nil) (pk_cons (pv 12) pk_nil)) (nomark _)) pa_nil))) (pa_cons (pe_lst (pa_cons pe_bl (pa_cons (pv 12) (pa_cons pe_bl (pa_cons (pe_cmpR (op_neD hr.units) (pv 13) (pe_lst pa_nil) (nomark _)) pa_nil))))) pa_nil))))) (pss_one (ps_ret pe_bl)) pss_nil)))))))))))))))
      (pss_cons (ps_set (i := 3) sc_law.nd rfl (Or.inl rfl) (pe_make0 T.M_Recipe (ok_Recipe_init (w := w) T D) (hr.mono (by decide)) (by rfl) T.g_Recipe T.b0_Recipe_init T.v0_Recipe_init pass_never))
      (pss_one (ps_ret (pe_and (pe_cmpR (op_eqD hr.units) (pe_meth0 (pv 3) T.cl_Recipe T.m_Recipe_steps (ok_Recipe_steps T) (hr.mono (by decide)) T.b_Recipe_steps .nil pass0) (pe_lst pa_nil) (nomark _)) (pe_and (pe_cmpR (op_eqO2 T.m_Recipe_eq (ok_Recipe_eq T) (hr.mono (by decide)) T.b_Recipe_eq pass0) (pv 3) (pe_make T.M_Recipe (ok_Recipe_init (w := w) T D) (hr.mono (by decide)) (by rfl) T.g_Recipe T.b_Recipe_init T.v1_Recipe_init pass_never (pa_cons (pe_lst pa_nil) pa_nil)) (nomark _)) (pe_and (pe_cmpR op_isBl (pe_prop (pv 3) T.cl_Recipe T.pr_Recipe_turning (ok_Recipe_turning T) (hr.mono (by decide)) T.b_Recipe_turning .nil pass0 rfl) pe_bl (nomark _)) (pe_one (pe_cmpR op_eq (pe_callB (call_reprO T.m_Recipe_repr (ok_Recipe_repr T) (hr.mono (by decide)) T.b_Recipe_repr pass0) (by rfl) T.n_repr (by decide +kernel) (pa_cons (pv 3) pa_nil)) pe_str (nomark _))))))))))), ?_⟩
    refine ⟨_, rfl, a, ns, rfl, hS, hlen, fun b sb H1 nb s1 B1 => ?_⟩
    have tb1 : LamX.Tabs [(P0, qn)] H1 := fun p hp => by
      rw [List.mem_singleton.mp hp]
      exact LamX.TabS.nil (s1 _ _ hP)
    refine ⟨fun σ H' => ∃ y0 y1 y2 y3 y4 y5 y6 y7 y8 y9 y10 y11 y12 y13 y14, σ = [y0, y1, y2, y3, y4, y5, y6, y7, y8, y9, y10, y11, y12, y13, y14], ?_, ?_⟩
    · refine ⟨5, rfl, by decide, by decide, for_range (lo := 0) (n := 5) (fun i σ H' => (∃ y2 y3 y4 y5 y6 y7 y8 y9 y10 y11 y12 y13 y14, σ = [some (.ref a), some (.ref b), y2, y3, y4, y5, y6, y7, y8, y9, y10, y11, y12, y13, y14]) ∧ Bag H' b sb ∧ LamX.Tabs [(P0, qn)] H') ⟨⟨none, none, none, none, none, none, none, none, none, none, none, none, none, rfl⟩, B1, tb1⟩ ?_ ?_⟩
      · rintro i σ H2 hi ⟨⟨y2, y3, y4, y5, y6, y7, y8, y9, y10, y11, y12, y13, y14, rfl⟩, B2, tb2⟩
        refine ⟨_, rfl, b, sb, rfl, B2, fun d H3 hd B3 k3 => ⟨_, rfl, b, sb, 2, rfl, B3, by decide, by decide, fun z H3' z0 z2 B3' k3' => ⟨rfl, by show 0 ≤ sizeLine; decide, fun L nL => ⟨by show 3 ≤ sizeLine; decide, fun tp ntp => ?_⟩⟩⟩⟩
        generalize decide (V.int z = V.int 0) = tu at ntp ⊢
        refine ⟨tp, _, rfl, SqT.of upd_same, rfl, .int d, _, rfl, .bl tu, _, rfl, .ref L, _, rfl, rfl, ?_⟩
        have e3 := same_new (o := .lst []) nL
        have e4 := same_new (o := .tup [.int d, .bl tu, .ref L]) ntp
        have e34 := e3.trans e4
        have hL4 : StepsL (upd (upd H3' L (.lst [])) tp (.tup [.int d, .bl tu, .ref L])) L [] := ⟨[], e4 _ _ upd_same, .nil⟩
        have B4 := B3'.same e34
        have nLb := B3'.ne nL
        have nLs := B3'.ne2 nL
        have tb4 : LamX.Tabs [(P0, qn)] (upd (upd H3' L (.lst [])) tp (.tup [.int d, .bl tu, .ref L])) := (tabs_keep (tabs_keep tb2 B2 k3) B3 k3').ext e34
        generalize upd (upd H3' L (.lst [])) tp (.tup [.int d, .bl tu, .ref L]) = H4 at hL4 B4 tb4 ⊢
        clear e3 e4 e34 ntp nL
        refine ⟨fun σ H' => ∃ y4 y14 ss, σ = [some (.ref a), some (.ref b), some (.int (0 + (i : Int))), y3, y4, y5, y6, y7, y8, y9, y10, some (.int d), some (.bl tu), some (.ref L), y14] ∧ Drawn H' b sb P0 L ss, ?_, ?_⟩
        · refine ⟨_, rfl, b, sb, 7, rfl, B4, by decide, by decide, fun n H5 n0 n6 B5 k5 => ?_⟩
          obtain ⟨m, rfl⟩ := Int.eq_ofNat_of_zero_le n0
          have hL5 := hL4.keep B4 nLb k5
          have tb5 := tabs_keep tb4 B4 k5
          refine ⟨(m : Int), rfl, by omega, by omega, for_range (lo := 0) (n := m) (fun j σ H' => ∃ y4 y14 ss, σ = [some (.ref a), some (.ref b), some (.int (0 + (i : Int))), y3, y4, y5, y6, y7, y8, y9, y10, some (.int d), some (.bl tu), some (.ref L), y14] ∧ StepsL H' L ss ∧ (∀ t ∈ ss, t.length ≤ 10) ∧ ss.length ≤ j ∧ Bag H' b sb ∧ LamX.Tabs [(P0, qn)] H') ⟨_, _, [], rfl, hL5, (fun t ht => by cases ht), Nat.zero_le _, B5, tb5⟩ ?_ ?_⟩
          · rintro j σ H6 hj ⟨z4, z14, ss, rfl, hL6, ln6, lj, B6, tb6⟩
            refine ⟨_, rfl, _, rfl, b, sb, d, rfl, B6, hd, fun p ts H7 l0 l5 hS7 B7 k7 => ?_⟩
            have hL7 := hL6.keep B6 nLb k7
            have tb7 := tabs_keep tb6 B6 k7
            obtain ⟨as7, g7, _⟩ := id hL7
            refine ⟨_, rfl, .inl ⟨rfl, _, SqL.of g7⟩, ?_⟩
            refine ⟨_, rfl, b, sb, 6, rfl, B7, by decide, by decide, fun z H8 z0 z2 B8 k8 => ⟨rfl, ?_⟩⟩
            have fin : ∀ (H9 : Hp) (p' : Addr) (ts' : List Itm), ts'.length ≤ 10 → StepAt H9 p' ts' → Bag H9 b sb → Keep b H7 H9 → ∃ as9 : List Addr, H9 L = some (.lst (as9.map V.ref)) ∧ (as9.map V.ref).length < sizeLine ∧ StepsL (upd H9 L (.lst (as9.map V.ref ++ [.ref p']))) L (ss ++ [ts']) ∧ Bag (upd H9 L (.lst (as9.map V.ref ++ [.ref p']))) b sb ∧ LamX.Tabs [(P0, qn)] (upd H9 L (.lst (as9.map V.ref ++ [.ref p']))) := by
              intro H9 p' ts' l' hS9 B9 k9
              obtain ⟨as9, g9, r9⟩ := hL7.keep B7 nLb k9
              refine ⟨as9, g9, ?_, StepsL.put g9 r9 hS9, B9.put nLb nLs, tabs_put (tabs_keep tb7 B7 k9) g9⟩
              rw [List.length_map, Paired.length r9]
              exact small1000 (by omega)
            have ln' : ∀ ts' : List Itm, ts'.length ≤ 10 → ∀ t ∈ ss ++ [ts'], t.length ≤ 10 := fun ts' l' t ht => by
              rcases List.mem_append.mp ht with h | h
              · exact ln6 t h
              · rw [List.mem_singleton.mp h]
                exact l'
            by_cases zz : z = 0
            · refine ⟨true, congrArg V.bl (by rw [dV', decide_eq_true zz]), iteT ?_⟩
              refine ⟨_, rfl, _, rfl, b, sb, p, ts, rfl, B8, hS7.mono (tup_keep B7 k8), l0, l5, fun p' ts' H9 l' hS9 B9 k9 => ?_⟩
              obtain ⟨as9, g9, sz, f1, f2, f3⟩ := fin H9 p' ts' l' hS9 B9 (k8.trans k9)
              exact ⟨L, _, .ref p', rfl, rfl, g9, sz, _, _, ss ++ [ts'], rfl, f1, ln' ts' l', by rw [List.length_append, List.length_singleton]; omega, f2, f3⟩
            · refine ⟨false, congrArg V.bl (by rw [dV', decide_eq_false zz]), iteF ?_⟩
              obtain ⟨as9, g9, sz, f1, f2, f3⟩ := fin H8 p ts (by omega) (hS7.mono (tup_keep B7 k8)) B8 k8
              exact ⟨_, rfl, L, _, .ref p, rfl, rfl, g9, sz, _, _, ss ++ [ts], rfl, f1, ln' ts (by omega), by rw [List.length_append, List.length_singleton]; omega, f2, f3⟩
          · rintro σ H6 ⟨z4, z14, ss, rfl, hL6, ln6, lj, B6, tb6⟩
            exact ⟨z4, z14, ss, rfl, B6, tb6, hL6, ln6, by omega⟩
        rintro σ H6 ⟨z4, z14, ss, rfl, dr6⟩
        obtain ⟨as, hl, hP⟩ := id dr6.st
        have hlen' : (as.map V.ref).length = ss.length := by rw [List.length_map, Paired.length hP]
        have six := dr6.six
        refine ⟨_, rfl, L, _, rfl, .inl (SqL.of hl), (ss.length : Int), by rw [hlen'], by omega, by omega, fun D5 nD5 => ?_⟩
        refine lc_range (lo := 0) (n := ss.length) (fun j H' => Same H6 H' ∧ H' D5 = some (.lst ((nosTo (allowB tu) ss j).map V.int))) ⟨same_new nD5, upd_same⟩ ?_ ?_
        · rintro j H7 hj ⟨s7, h7⟩
          have hj' : j < ss.length := by omega
          have hja : j < as.length := by rw [Paired.length hP]; exact hj'
          obtain ⟨p, t, e1, ht, hS⟩ := step_row hP (v := .ref as[j]) (by rw [List.getElem?_map, List.getElem?_eq_getElem hja]; rfl)
          cases e1
          have bt : nosTo (allowB tu) ss (j + 1) = if allowB tu t = true then nosTo (allowB tu) ss j else nosTo (allowB tu) ss j ++ [(j : Int)] := by
            show (if allowB tu (ss.getD j []) = true then _ else _) = _
            rw [List.getD_eq_getElem?_getD, ht]
            rfl
          have lt := dr6.ln t (List.mem_of_getElem? ht)
          have atj : atI (as.map V.ref) (j : Int) = some (.ref as[j]) := atI_nat (j := j) (by rw [List.getElem?_map, List.getElem?_eq_getElem hja]; rfl)
          refine ⟨rfl, _, rfl, _, rfl, L, _, (j : Int), .ref as[j], rfl, by rw [Int.zero_add], SqL.of (s7 _ _ hl), atj, as[j], t, rfl, hS.same s7, lt, fun Ha sa => ⟨stepB t, rfl, ?_⟩⟩
          have ha := sa _ _ h7
          have s7a := s7.trans sa
          have yes : allowB tu t = false → ∃ acc, Ha D5 = some (.lst acc) ∧ acc.length < sizeLine ∧ Same H6 (upd Ha D5 (.lst (acc ++ [.int (0 + (j : Int))]))) ∧ upd Ha D5 (.lst (acc ++ [.int (0 + (j : Int))])) D5 = some (.lst ((nosTo (allowB tu) ss (j + 1)).map V.int)) := by
            intro z
            rw [z, if_neg (by decide)] at bt
            refine ⟨_, ha, ?_, fun a o zz => (upd_ne (ne_of_none zz nD5)).trans (s7a _ _ zz), ?_⟩
            · rw [List.length_map]
              exact small1000 (by have := nos_len (allowB tu) ss j; omega)
            · rw [upd_same, bt, List.map_append, Int.zero_add]
              rfl
          have no : allowB tu t = true → Same H6 Ha ∧ Ha D5 = some (.lst ((nosTo (allowB tu) ss (j + 1)).map V.int)) := by
            intro z
            rw [z, if_pos rfl] at bt
            exact ⟨s7a, by rw [bt]; exact ha⟩
          cases z : stepB t with
          | false => exact iteT (iteT ⟨_, rfl, yes (by unfold allowB; rw [z, Bool.false_and])⟩)
          | true =>
            obtain ⟨wd, r, rfl⟩ := step_word z
            obtain ⟨vs, hp, hts⟩ := hS.same s7a
            match vs, hts with
            | v :: vs', .cons ⟨e, _⟩ _ =>
              subst e
              refine iteF ⟨_, rfl, _, rfl, L, _, (j : Int), .ref as[j], rfl, by rw [Int.zero_add], SqL.of (s7a _ _ hl), atj, as[j], _, 0, .str wd, rfl, rfl, SqT.of hp, atI_nat (j := 0) rfl, rfl, decide (wd = "turn"), congrArg V.bl dS, ?_⟩
              have al : allowB tu (.str wd :: r) = (tu || !decide (wd = "turn")) := by
                unfold allowB
                rw [z, Bool.true_and]
                rfl
              by_cases zw : wd = "turn"
              · rw [decide_eq_true zw] at al ⊢
                refine iteT ⟨_, rfl, tu, rfl, ?_⟩
                cases tu with
                | true => exact iteF (no al)
                | false => exact iteT ⟨_, rfl, yes al⟩
              · rw [decide_eq_false zw] at al ⊢
                exact iteF (iteF (no (by rw [al]; cases tu <;> rfl)))
        rintro H7 ⟨s7, h7⟩
        have dr7 := dr6.same s7
        clear hl hP hlen'
        obtain ⟨as, hl, hP⟩ := id dr7.st
        refine ⟨_, rfl, L, _, rfl, .inl (SqL.of hl), fun lh nlh => ?_⟩
        have e8 := same_new (o := .lst (as.map V.ref)) nlh
        have hH8 : StepsL (upd H7 lh (.lst (as.map V.ref))) lh ss := ⟨as, upd_same, steps_mono (fun p xs z => e8 _ _ z) hP⟩
        have dr8 := dr7.same e8
        have h8 := e8 _ _ h7
        have nhb := dr7.bag.ne nlh
        have nhs := dr7.bag.ne2 nlh
        have nLh : L ≠ lh := fun z => by rw [z, nlh] at hl; cases hl
        generalize upd H7 lh (.lst (as.map V.ref)) = H8 at hH8 dr8 h8 ⊢
        have nDb := dr6.bag.ne nD5
        clear hl hP e8 nlh dr7 h7 s7 nD5 dr6
        refine ⟨fun σ H' => ∃ t8, σ = [some (.ref a), some (.ref b), some (.int (0 + (i : Int))), y3, z4, some (.ref D5), some (.ref lh), some (.ref t8), y8, y9, y10, some (.int d), some (.bl tu), some (.ref L), z14] ∧ Drawn H' b sb P0 L ss ∧ StepsL H' lh ss ∧ H' D5 = some (.lst ((nosTo (allowB tu) ss ss.length).map V.int)) ∧ Found T.C_Recipe H' t8 lh ss tu, ?_, ?_⟩
        · refine ⟨dr8.tabs, fun Hg eg tbg => ?_⟩
          have drg : Drawn Hg b sb P0 L ss := ⟨dr8.bag.extN eg, tbg, dr8.st.extN eg, dr8.ln, dr8.six⟩
          have hHg := hH8.extN eg
          have hg := lst_extN h8 eg
          obtain ⟨asg, hlg, hPg⟩ := id hHg
          refine ⟨.ref b, rfl, .ref lh, rfl, .ref lh, rfl, lh, _, rfl, .inl ⟨SqL.of hlg, fun tq ntq => ⟨by show 2 ≤ sizeLine; decide, fun l2 nl2 => ?_⟩⟩⟩
          have et := same_new (o := .tup (asg.map V.ref)) ntq
          have el := same_new (o := .lst [.ref lh, .ref tq]) nl2
          have eg2 := et.trans el
          refine ⟨b, sb, l2, _, rfl, drg.bag.same eg2, upd_same, (drg.bag.same et).ne nl2, by simp, by simp, fun i0 v H' hv B' k' => ⟨.bl tu, rfl, rfl, rfl, ?_⟩⟩
          have kk : Keep b Hg H' := (keep_of eg2).trans k'
          have hLh' := hHg.keep drg.bag nhb kk
          have hh : HandedS K H' v ss := by
            match i0, hv with
            | 0, hv =>
              cases hv
              exact hLh'.handed
            | 1, hv =>
              cases hv
              exact .tup (SqT.of (tup_keep (drg.bag.same eg2) k' _ _ (el _ _ upd_same))) (steps_mono (tup_keep drg.bag kk) hPg)
            | n + 2, hv => simp at hv
          have dr' : Drawn H' b sb P0 L ss := ⟨B', tabs_keep drg.tabs drg.bag kk, drg.st.keep drg.bag nLb kk, drg.ln, drg.six⟩
          have hD' := kk _ _ nDb hg
          refine rec_tell (Q := ?Q) T ?hE ?hR hh dr8.ln ?good ?bad
          case hE => rfl
          case hR => rfl
          case good =>
            intro ok p x l H'' nl s'' hp hR
            refine ⟨p, rfl, dr'.same s'', hLh'.same s'', s'' _ _ hD', .told hp hR (fun z => ?_) ok⟩
            obtain ⟨_, g, _⟩ := hLh'
            rw [z, g] at nl
            cases nl
          case bad =>
            intro i1 fb p H'' s'' hp
            exact ⟨p, rfl, dr'.same s'', hLh'.same s'', s'' _ _ hD', .bad hp fb⟩
        rintro σ H9 ⟨t8, rfl, dr9, hH9, h9, fo⟩
        refine ⟨fun σ H' => ∃ t8 L' x l ss', σ = [some (.ref a), some (.ref b), some (.int (0 + (i : Int))), y3, z4, some (.ref D5), some (.ref lh), some (.ref t8), y8, y9, y10, some (.int d), some (.bl tu), some (.ref L'), z14] ∧ Drawn H' b sb P0 L' ss' ∧ (∃ zs, H' lh = some (.lst zs)) ∧ H' t8 = some (.tup [.str "told", .ref x]) ∧ RecAt T.C_Recipe H' x l ss' tu ∧ l ≠ lh ∧ L' ≠ lh ∧ (∀ t ∈ ss', allowB tu t = true), ?_, ?_⟩
        · refine ⟨_, rfl, by show 0 ≤ sizeLine; decide, fun l0 n0 => ?_⟩
          have e0 := same_new (o := .lst []) n0
          refine ⟨_, _, dints (e0 _ _ h9), dints (ns := []) upd_same, ints_shaped _, ints_shaped [], ?_⟩
          rw [ints_nil]
          have dr10 := dr9.same e0
          have h10 := e0 _ _ h9
          have hH10 := hH9.same e0
          obtain ⟨_, hlh, _⟩ := id hH10
          rcases nos_first (allowB tu) ss ss.length (Nat.le_refl _) with ⟨bz, good⟩ | ⟨i0, r, bz, _, fn⟩
          · rw [bz]
            refine ⟨false, rfl, iteF ?_⟩
            cases fo with
            | told h r ne ok => exact ⟨t8, L, _, _, ss, rfl, dr10, ⟨_, hlh⟩, e0 _ _ h, r.same e0, ne, nLh, ok⟩
            | bad h f =>
              obtain ⟨⟨t, ht, ft⟩, _⟩ := f
              rw [good _ t (List.getElem?_eq_some_iff.mp ht).1 ht] at ft
              cases ft
          · rw [bz] at h10 ⊢
            refine ⟨true, rfl, iteT ?_⟩
            cases fo with
            | told h r ne ok => exact (none_first ok fn).elim
            | @bad i1 h f =>
              cases first_one f fn
              refine ⟨_, rfl, _, rfl, D5, _, 0, .int (i0 : Int), rfl, rfl, SqL.of h10, atI_nat (j := 0) rfl, by show 2 ≤ sizeLine; decide, fun t9 n9 => ?_⟩
              have e9 := same_new (o := .tup [.str "BadStep", .int (i0 : Int)]) n9
              refine ⟨_, _, dbad (e9 _ _ (e0 _ _ h)), dbad upd_same, bad_shaped _, bad_shaped _, false, by rw [bad_same]; rfl, iteF ?_⟩
              have dr11 := dr10.same e9
              have hlh11 := e9 _ _ hlh
              generalize upd (upd H9 l0 (.lst [])) t9 (.tup [.str "BadStep", .int (i0 : Int)]) = H11 at dr11 hlh11 ⊢
              clear h10 hH10 hlh dr10 e9 e0
              obtain ⟨as, hl, hP⟩ := id dr11.st
              refine ⟨_, rfl, L, rfl, ⟨_, SqL.of hl⟩, fun D6 nD6 => lc_list (K := K) (a := L) (xs := as.map V.ref) (fun j G => Same H11 G ∧ ∃ as', G D6 = some (.lst (as'.map V.ref)) ∧ Paired (StepAt G) as' ((ss.take j).filter goodF)) ⟨same_new nD6, [], upd_same, .nil⟩ (fun j G _ z => SqL.of (z.1 _ _ hl)) ?_ ?_⟩
              · rintro j v G hv ⟨sG, as', hD, hP'⟩
                obtain ⟨p, t, rfl, ht, hS⟩ := step_row hP hv
                have lt := dr11.ln t (List.mem_of_getElem? ht)
                have hj := (List.getElem?_eq_some_iff.mp ht).1
                have six := dr11.six
                have fl := Paired.length hP'
                have fl2 : ((ss.take j).filter goodF).length ≤ 6 := Nat.le_trans (List.length_filter_le _ _) (by rw [List.length_take]; omega)
                refine ⟨rfl, _, rfl, p, t, rfl, hS.same sG, lt, fun Ha sa => ⟨stepB t, rfl, ?_⟩⟩
                have sGa := sG.trans sa
                have ha := sa _ _ hD
                have hPa := steps_mono (fun p xs z => sa _ _ z) hP'
                have yes : goodF t = true → ∃ acc, Ha D6 = some (.lst acc) ∧ acc.length < sizeLine ∧ Same H11 (upd Ha D6 (.lst (acc ++ [.ref p]))) ∧ ∃ as', upd Ha D6 (.lst (acc ++ [.ref p])) D6 = some (.lst (as'.map V.ref)) ∧ Paired (StepAt (upd Ha D6 (.lst (acc ++ [.ref p])))) as' ((ss.take (j + 1)).filter goodF) := by
                  intro z
                  refine ⟨_, ha, ?_, fun a o zz => (upd_ne (ne_of_none zz nD6)).trans (sGa _ _ zz), as' ++ [p], ?_, ?_⟩
                  · rw [List.length_map, fl]
                    exact small1000 (by omega)
                  · rw [upd_same, List.map_append]
                    rfl
                  · rw [filt_next ht, List.filter_cons_of_pos z, List.filter_nil]
                    exact paired_snoc (tup_put ha) hPa ((hS.same sGa).mono (tup_put ha))
                have no : goodF t = false → Same H11 Ha ∧ ∃ as', Ha D6 = some (.lst (as'.map V.ref)) ∧ Paired (StepAt Ha) as' ((ss.take (j + 1)).filter goodF) := by
                  intro z
                  refine ⟨sGa, as', ha, ?_⟩
                  rw [filt_next ht, List.filter_cons_of_neg (by rw [z]; decide), List.filter_nil, List.append_nil]
                  exact hPa
                cases z : stepB t with
                | false => exact iteF (iteF (no (by unfold goodF; rw [z, Bool.false_and])))
                | true =>
                  obtain ⟨wd, r, rfl⟩ := step_word z
                  obtain ⟨vs, hp, hts⟩ := hS.same sGa
                  match vs, hts with
                  | v :: vs', .cons ⟨e, _⟩ _ =>
                    subst e
                    have gd : goodF (.str wd :: r) = !decide (wd = "turn") := by
                      unfold goodF
                      rw [z, Bool.true_and]
                      rfl
                    refine iteT ⟨_, rfl, p, _, 0, .str wd, rfl, rfl, SqT.of hp, atI_nat (j := 0) rfl, rfl, !decide (wd = "turn"), congrArg (fun b => V.bl (!b)) dS, ?_⟩
                    by_cases zw : wd = "turn"
                    · rw [decide_eq_true zw] at gd ⊢
                      exact iteF (no gd)
                    · rw [decide_eq_false zw] at gd ⊢
                      exact iteT ⟨_, rfl, yes gd⟩
              rintro H12 ⟨s12, as', hD, hP'⟩
              rw [List.length_map, Paired.length hP, List.take_length] at hP'
              have ln' : ∀ t ∈ ss.filter goodF, t.length ≤ 10 := fun t ht => dr11.ln t (List.mem_filter.mp ht).1
              have ok' : ∀ t ∈ ss.filter goodF, allowB tu t = true := fun t ht => good_allow (List.mem_filter.mp ht).2
              have six' : (ss.filter goodF).length ≤ 6 := Nat.le_trans (List.length_filter_le _ _) dr11.six
              have hD' : StepsL H12 D6 (ss.filter goodF) := ⟨as', hD, hP'⟩
              refine ⟨_, rfl, _, rfl, rfl, rfl, mk_rec hD'.handed ln' ok' fun x l H13 nx nl s13 hR => ⟨by show 2 ≤ sizeLine; decide, fun t9 n9 => ?_⟩⟩
              have e9 := same_new (o := .tup [.str "told", .ref x]) n9
              have ss' := s13.trans e9
              have hlh12 := s12 _ _ hlh11
              refine ⟨t9, D6, x, l, ss.filter goodF, rfl, ⟨(dr11.bag.same s12).same ss', (dr11.tabs.ext s12).ext ss', hD'.same ss', ln', six'⟩, ⟨_, ss' _ _ hlh12⟩, upd_same, hR.same e9, fun z => ?_, fun z => ?_, ok'⟩
              · rw [z, hlh12] at nl
                cases nl
              · rw [z, hlh11] at nD6
                cases nD6
        rintro σ H10 ⟨t8, L', x, l, ss', rfl, dr10, ⟨zs, hlh⟩, ht8, hR, nl, nL', ok⟩
        clear fo h9 hH9 dr9 hH8 dr8 h8
        refine ⟨_, rfl, t8, _, 1, .ref x, rfl, rfl, SqT.of ht8, atI_nat (j := 1) rfl, ?_⟩
        refine ⟨_, rfl, .inl ⟨rfl, _, SqL.of hlh⟩, lh, zs, rfl, rfl, hlh, ?_⟩
        have hR1 := hR.put (ys := []) hlh nl
        have dr1 : Drawn (upd H10 lh (.lst [])) b sb P0 L' ss' := ⟨dr10.bag.put nhb nhs, tabs_put dr10.tabs hlh, dr10.st.mono (fun _ z => (upd_ne nL').trans z) (tup_put hlh), dr10.ln, dr10.six⟩
        generalize upd H10 lh (.lst []) = H11 at hR1 dr1 ⊢
        clear hR dr10 hlh ht8
        obtain ⟨dx, hx, _⟩ := id hR1
        refine ⟨_, rfl, x, dx, _, rfl, hx, rfl, x, l, ss', tu, rfl, hR1, fun m H12 nm s12 hm => ?_⟩
        obtain ⟨am, gm, _⟩ := hm
        refine ⟨.inl ⟨rfl, _, SqL.of gm⟩, m, _, rfl, rfl, gm, ?_⟩
        have s13 : Same H11 (upd H12 m (.lst [])) := fun a o z => (upd_ne (ne_of_none z nm)).trans (s12 _ _ z)
        have hR2 := hR1.same s13
        have dr2 := dr1.same s13
        have hx2 := s13 _ _ hx
        generalize upd H12 m (.lst []) = H13 at hR2 dr2 hx2 ⊢
        clear s13 gm s12 nm hx hR1 dr1
        obtain ⟨as2, g2, p2⟩ := id dr2.st
        have hlen2 : (as2.map V.ref).length = ss'.length := by rw [List.length_map, Paired.length p2]
        have six := dr2.six
        obtain ⟨t1, t2⟩ := text_len (n := (ss'.length : Int)) (by omega) (by omega)
        have l0 : (Str.ofString "Recipe(").length = 7 := by kernel_rfl
        have l1 : (Str.ofString " steps)").length = 7 := by kernel_rfl
        have sz : sizeLine = 16777216 := rfl
        refine ⟨_, rfl, _, rfl, L', _, rfl, .inl (SqL.of g2), _, rfl, L', _, rfl, .inl (SqL.of g2), (ss'.length : Int), by rw [hlen2], t1, _, _, rfl, rfl, by rw [l0]; omega, _, _, rfl, rfl, by rw [Str.length_append, l0, l1]; omega, _, rfl, by show 4 ≤ sizeLine; decide, fun l3 n3 => ?_⟩
        have e3 := same_new (o := .lst [.ref L', .int ((as2.map V.ref).length : Nat), .str (Str.ofString "Recipe(" ++ Str.ofString (toString (ss'.length : Int)) ++ Str.ofString " steps)"), .bl tu]) n3
        have hl3 : upd H13 l3 (.lst [.ref L', .int ((as2.map V.ref).length : Nat), .str (Str.ofString "Recipe(" ++ Str.ofString (toString (ss'.length : Int)) ++ Str.ofString " steps)"), .bl tu]) l3 = some (.lst [.ref L', .int ((as2.map V.ref).length : Nat), .str (recText ss'.length), .bl tu]) := upd_same
        have dr3 := dr2.same e3
        have hR3 := hR2.same e3
        have hx3 := e3 _ _ hx2
        generalize upd H13 l3 (.lst [.ref L', .int ((as2.map V.ref).length : Nat), .str (Str.ofString "Recipe(" ++ Str.ofString (toString (ss'.length : Int)) ++ Str.ofString " steps)"), .bl tu]) = H14 at hl3 dr3 hR3 hx3 ⊢
        clear e3 n3 g2 p2 hR2 dr2 hx2
        rw [hlen2] at hl3
        -- what the recipe tells
        refine ⟨_, rfl, x, dx, _, rfl, hx3, rfl, x, l, ss', tu, rfl, hR3, fun m2 H15 nm2 s15 hm2 => ?_⟩
        have hR4 := hR3.same s15
        have hx4 := s15 _ _ hx3
        refine ⟨_, rfl, x, dx, _, rfl, hx4, x, l, ss', tu, rfl, hR4, ss'.length, rfl, by omega, _, rfl, x, dx, _, rfl, hx4, x, l, ss', tu, rfl, hR4, by omega, _, rfl, _, rfl, x, dx, _, rfl, hx4, x, l, ss', tu, rfl, hR4, by show 4 ≤ sizeLine; decide, fun l4 n4 => ⟨_, rfl, ?_⟩⟩
        have e4 := same_new (o := .lst [.ref m2, .int (ss'.length : Int), .str (recText ss'.length), .bl tu]) n4
        have dr4 := (dr3.same s15).same e4
        refine ⟨_, _, rfl, Lk.lists upd_same (e4 _ _ (s15 _ _ hl3)) (by simp) (.cons (lk_steps (n := 1) (hm2.same e4) dr4.st dr4.ln six) (.cons (Lk.int rfl) (.cons (Lk.flat (.inr (.inr (.inr ⟨_, rfl, rfl⟩)))) (.cons (Lk.bl rfl) .nil)))), fun H16 s16 => ⟨true, rfl, iteF ?_⟩⟩
        have dr5 := dr4.same s16
        have hR5 := (hR4.same e4).same s16
        have hx5 := s16 _ _ (e4 _ _ hx4)
        clear hl3 dr3 hR3 hx3 hR4 hx4 dr4 hm2 s15 nm2 e4 n4 s16
        have kn := dr5.st.known
        have same := (steps_can kn).2
        -- equal ones, and others
        refine ⟨_, rfl, _, rfl, _, rfl, rfl, rfl, mk_rec dr5.st.handed dr5.ln ok fun r1 m1 G1 q1 q1' f1 k1 => ?_⟩
        obtain ⟨dy1, hy1, _⟩ := id k1
        refine ⟨x, dx, _, r1, dy1, _, rfl, rfl, f1 _ _ hx5, hy1, .inl ⟨x, r1, l, m1, ss', ss', tu, tu, rfl, hR5.same f1, k1, ?_⟩⟩
        refine ⟨_, rfl, _, rfl, rfl, rfl, mk_rec (dr5.st.same f1).handed dr5.ln (fun t ht => allow_true (ok t ht)) fun r2 m2 G2 q2 q2' f2 k2 => ?_⟩
        obtain ⟨dy2, hy2, _⟩ := id k2
        have f12 := f1.trans f2
        refine ⟨x, dx, _, r2, dy2, _, rfl, rfl, f12 _ _ hx5, hy2, .inl ⟨x, r2, l, m2, ss', ss', tu, true, rfl, hR5.same f12, k2, ?_⟩⟩
        obtain ⟨as5, g5, p5⟩ := id (dr5.st.same f12)
        refine ⟨_, rfl, _, rfl, x, dx, _, L', _, rfl, rfl, f12 _ _ hx5, g5, .inr ⟨x, l, L', ss', tu, _, rfl, hR5.same f12, g5, by show 3 ≤ sizeLine; decide, fun l5 n5 => ?_⟩⟩
        rw [show PyData.eqv (listsD ss') (listsD ss') = true from same, Bool.true_and, Bool.true_and, decide_eq_true (rfl : tu = tu)]
        have bt : decide (tu = true) = tu := by cases tu <;> rfl
        rw [bt]
        have f5 := f12.trans (same_new (o := .lst [.bl true, .bl tu, .bl false]) n5)
        have hl5 : upd G2 l5 (.lst [.bl true, .bl tu, .bl false]) l5 = some (.lst [.bl true, .bl tu, .bl false]) := upd_same
        have dr6 := dr5.same f5
        have hR6 := hR5.same f5
        have hx6 := f5 _ _ hx5
        generalize upd G2 l5 (.lst [.bl true, .bl tu, .bl false]) = H17 at hl5 dr6 hR6 hx6 ⊢
        clear f5 n5 g5 p5 f12 k2 hy2 q2 q2' f2 k1 hy1 q1 q1' f1 dr5 hR5 hx5
        obtain ⟨as6, g6, p6⟩ := id dr6.st
        refine ⟨_, rfl, _, rfl, _, rfl, 1, rfl, ?_⟩
        unfold tNoPart
        refine ⟨L', _, rfl, SqL.of g6, fun c1 nc1 => ⟨_, rfl, rfl, rfl, ?_⟩⟩
        rw [cut_one]
        have ec := same_new (o := .lst ((as6.drop 1).map V.ref)) nc1
        have hc1 : StepsL (upd H17 c1 (.lst ((as6.drop 1).map V.ref))) c1 (ss'.drop 1) := ⟨_, upd_same, steps_mono (fun p xs z => ec _ _ z) (paired_cut 1 p6).2⟩
        have mem1 : ∀ t ∈ ss'.drop 1, t ∈ ss' := fun t ht => List.mem_of_mem_drop ht
        refine mk_rec hc1.handed (fun t ht => dr6.ln t (mem1 t ht)) (fun t ht => ok t (mem1 t ht)) fun r3 m3 G3 q3 q3' f3 k3 => ?_
        obtain ⟨dy3, hy3, _⟩ := id k3
        have f3' := ec.trans f3
        refine ⟨x, dx, _, r3, dy3, _, rfl, rfl, f3' _ _ hx6, hy3, .inl ⟨x, r3, l, m3, ss', ss'.drop 1, tu, tu, rfl, hR6.same f3', k3, _, rfl, ?_⟩⟩
        rw [lists_drop, decide_eq_true (rfl : tu = tu), Bool.and_true]
        refine ⟨by show 1 ≤ sizeLine; decide, fun l7 n7 => ?_⟩
        have e7 := same_new (o := .lst [.bl (!ss'.isEmpty)]) n7
        refine ⟨l5, l7, _, _, rfl, rfl, e7 _ _ (f3' _ _ hl5), upd_same, by show 4 ≤ sizeLine; decide, fun l8 n8 => ?_⟩
        have e8 := same_new (o := .lst ([.bl true, .bl tu, .bl false] ++ [.bl (!ss'.isEmpty)])) n8
        refine ⟨_, rfl, _, rfl, by show 0 ≤ sizeLine; decide, fun l9 n9 => ?_⟩
        have e9 := same_new (o := .lst []) n9
        have f9 := f3'.trans (e7.trans (e8.trans e9))
        refine ⟨listsD ss', .list [], (dr6.st.same f9).dp, .lst (SqL.of upd_same) .nil, (steps_can kn).1, by decide +kernel, by show 4 ≤ sizeLine; decide, fun l10 n10 => ?_⟩
        rw [lists_nil]
        have e10 := same_new (o := .lst [.bl true, .bl tu, .bl false, .bl (!ss'.isEmpty)]) n10
        refine ⟨_, _, rfl, Lk.lists (e10 _ _ (e9 _ _ upd_same)) upd_same (by simp) (.cons (Lk.bl rfl) (.cons (Lk.bl rfl) (.cons (Lk.bl rfl) (.cons (Lk.bl rfl) .nil)))), fun H18 s18 => ⟨true, rfl, iteF ?_⟩⟩
        have f18 := f9.trans (e10.trans s18)
        exact ⟨⟨_, _, _, _, _, _, _, _, _, _, _, _, _, rfl⟩, dr6.bag.same f18, dr6.tabs.ext f18⟩
      · rintro σ H2 ⟨⟨y2, y3, y4, y5, y6, y7, y8, y9, y10, y11, y12, y13, y14, rfl⟩, B2, tb2⟩
        exact ⟨_, _, y2, y3, y4, y5, y6, y7, y8, y9, y10, y11, y12, y13, y14, rfl⟩
    rintro σ H2 ⟨y0, y1, y2, y3, y4, y5, y6, y7, y8, y9, y10, y11, y12, y13, y14, rfl⟩
    have none10 : ∀ t ∈ ([] : List (List Itm)), t.length ≤ 10 := fun t ht => by cases ht
    have none2 : ∀ t ∈ ([] : List (List Itm)), allowB false t = true := fun t ht => by cases ht
    have same0 : PyData.eqv (listsD []) (listsD []) = true := by decide +kernel
    refine mk_rec (r := .ref T.r0_Recipe_init) (tu := false) (ss := []) (.tup (as := []) T.z0_Recipe_init.sq .nil) none10 none2 fun x l G nx nl f hR => ?_
    obtain ⟨dx, hx, _⟩ := id hR
    refine ⟨_, rfl, x, dx, _, rfl, hx, rfl, x, l, [], false, rfl, hR, fun m G2 nm f2 hm => ⟨by show 0 ≤ sizeLine; decide, fun l0 n0 => ?_⟩⟩
    have e0 := same_new (o := .lst []) n0
    refine ⟨listsD [], .list [], (hm.same e0).dp, .lst (SqL.of upd_same) .nil, by decide +kernel, by decide +kernel, true, by rw [lists_nil]; rfl, iteT ?_⟩
    have f3 := f2.trans e0
    refine ⟨_, rfl, by show 0 ≤ sizeLine; decide, fun l1 n1 => ?_⟩
    have e1 := same_new (o := .lst []) n1
    refine mk_rec (tu := false) (ss := []) (.list (as := []) (SqL.of upd_same) .nil) none10 none2 fun y l' G3 ny nl' f4 hY => ?_
    obtain ⟨dy, hy, _⟩ := id hY
    have f5 := f3.trans (e1.trans f4)
    refine ⟨x, dx, _, y, dy, _, rfl, rfl, f5 _ _ hx, hy, .inl ⟨x, y, l, l', [], [], false, false, rfl, hR.same f5, hY, true, by rw [same0]; rfl, iteT ?_⟩⟩
    refine ⟨_, rfl, x, dx, _, rfl, f5 _ _ hx, x, l, [], false, rfl, hR.same f5, false, false, rfl, rfl, true, rfl, iteT ?_⟩
    refine ⟨_, rfl, x, dx, _, rfl, f5 _ _ hx, x, l, [], false, rfl, hR.same f5, by simp, _, rfl, rfl, ?_⟩
    rw [decide_eq_true (show V.str (recText ([] : List (List Itm)).length) = V.str "Recipe(0 steps)" by kernel_rfl)]
    exact q _
end
theorem all_mk {w : World} {K : PySem.W.Frag} {h : Heap} {mg : Str → Option Value} {fa : Addr} (X : K.In h) (G : h.Ns mainGlobals mg) (hfa : mg "law" = some (.ref fa)) {l : PySem.W.OpenLaw} (hprog : l.prog = PySem.Challenge.pw_grainyard_k24_recipes_as_lists) {cL PL : Addr}
    {C_Recipe : Addr} (aC_Recipe : PySem.W.nsIn K mainGlobals "Recipe" = some (some (.ref C_Recipe))) (pg_Recipe : PySem.W.plainGet K C_Recipe Str.empty = true) (hd_Recipe : PySem.W.hasDictIn K C_Recipe = true) (po_Recipe : PySem.W.plainOver K C_Recipe = true) (sa_Recipe : PySem.W.findIn K (.ref C_Recipe) "__setattr__" = some (some (.builtin "object.__setattr__"))) (mk_Recipe : PySem.W.makesIn K C_Recipe = true) (kc_Recipe : PySem.W.keepIn K (.ref C_Recipe) = true) (sf_Recipe : PySem.W.selfFirst K C_Recipe = true) (nq_Recipe : PySem.W.noSeq K C_Recipe = true) (n_Recipe_listed : PySem.W.findIn K (.ref C_Recipe) "listed" = some none) (n_Recipe_allowed : PySem.W.findIn K (.ref C_Recipe) "allowed" = some none)
    (mo_Recipe : PySem.W.mroIn K C_Recipe (.type "object") = some true) (ne_Recipe : PySem.W.findIn K (.ref C_Recipe) "__ne__" = some (some (.builtin "object.__ne__"))) (ca_Recipe : PySem.W.findIn K (.ref C_Recipe) "__class__" = some (some (.builtin "object.__class__"))) (x_Recipe_rmul : PySem.W.findIn K (.ref C_Recipe) "__rmul__" = some none) (i_mul : PySem.W.findIn K (.type "int") "__mul__" = some (some (.builtin "int.__mul__"))) (i_rmul : PySem.W.findIn K (.type "int") "__rmul__" = some (some (.builtin "int.__rmul__"))) (is_Recipe : PySem.W.subIn K (.type "int") (.ref C_Recipe) = some false) (nl_Recipe : PySem.W.subIn K (.type "list") (.ref C_Recipe) = some false) (ic_Recipe : PySem.W.isClsIn K C_Recipe = true) (tw_Recipe : PySem.W.typeIn K (.ref C_Recipe) = some (.type "type"))
    {od0 an0 : Option Addr} {sl0 : Array (Option Value)} {kV0 oc0 dc0 pm0 cd0 ct0 : Value} {f0 : Addr}
    (a0 : PySem.W.nsIn K mainGlobals "turned" = some (some (.ref f0))) (l0 : K.lookup f0 = some ⟨oc0, od0, .func (PySem.W.fnOf "turned" "turned" (defArgs s_turned) (defBody s_turned) (defScope s_turned) .none kV0 dc0 pm0 an0 cd0 ct0), sl0⟩) (c0 : PySem.W.codeIn K cd0 "turned" = true) (k0 : PySem.W.keepIn K (.ref f0) = true)
    {od1 an1 : Option Addr} {sl1 : Array (Option Value)} {kV1 oc1 dc1 pm1 cd1 ct1 : Value} {f1 : Addr}
    (a1 : PySem.W.nsIn K mainGlobals "is_pair" = some (some (.ref f1))) (l1 : K.lookup f1 = some ⟨oc1, od1, .func (PySem.W.fnOf "is_pair" "is_pair" (defArgs s_is_pair) (defBody s_is_pair) (defScope s_is_pair) .none kV1 dc1 pm1 an1 cd1 ct1), sl1⟩) (c1 : PySem.W.codeIn K cd1 "is_pair" = true) (k1 : PySem.W.keepIn K (.ref f1) = true)
    {od2 an2 : Option Addr} {sl2 : Array (Option Value)} {kV2 oc2 dc2 pm2 cd2 ct2 : Value} {f2 : Addr}
    (a2 : PySem.W.nsIn K mainGlobals "is_two_pairs" = some (some (.ref f2))) (l2 : K.lookup f2 = some ⟨oc2, od2, .func (PySem.W.fnOf "is_two_pairs" "is_two_pairs" (defArgs s_is_two_pairs) (defBody s_is_two_pairs) (defScope s_is_two_pairs) .none kV2 dc2 pm2 an2 cd2 ct2), sl2⟩) (c2 : PySem.W.codeIn K cd2 "is_two_pairs" = true) (k2 : PySem.W.keepIn K (.ref f2) = true)
    {od3 an3 : Option Addr} {sl3 : Array (Option Value)} {kV3 oc3 dc3 pm3 cd3 ct3 : Value} {f3 : Addr}
    (a3 : PySem.W.nsIn K mainGlobals "fits" = some (some (.ref f3))) (l3 : K.lookup f3 = some ⟨oc3, od3, .func (PySem.W.fnOf "fits" "fits" (defArgs s_fits) (defBody s_fits) (defScope s_fits) .none kV3 dc3 pm3 an3 cd3 ct3), sl3⟩) (c3 : PySem.W.codeIn K cd3 "fits" = true) (k3 : PySem.W.keepIn K (.ref f3) = true)
    {od4 an4 : Option Addr} {sl4 : Array (Option Value)} {kV4 oc4 dc4 pm4 cd4 ct4 : Value} {f4 : Addr}
    (a4 : PySem.W.nsIn K mainGlobals "has_shape" = some (some (.ref f4))) (l4 : K.lookup f4 = some ⟨oc4, od4, .func (PySem.W.fnOf "has_shape" "has_shape" (defArgs s_has_shape) (defBody s_has_shape) (defScope s_has_shape) .none kV4 dc4 pm4 an4 cd4 ct4), sl4⟩) (c4 : PySem.W.codeIn K cd4 "has_shape" = true) (k4 : PySem.W.keepIn K (.ref f4) = true)
    {od5 an5 : Option Addr} {sl5 : Array (Option Value)} {kV5 oc5 dc5 pm5 cd5 ct5 : Value} {f5 : Addr}
    (a5 : PySem.W.nsIn K mainGlobals "side_of" = some (some (.ref f5))) (l5 : K.lookup f5 = some ⟨oc5, od5, .func (PySem.W.fnOf "side_of" "side_of" (defArgs s_side_of) (defBody s_side_of) (defScope s_side_of) .none kV5 dc5 pm5 an5 cd5 ct5), sl5⟩) (c5 : PySem.W.codeIn K cd5 "side_of" = true) (k5 : PySem.W.keepIn K (.ref f5) = true)
    {od6 an6 : Option Addr} {sl6 : Array (Option Value)} {kV6 oc6 dc6 pm6 cd6 ct6 : Value} {f6 : Addr}
    (a6 : PySem.W.nsIn K mainGlobals "is_even_split" = some (some (.ref f6))) (l6 : K.lookup f6 = some ⟨oc6, od6, .func (PySem.W.fnOf "is_even_split" "is_even_split" (defArgs s_is_even_split) (defBody s_is_even_split) (defScope s_is_even_split) .none kV6 dc6 pm6 an6 cd6 ct6), sl6⟩) (c6 : PySem.W.codeIn K cd6 "is_even_split" = true) (k6 : PySem.W.keepIn K (.ref f6) = true)
    {od7 an7 : Option Addr} {sl7 : Array (Option Value)} {kV7 oc7 dc7 pm7 cd7 ct7 : Value} {f7 : Addr}
    (a7 : PySem.W.nsIn K mainGlobals "is_even_glue" = some (some (.ref f7))) (l7 : K.lookup f7 = some ⟨oc7, od7, .func (PySem.W.fnOf "is_even_glue" "is_even_glue" (defArgs s_is_even_glue) (defBody s_is_even_glue) (defScope s_is_even_glue) .none kV7 dc7 pm7 an7 cd7 ct7), sl7⟩) (c7 : PySem.W.codeIn K cd7 "is_even_glue" = true) (k7 : PySem.W.keepIn K (.ref f7) = true)
    {od8 an8 : Option Addr} {sl8 : Array (Option Value)} {kV8 oc8 dc8 pm8 cd8 ct8 : Value} {f8 : Addr}
    (a8 : PySem.W.nsIn K mainGlobals "is_step" = some (some (.ref f8))) (l8 : K.lookup f8 = some ⟨oc8, od8, .func (PySem.W.fnOf "is_step" "is_step" (defArgs s_is_step) (defBody s_is_step) (defScope s_is_step) .none kV8 dc8 pm8 an8 cd8 ct8), sl8⟩) (c8 : PySem.W.codeIn K cd8 "is_step" = true) (k8 : PySem.W.keepIn K (.ref f8) = true)
    {od9 an9 : Option Addr} {sl9 : Array (Option Value)} {kV9 oc9 dc9 pm9 cd9 ct9 : Value} {f9 : Addr}
    (a9 : PySem.W.nsIn K mainGlobals "check_steps" = some (some (.ref f9))) (l9 : K.lookup f9 = some ⟨oc9, od9, .func (PySem.W.fnOf "check_steps" "check_steps" (defArgs s_check_steps) (defBody s_check_steps) (defScope s_check_steps) .none kV9 dc9 pm9 an9 cd9 ct9), sl9⟩) (c9 : PySem.W.codeIn K cd9 "check_steps" = true) (k9 : PySem.W.keepIn K (.ref f9) = true)
    {od10 an10 : Option Addr} {sl10 : Array (Option Value)} {kV10 oc10 dc10 pm10 cd10 ct10 : Value} {f10 : Addr}
    (a10 : PySem.W.nsIn K mainGlobals "is_allowed" = some (some (.ref f10))) (l10 : K.lookup f10 = some ⟨oc10, od10, .func (PySem.W.fnOf "is_allowed" "is_allowed" (defArgs s_is_allowed) (defBody s_is_allowed) (defScope s_is_allowed) .none kV10 dc10 pm10 an10 cd10 ct10), sl10⟩) (c10 : PySem.W.codeIn K cd10 "is_allowed" = true) (k10 : PySem.W.keepIn K (.ref f10) = true)
    {od11 an11 : Option Addr} {sl11 : Array (Option Value)} {kV11 oc11 dc11 pm11 cd11 ct11 : Value} {f11 : Addr}
    (a11 : PySem.W.nsIn K mainGlobals "check_allowed" = some (some (.ref f11))) (l11 : K.lookup f11 = some ⟨oc11, od11, .func (PySem.W.fnOf "check_allowed" "check_allowed" (defArgs s_check_allowed) (defBody s_check_allowed) (defScope s_check_allowed) .none kV11 dc11 pm11 an11 cd11 ct11), sl11⟩) (c11 : PySem.W.codeIn K cd11 "check_allowed" = true) (k11 : PySem.W.keepIn K (.ref f11) = true)
    {od12 an12 : Option Addr} {sl12 : Array (Option Value)} {oc12 dc12 pm12 cd12 ct12 : Value} {f12 : Addr} {T12 r012 : Addr} {tc12 : Value} {td12 : Option Addr} {tn12 : Nat} {ts12 : Array (Option Value)} {D12 : Addr}
    (a12 : PySem.W.findIn K (.ref C_Recipe) "__init__" = some (some (.ref f12))) (i12 : PySem.W.isFn K (.ref f12) = true) (l12 : K.lookup f12 = some ⟨oc12, od12, .func (PySem.W.fnOf "__init__" "Recipe.__init__" (defArgs s_Recipe_init) (defBody s_Recipe_init) (defScope s_Recipe_init) (.ref T12) (.ref D12) dc12 pm12 an12 cd12 ct12), sl12⟩) (c12 : PySem.W.codeIn K cd12 "Recipe.__init__" = true) (k12 : PySem.W.keepIn K (.ref f12) = true)
    (t12 : K.lookup T12 = some ⟨tc12, td12, .seq #[.ref r012] tn12, ts12⟩)
    {y12d : Option Addr} {y12m : Nat} {y12s : Array (Option Value)} (y12a : K.lookup r012 = some ⟨.type "tuple", y12d, .seq #[] y12m, y12s⟩)
    (kd12 : PySem.W.nsIn K D12 "turning" = some (some (.bool false)))
    {od13 an13 : Option Addr} {sl13 : Array (Option Value)} {oc13 dc13 pm13 cd13 ct13 : Value} {f13 : Addr} {kV13 : Value}
    (a13 : PySem.W.findIn K (.ref C_Recipe) "steps" = some (some (.ref f13))) (i13 : PySem.W.isFn K (.ref f13) = true) (l13 : K.lookup f13 = some ⟨oc13, od13, .func (PySem.W.fnOf "steps" "Recipe.steps" (defArgs s_Recipe_steps) (defBody s_Recipe_steps) (defScope s_Recipe_steps) .none kV13 dc13 pm13 an13 cd13 ct13), sl13⟩) (c13 : PySem.W.codeIn K cd13 "Recipe.steps" = true) (k13 : PySem.W.keepIn K (.ref f13) = true)
    {od14 an14 : Option Addr} {sl14 : Array (Option Value)} {oc14 kV14 dc14 pm14 cd14 ct14 : Value} {f14 p14 : Addr} {q14 : List Value}
    (a14 : PySem.W.findIn K (.ref C_Recipe) "turning" = some (some (.ref p14))) (gp14 : PySem.W.specialIn K (.ref p14) "__get__" = some (some (.builtin "property.__get__"))) (tp14 : PySem.W.takesIn K (.ref p14) = some true) (rp14 : PySem.W.recIn K p14 "property" = some (.ref f14 :: q14)) (l14 : K.lookup f14 = some ⟨oc14, od14, .func (PySem.W.fnOf "turning" "Recipe.turning" (defArgs s_Recipe_turning) (defBody s_Recipe_turning) (defScope s_Recipe_turning) .none kV14 dc14 pm14 an14 cd14 ct14), sl14⟩) (c14 : PySem.W.codeIn K cd14 "Recipe.turning" = true) (k14 : PySem.W.keepIn K (.ref f14) = true)
    {od15 an15 : Option Addr} {sl15 : Array (Option Value)} {oc15 dc15 pm15 cd15 ct15 : Value} {f15 : Addr} {kV15 : Value}
    (a15 : PySem.W.findIn K (.ref C_Recipe) "__eq__" = some (some (.ref f15))) (i15 : PySem.W.isFn K (.ref f15) = true) (l15 : K.lookup f15 = some ⟨oc15, od15, .func (PySem.W.fnOf "__eq__" "Recipe.__eq__" (defArgs s_Recipe_eq) (defBody s_Recipe_eq) (defScope s_Recipe_eq) .none kV15 dc15 pm15 an15 cd15 ct15), sl15⟩) (c15 : PySem.W.codeIn K cd15 "Recipe.__eq__" = true) (k15 : PySem.W.keepIn K (.ref f15) = true)
    {od16 an16 : Option Addr} {sl16 : Array (Option Value)} {oc16 dc16 pm16 cd16 ct16 : Value} {f16 : Addr} {kV16 : Value}
    (a16 : PySem.W.findIn K (.ref C_Recipe) "__len__" = some (some (.ref f16))) (i16 : PySem.W.isFn K (.ref f16) = true) (l16 : K.lookup f16 = some ⟨oc16, od16, .func (PySem.W.fnOf "__len__" "Recipe.__len__" (defArgs s_Recipe_len) (defBody s_Recipe_len) (defScope s_Recipe_len) .none kV16 dc16 pm16 an16 cd16 ct16), sl16⟩) (c16 : PySem.W.codeIn K cd16 "Recipe.__len__" = true) (k16 : PySem.W.keepIn K (.ref f16) = true)
    {od17 an17 : Option Addr} {sl17 : Array (Option Value)} {oc17 dc17 pm17 cd17 ct17 : Value} {f17 : Addr} {kV17 : Value}
    (a17 : PySem.W.findIn K (.ref C_Recipe) "__repr__" = some (some (.ref f17))) (i17 : PySem.W.isFn K (.ref f17) = true) (l17 : K.lookup f17 = some ⟨oc17, od17, .func (PySem.W.fnOf "__repr__" "Recipe.__repr__" (defArgs s_Recipe_repr) (defBody s_Recipe_repr) (defScope s_Recipe_repr) .none kV17 dc17 pm17 an17 cd17 ct17), sl17⟩) (c17 : PySem.W.codeIn K cd17 "Recipe.__repr__" = true) (k17 : PySem.W.keepIn K (.ref f17) = true)
    {od18 an18 : Option Addr} {sl18 : Array (Option Value)} {kV18 oc18 dc18 pm18 cd18 ct18 : Value} {f18 : Addr}
    (a18 : PySem.W.nsIn K mainGlobals "_law_source" = some (some (.ref f18))) (l18 : K.lookup f18 = some ⟨oc18, od18, .func (PySem.W.fnOf "_law_source" "_law_source" (defArgs s_source) (defBody s_source) (defScope s_source) .none kV18 dc18 pm18 an18 cd18 ct18), sl18⟩) (c18 : PySem.W.codeIn K cd18 "_law_source" = true) (k18 : PySem.W.keepIn K (.ref f18) = true)
    {od19 an19 : Option Addr} {sl19 : Array (Option Value)} {kV19 oc19 dc19 pm19 cd19 ct19 : Value} {f19 : Addr}
    (a19 : PySem.W.nsIn K mainGlobals "_law_pull" = some (some (.ref f19))) (l19 : K.lookup f19 = some ⟨oc19, od19, .func (PySem.W.fnOf "_law_pull" "_law_pull" (defArgs s_pull) (defBody s_pull) (defScope s_pull) .none kV19 dc19 pm19 an19 cd19 ct19), sl19⟩) (c19 : PySem.W.codeIn K cd19 "_law_pull" = true) (k19 : PySem.W.keepIn K (.ref f19) = true)
    {od20 an20 : Option Addr} {sl20 : Array (Option Value)} {kV20 oc20 dc20 pm20 cd20 ct20 : Value} {f20 : Addr}
    (a20 : PySem.W.nsIn K mainGlobals "_law_of" = some (some (.ref f20))) (l20 : K.lookup f20 = some ⟨oc20, od20, .func (PySem.W.fnOf "_law_of" "_law_of" (defArgs s_of) (defBody s_of) (defScope s_of) .none kV20 dc20 pm20 an20 cd20 ct20), sl20⟩) (c20 : PySem.W.codeIn K cd20 "_law_of" = true) (k20 : PySem.W.keepIn K (.ref f20) = true)
    {od21 an21 : Option Addr} {sl21 : Array (Option Value)} {kV21 oc21 dc21 pm21 cd21 ct21 : Value} {f21 : Addr}
    (a21 : PySem.W.nsIn K mainGlobals "_law_roots" = some (some (.ref f21))) (l21 : K.lookup f21 = some ⟨oc21, od21, .func (PySem.W.fnOf "_law_roots" "_law_roots" (defArgs s_roots) (defBody s_roots) (defScope s_roots) .none kV21 dc21 pm21 an21 cd21 ct21), sl21⟩) (c21 : PySem.W.codeIn K cd21 "_law_roots" = true) (k21 : PySem.W.keepIn K (.ref f21) = true)
    {od22 an22 : Option Addr} {sl22 : Array (Option Value)} {kV22 oc22 dc22 pm22 cd22 ct22 : Value} {f22 : Addr}
    (a22 : PySem.W.nsIn K mainGlobals "_law_a_root" = some (some (.ref f22))) (l22 : K.lookup f22 = some ⟨oc22, od22, .func (PySem.W.fnOf "_law_a_root" "_law_a_root" (defArgs s_a_root) (defBody s_a_root) (defScope s_a_root) .none kV22 dc22 pm22 an22 cd22 ct22), sl22⟩) (c22 : PySem.W.codeIn K cd22 "_law_a_root" = true) (k22 : PySem.W.keepIn K (.ref f22) = true)
    {od23 an23 : Option Addr} {sl23 : Array (Option Value)} {kV23 oc23 dc23 pm23 cd23 ct23 : Value} {f23 : Addr}
    (a23 : PySem.W.nsIn K mainGlobals "_law_any_pair" = some (some (.ref f23))) (l23 : K.lookup f23 = some ⟨oc23, od23, .func (PySem.W.fnOf "_law_any_pair" "_law_any_pair" (defArgs s_any_pair) (defBody s_any_pair) (defScope s_any_pair) .none kV23 dc23 pm23 an23 cd23 ct23), sl23⟩) (c23 : PySem.W.codeIn K cd23 "_law_any_pair" = true) (k23 : PySem.W.keepIn K (.ref f23) = true)
    {od24 an24 : Option Addr} {sl24 : Array (Option Value)} {kV24 oc24 dc24 pm24 cd24 ct24 : Value} {f24 : Addr}
    (a24 : PySem.W.nsIn K mainGlobals "_law_sign" = some (some (.ref f24))) (l24 : K.lookup f24 = some ⟨oc24, od24, .func (PySem.W.fnOf "_law_sign" "_law_sign" (defArgs s_lsign) (defBody s_lsign) (defScope s_lsign) .none kV24 dc24 pm24 an24 cd24 ct24), sl24⟩) (c24 : PySem.W.codeIn K cd24 "_law_sign" = true) (k24 : PySem.W.keepIn K (.ref f24) = true)
    {od25 an25 : Option Addr} {sl25 : Array (Option Value)} {kV25 oc25 dc25 pm25 cd25 ct25 : Value} {f25 : Addr}
    (a25 : PySem.W.nsIn K mainGlobals "_law_a_length" = some (some (.ref f25))) (l25 : K.lookup f25 = some ⟨oc25, od25, .func (PySem.W.fnOf "_law_a_length" "_law_a_length" (defArgs s_a_length) (defBody s_a_length) (defScope s_a_length) .none kV25 dc25 pm25 an25 cd25 ct25), sl25⟩) (c25 : PySem.W.codeIn K cd25 "_law_a_length" = true) (k25 : PySem.W.keepIn K (.ref f25) = true)
    {od26 an26 : Option Addr} {sl26 : Array (Option Value)} {kV26 oc26 dc26 pm26 cd26 ct26 : Value} {f26 : Addr}
    (a26 : PySem.W.nsIn K mainGlobals "_law_a_sheet" = some (some (.ref f26))) (l26 : K.lookup f26 = some ⟨oc26, od26, .func (PySem.W.fnOf "_law_a_sheet" "_law_a_sheet" (defArgs s_a_sheet) (defBody s_a_sheet) (defScope s_a_sheet) .none kV26 dc26 pm26 an26 cd26 ct26), sl26⟩) (c26 : PySem.W.codeIn K cd26 "_law_a_sheet" = true) (k26 : PySem.W.keepIn K (.ref f26) = true)
    {od27 an27 : Option Addr} {sl27 : Array (Option Value)} {kV27 oc27 dc27 pm27 cd27 ct27 : Value} {f27 : Addr}
    (a27 : PySem.W.nsIn K mainGlobals "_law_scaled" = some (some (.ref f27))) (l27 : K.lookup f27 = some ⟨oc27, od27, .func (PySem.W.fnOf "_law_scaled" "_law_scaled" (defArgs s_lscaled) (defBody s_lscaled) (defScope s_lscaled) .none kV27 dc27 pm27 an27 cd27 ct27), sl27⟩) (c27 : PySem.W.codeIn K cd27 "_law_scaled" = true) (k27 : PySem.W.keepIn K (.ref f27) = true)
    {od28 an28 : Option Addr} {sl28 : Array (Option Value)} {kV28 oc28 dc28 pm28 cd28 ct28 : Value} {f28 : Addr}
    (a28 : PySem.W.nsIn K mainGlobals "_law_side_of" = some (some (.ref f28))) (l28 : K.lookup f28 = some ⟨oc28, od28, .func (PySem.W.fnOf "_law_side_of" "_law_side_of" (defArgs s_lside_of) (defBody s_lside_of) (defScope s_lside_of) .none kV28 dc28 pm28 an28 cd28 ct28), sl28⟩) (c28 : PySem.W.codeIn K cd28 "_law_side_of" = true) (k28 : PySem.W.keepIn K (.ref f28) = true)
    {od29 an29 : Option Addr} {sl29 : Array (Option Value)} {kV29 oc29 dc29 pm29 cd29 ct29 : Value} {f29 : Addr}
    (a29 : PySem.W.nsIn K mainGlobals "_law_with" = some (some (.ref f29))) (l29 : K.lookup f29 = some ⟨oc29, od29, .func (PySem.W.fnOf "_law_with" "_law_with" (defArgs s_with) (defBody s_with) (defScope s_with) .none kV29 dc29 pm29 an29 cd29 ct29), sl29⟩) (c29 : PySem.W.codeIn K cd29 "_law_with" = true) (k29 : PySem.W.keepIn K (.ref f29) = true)
    {od30 an30 : Option Addr} {sl30 : Array (Option Value)} {kV30 oc30 dc30 pm30 cd30 ct30 : Value} {f30 : Addr}
    (a30 : PySem.W.nsIn K mainGlobals "_law_any_step" = some (some (.ref f30))) (l30 : K.lookup f30 = some ⟨oc30, od30, .func (PySem.W.fnOf "_law_any_step" "_law_any_step" (defArgs s_any_step) (defBody s_any_step) (defScope s_any_step) .none kV30 dc30 pm30 an30 cd30 ct30), sl30⟩) (c30 : PySem.W.codeIn K cd30 "_law_any_step" = true) (k30 : PySem.W.keepIn K (.ref f30) = true)
    {od31 an31 : Option Addr} {sl31 : Array (Option Value)} {kV31 oc31 dc31 pm31 cd31 ct31 : Value} {f31 : Addr}
    (a31 : PySem.W.nsIn K mainGlobals "_law_odd_step" = some (some (.ref f31))) (l31 : K.lookup f31 = some ⟨oc31, od31, .func (PySem.W.fnOf "_law_odd_step" "_law_odd_step" (defArgs s_odd_step) (defBody s_odd_step) (defScope s_odd_step) .none kV31 dc31 pm31 an31 cd31 ct31), sl31⟩) (c31 : PySem.W.codeIn K cd31 "_law_odd_step" = true) (k31 : PySem.W.keepIn K (.ref f31) = true)
    {od32 an32 : Option Addr} {sl32 : Array (Option Value)} {kV32 oc32 dc32 pm32 cd32 ct32 : Value} {f32 : Addr}
    (a32 : PySem.W.nsIn K mainGlobals "_law_is_pair" = some (some (.ref f32))) (l32 : K.lookup f32 = some ⟨oc32, od32, .func (PySem.W.fnOf "_law_is_pair" "_law_is_pair" (defArgs s_lis_pair) (defBody s_lis_pair) (defScope s_lis_pair) .none kV32 dc32 pm32 an32 cd32 ct32), sl32⟩) (c32 : PySem.W.codeIn K cd32 "_law_is_pair" = true) (k32 : PySem.W.keepIn K (.ref f32) = true)
    {od33 an33 : Option Addr} {sl33 : Array (Option Value)} {kV33 oc33 dc33 pm33 cd33 ct33 : Value} {f33 : Addr}
    (a33 : PySem.W.nsIn K mainGlobals "_law_is_pairs" = some (some (.ref f33))) (l33 : K.lookup f33 = some ⟨oc33, od33, .func (PySem.W.fnOf "_law_is_pairs" "_law_is_pairs" (defArgs s_is_pairs) (defBody s_is_pairs) (defScope s_is_pairs) .none kV33 dc33 pm33 an33 cd33 ct33), sl33⟩) (c33 : PySem.W.codeIn K cd33 "_law_is_pairs" = true) (k33 : PySem.W.keepIn K (.ref f33) = true)
    {od34 an34 : Option Addr} {sl34 : Array (Option Value)} {kV34 oc34 dc34 pm34 cd34 ct34 : Value} {f34 : Addr}
    (a34 : PySem.W.nsIn K mainGlobals "_law_at_least" = some (some (.ref f34))) (l34 : K.lookup f34 = some ⟨oc34, od34, .func (PySem.W.fnOf "_law_at_least" "_law_at_least" (defArgs s_at_least) (defBody s_at_least) (defScope s_at_least) .none kV34 dc34 pm34 an34 cd34 ct34), sl34⟩) (c34 : PySem.W.codeIn K cd34 "_law_at_least" = true) (k34 : PySem.W.keepIn K (.ref f34) = true)
    {od35 an35 : Option Addr} {sl35 : Array (Option Value)} {kV35 oc35 dc35 pm35 cd35 ct35 : Value} {f35 : Addr}
    (a35 : PySem.W.nsIn K mainGlobals "_law_good_step" = some (some (.ref f35))) (l35 : K.lookup f35 = some ⟨oc35, od35, .func (PySem.W.fnOf "_law_good_step" "_law_good_step" (defArgs s_good_step) (defBody s_good_step) (defScope s_good_step) .none kV35 dc35 pm35 an35 cd35 ct35), sl35⟩) (c35 : PySem.W.codeIn K cd35 "_law_good_step" = true) (k35 : PySem.W.keepIn K (.ref f35) = true)
    {od36 an36 : Option Addr} {sl36 : Array (Option Value)} {kV36 oc36 dc36 pm36 cd36 ct36 : Value} {f36 : Addr}
    (a36 : PySem.W.nsIn K mainGlobals "_law_field_of" = some (some (.ref f36))) (l36 : K.lookup f36 = some ⟨oc36, od36, .func (PySem.W.fnOf "_law_field_of" "_law_field_of" (defArgs s_field_of) (defBody s_field_of) (defScope s_field_of) .none kV36 dc36 pm36 an36 cd36 ct36), sl36⟩) (c36 : PySem.W.codeIn K cd36 "_law_field_of" = true) (k36 : PySem.W.keepIn K (.ref f36) = true)
    {od37 an37 : Option Addr} {sl37 : Array (Option Value)} {kV37 oc37 dc37 pm37 cd37 ct37 : Value} {f37 : Addr}
    (a37 : PySem.W.nsIn K mainGlobals "_law_try" = some (some (.ref f37))) (l37 : K.lookup f37 = some ⟨oc37, od37, .func (PySem.W.fnOf "_law_try" "_law_try" (defArgs s_try) (defBody s_try) (defScope s_try) .none kV37 dc37 pm37 an37 cd37 ct37), sl37⟩) (c37 : PySem.W.codeIn K cd37 "_law_try" = true) (k37 : PySem.W.keepIn K (.ref f37) = true)
    {od38 an38 : Option Addr} {sl38 : Array (Option Value)} {kV38 oc38 dc38 pm38 cd38 ct38 : Value} {f38 : Addr}
    (a38 : PySem.W.nsIn K mainGlobals "_law_like" = some (some (.ref f38))) (l38 : K.lookup f38 = some ⟨oc38, od38, .func (PySem.W.fnOf "_law_like" "_law_like" (defArgs s_like) (defBody s_like) (defScope s_like) .none kV38 dc38 pm38 an38 cd38 ct38), sl38⟩) (c38 : PySem.W.codeIn K cd38 "_law_like" = true) (k38 : PySem.W.keepIn K (.ref f38) = true)
    {od39 an39 : Option Addr} {sl39 : Array (Option Value)} {kV39 oc39 dc39 pm39 ct39 : Value} {f39 : Addr}
    (a39 : PySem.W.nsIn K mainGlobals "law" = some (some (.ref f39))) (l39 : K.lookup f39 = some ⟨oc39, od39, .func (PySem.W.fnOf "law" "law" (defArgs s_law) (defBody s_law) (defScope s_law) .none kV39 dc39 pm39 an39 (.ref cL) ct39), sl39⟩) (c39 : PySem.W.codeIn K (.ref cL) "law" = true) (k39 : PySem.W.keepIn K (.ref f39) = true)
    (z0 : PySem.W.nsIn K mainGlobals "ValueError" = some none)
    (z1 : PySem.W.nsIn K mainGlobals "LookupError" = some none)
    (z2 : PySem.W.nsIn K mainGlobals "IndexError" = some none)
    (z3 : PySem.W.nsIn K mainGlobals "enumerate" = some none)
    (z4 : PySem.W.nsIn K mainGlobals "isinstance" = some none)
    (z5 : PySem.W.nsIn K mainGlobals "range" = some none)
    (z6 : PySem.W.nsIn K mainGlobals "str" = some none)
    (z7 : PySem.W.nsIn K mainGlobals "sum" = some none)
    (z8 : PySem.W.nsIn K mainGlobals "list" = some none)
    (z9 : PySem.W.nsIn K mainGlobals "bool" = some none)
    (z10 : PySem.W.nsIn K mainGlobals "len" = some none)
    (z11 : PySem.W.nsIn K mainGlobals "tuple" = some none)
    (z12 : PySem.W.nsIn K mainGlobals "int" = some none)
    (z13 : PySem.W.nsIn K mainGlobals "all" = some none)
    (z14 : PySem.W.nsIn K mainGlobals "abs" = some none)
    (z15 : PySem.W.nsIn K mainGlobals "sorted" = some none)
    (z16 : PySem.W.nsIn K mainGlobals "repr" = some none)
    (z17 : PySem.W.nsIn K mainGlobals "zip" = some none)
    {u_SHAPES : Addr} {es_SHAPES : Array DictEntry} {n_SHAPES : Nat} (a_SHAPES : PySem.W.nsIn K mainGlobals "SHAPES" = some (some (.ref u_SHAPES))) (kat_SHAPES : K.lookup u_SHAPES = some ⟨.type "dict", none, .dict es_SHAPES n_SHAPES, #[]⟩) (kl_SHAPES : PySem.W.KeysLit w.params es_SHAPES.toList) (klow_SHAPES : (u_SHAPES == sysModules) = false)
    {p_SHAPES_saw : Addr} {d_SHAPES_saw : Option Addr} {n_SHAPES_saw : Nat} {o_SHAPES_saw : Array (Option Value)} {t0_SHAPES_saw t1_SHAPES_saw t2_SHAPES_saw t3_SHAPES_saw : Tok} (h_SHAPES_saw : PySem.W.nsIn K u_SHAPES "saw" = some (some (.ref p_SHAPES_saw))) (l_SHAPES_saw : K.lookup p_SHAPES_saw = some ⟨.type "tuple", d_SHAPES_saw, .seq #[.str "sheet" t0_SHAPES_saw, .str "side" t1_SHAPES_saw, .str "pair" t2_SHAPES_saw, .str "copies" t3_SHAPES_saw] n_SHAPES_saw, o_SHAPES_saw⟩)
    {p_SHAPES_split : Addr} {d_SHAPES_split : Option Addr} {n_SHAPES_split : Nat} {o_SHAPES_split : Array (Option Value)} {t0_SHAPES_split t1_SHAPES_split t2_SHAPES_split t3_SHAPES_split : Tok} (h_SHAPES_split : PySem.W.nsIn K u_SHAPES "split" = some (some (.ref p_SHAPES_split))) (l_SHAPES_split : K.lookup p_SHAPES_split = some ⟨.type "tuple", d_SHAPES_split, .seq #[.str "sheet" t0_SHAPES_split, .str "side" t1_SHAPES_split, .str "pieces" t2_SHAPES_split, .str "copies" t3_SHAPES_split] n_SHAPES_split, o_SHAPES_split⟩)
    {p_SHAPES_glue : Addr} {d_SHAPES_glue : Option Addr} {n_SHAPES_glue : Nat} {o_SHAPES_glue : Array (Option Value)} {t0_SHAPES_glue t1_SHAPES_glue t2_SHAPES_glue t3_SHAPES_glue : Tok} (h_SHAPES_glue : PySem.W.nsIn K u_SHAPES "glue" = some (some (.ref p_SHAPES_glue))) (l_SHAPES_glue : K.lookup p_SHAPES_glue = some ⟨.type "tuple", d_SHAPES_glue, .seq #[.str "sheet" t0_SHAPES_glue, .str "sheet" t1_SHAPES_glue, .str "side" t2_SHAPES_glue, .str "copies" t3_SHAPES_glue] n_SHAPES_glue, o_SHAPES_glue⟩)
    {p_SHAPES_stack : Addr} {d_SHAPES_stack : Option Addr} {n_SHAPES_stack : Nat} {o_SHAPES_stack : Array (Option Value)} {t0_SHAPES_stack t1_SHAPES_stack t2_SHAPES_stack t3_SHAPES_stack : Tok} (h_SHAPES_stack : PySem.W.nsIn K u_SHAPES "stack" = some (some (.ref p_SHAPES_stack))) (l_SHAPES_stack : K.lookup p_SHAPES_stack = some ⟨.type "tuple", d_SHAPES_stack, .seq #[.str "sheet" t0_SHAPES_stack, .str "side" t1_SHAPES_stack, .str "pieces" t2_SHAPES_stack, .str "copies" t3_SHAPES_stack] n_SHAPES_stack, o_SHAPES_stack⟩)
    {p_SHAPES_turn : Addr} {d_SHAPES_turn : Option Addr} {n_SHAPES_turn : Nat} {o_SHAPES_turn : Array (Option Value)} {t0_SHAPES_turn t1_SHAPES_turn : Tok} (h_SHAPES_turn : PySem.W.nsIn K u_SHAPES "turn" = some (some (.ref p_SHAPES_turn))) (l_SHAPES_turn : K.lookup p_SHAPES_turn = some ⟨.type "tuple", d_SHAPES_turn, .seq #[.str "sheet" t0_SHAPES_turn, .str "copies" t1_SHAPES_turn] n_SHAPES_turn, o_SHAPES_turn⟩)
    (m0_SHAPES : PySem.W.nsIn K u_SHAPES "Saw" = some none)
    (m1_SHAPES : PySem.W.nsIn K u_SHAPES "across" = some none)
    (m2_SHAPES : PySem.W.nsIn K u_SHAPES "along" = some none)
    (m3_SHAPES : PySem.W.nsIn K u_SHAPES "" = some none)
    (m4_SHAPES : PySem.W.nsIn K u_SHAPES "Across" = some none)
    {C_Heap : Addr} (aC_Heap : PySem.W.nsIn K mainGlobals "Heap" = some (some (.ref C_Heap))) (rd_Heap : PySem.W.readsIn K C_Heap (.type "type") = true) (gt_Heap : PySem.W.specialIn K (.ref C_Heap) "__getattribute__" = some (some (.builtin "type.__getattribute__")))
    {s_SIDES : Addr} {d_SIDES : Option Addr} {n_SIDES : Nat} {o_SIDES : Array (Option Value)} {t0_SIDES t1_SIDES : Tok} (a_SIDES : PySem.W.findCls K (.ref C_Heap) (.type "type") "SIDES" = some (.val (.ref s_SIDES))) (l_SIDES : K.lookup s_SIDES = some ⟨.type "tuple", d_SIDES, .seq #[.str "across" t0_SIDES, .str "along" t1_SIDES] n_SIDES, o_SIDES⟩)
    (hn : PySem.W.specialIn K (.builtin "object.__class__") "__get__" = some (some (.builtin "getset_descriptor.__get__"))) (ht : PySem.W.takesIn K (.builtin "object.__class__") = some true)
    {CGrainError : Addr} {DGrainError : ClassData} (aGrainError : PySem.W.nsIn K mainGlobals "GrainError" = some (some (.ref CGrainError))) (cGrainError : PySem.W.clsIn K CGrainError = some DGrainError) (nGrainError : DGrainError.name = "GrainError") (tGrainError : PySem.W.typeIn K (.ref CGrainError) = some (.type "type")) (sbGrainError : PySem.W.subIn K (.ref CGrainError) (.type "BaseException") = some true)
    {CGrainMissing : Addr} {DGrainMissing : ClassData} (aGrainMissing : PySem.W.nsIn K mainGlobals "GrainMissing" = some (some (.ref CGrainMissing))) (cGrainMissing : PySem.W.clsIn K CGrainMissing = some DGrainMissing) (nGrainMissing : DGrainMissing.name = "GrainMissing") (tGrainMissing : PySem.W.typeIn K (.ref CGrainMissing) = some (.type "type")) (sbGrainMissing : PySem.W.subIn K (.ref CGrainMissing) (.type "BaseException") = some true)
    (E_BadRoot : ErW PySem.Challenge.pw_grainyard_k24_recipes_as_lists K mg "ValueError" "ValueError.__new__" "ValueError.__init__" [.type "ValueError", .type "Exception", .type "BaseException", .type "object"] [.ref CGrainError] i_BadRoot "BadRoot" "BadRoot.__init__" ["word", "number"])
    (E_BadCount : ErW PySem.Challenge.pw_grainyard_k24_recipes_as_lists K mg "ValueError" "ValueError.__new__" "ValueError.__init__" [.type "ValueError", .type "Exception", .type "BaseException", .type "object"] [.ref CGrainError] i_BadCount "BadCount" "BadCount.__init__" ["word", "number"])
    (E_BadRow : ErW PySem.Challenge.pw_grainyard_k24_recipes_as_lists K mg "ValueError" "ValueError.__new__" "ValueError.__init__" [.type "ValueError", .type "Exception", .type "BaseException", .type "object"] [.ref CGrainError] i_BadRow "BadRow" "BadRow.__init__" ["word", "at"])
    (E_OtherRoot : ErW PySem.Challenge.pw_grainyard_k24_recipes_as_lists K mg "ValueError" "ValueError.__new__" "ValueError.__init__" [.type "ValueError", .type "Exception", .type "BaseException", .type "object"] [.ref CGrainError] i_OtherRoot "OtherRoot" "OtherRoot.__init__" ["word"])
    (E_BadStep : ErW PySem.Challenge.pw_grainyard_k24_recipes_as_lists K mg "ValueError" "ValueError.__new__" "ValueError.__init__" [.type "ValueError", .type "Exception", .type "BaseException", .type "object"] [.ref CGrainError] i_BadStep "BadStep" "BadStep.__init__" ["word", "at"])
    (E_NoSheet : ErW PySem.Challenge.pw_grainyard_k24_recipes_as_lists K mg "LookupError" "LookupError.__new__" "LookupError.__init__" [.type "LookupError", .type "Exception", .type "BaseException", .type "object"] [.ref CGrainMissing] i_NoSheet "NoSheet" "NoSheet.__init__" ["word", "sheet"])
    (E_NothingLeft : ErW PySem.Challenge.pw_grainyard_k24_recipes_as_lists K mg "IndexError" "IndexError.__new__" "IndexError.__init__" [.type "IndexError", .type "LookupError", .type "Exception", .type "BaseException", .type "object"] [] i_NothingLeft "NothingLeft" "NothingLeft.__init__" ["word"])
    (tabL : h.get? PL = some { cls := .none, data := .fields #[] }) (noL : K.lookup PL = none) (hdL : PySem.W.codeHdIn K cL PL = true) : LamX.LawAtS l w K CX0 18 63 "_law_script" mg fa h := by
  have e := hfa.symm.trans (PySem.W.mg_of X G a39)
  cases e
  have F0 := fun_mk (st := s_turned) l0 c0 k0
  have b0 := F0.binds (ps := ["sheet"]) fun _ _ _ _ _ _ us hl => match us, hl with | [_], _ => rfl
  have F1 := fun_mk (st := s_is_pair) l1 c1 k1
  have b1 := F1.binds (ps := ["item"]) fun _ _ _ _ _ _ us hl => match us, hl with | [_], _ => rfl
  have F2 := fun_mk (st := s_is_two_pairs) l2 c2 k2
  have b2 := F2.binds (ps := ["item"]) fun _ _ _ _ _ _ us hl => match us, hl with | [_], _ => rfl
  have F3 := fun_mk (st := s_fits) l3 c3 k3
  have b3 := F3.binds (ps := ["item", "kind"]) fun _ _ _ _ _ _ us hl => match us, hl with | [_, _], _ => rfl
  have F4 := fun_mk (st := s_has_shape) l4 c4 k4
  have b4 := F4.binds (ps := ["step"]) fun _ _ _ _ _ _ us hl => match us, hl with | [_], _ => rfl
  have F5 := fun_mk (st := s_side_of) l5 c5 k5
  have b5 := F5.binds (ps := ["sheet", "side"]) fun _ _ _ _ _ _ us hl => match us, hl with | [_, _], _ => rfl
  have F6 := fun_mk (st := s_is_even_split) l6 c6 k6
  have b6 := F6.binds (ps := ["step"]) fun _ _ _ _ _ _ us hl => match us, hl with | [_], _ => rfl
  have F7 := fun_mk (st := s_is_even_glue) l7 c7 k7
  have b7 := F7.binds (ps := ["step"]) fun _ _ _ _ _ _ us hl => match us, hl with | [_], _ => rfl
  have F8 := fun_mk (st := s_is_step) l8 c8 k8
  have b8 := F8.binds (ps := ["step"]) fun _ _ _ _ _ _ us hl => match us, hl with | [_], _ => rfl
  have F9 := fun_mk (st := s_check_steps) l9 c9 k9
  have b9 := F9.binds (ps := ["steps"]) fun _ _ _ _ _ _ us hl => match us, hl with | [_], _ => rfl
  have F10 := fun_mk (st := s_is_allowed) l10 c10 k10
  have b10 := F10.binds (ps := ["step", "turning"]) fun _ _ _ _ _ _ us hl => match us, hl with | [_, _], _ => rfl
  have F11 := fun_mk (st := s_check_allowed) l11 c11 k11
  have b11 := F11.binds (ps := ["steps", "turning"]) fun _ _ _ _ _ _ us hl => match us, hl with | [_, _], _ => rfl
  have F12 : FunD K "__init__" "Recipe.__init__" (defArgs s_Recipe_init) (defBody s_Recipe_init) (defScope s_Recipe_init) [.ref r012] [("turning", .bl false)] f12 _ := ⟨⟨_, _, _, _, _, _, _, _, _, _, rfl, l12, c12, .inr ⟨by simp, T12, _, [.ref r012], _, rfl, t12, rfl, .cons rfl .nil⟩, .inr ⟨D12, rfl, fun q hq => by rw [List.mem_singleton.mp hq]; exact ⟨_, kd12, rfl⟩⟩⟩, k12⟩
  have b12 := bd_dk (more := []) l12 t12 kd12 (ps := ["self", "steps", "turning"]) (fun us hl => match us, hl with | [_, _], _ => ⟨_, rfl, _, _, _, _, _, _, rfl, rfl, rfl⟩)
  have e12 := bd_dk (more := [.ref r012]) l12 t12 kd12 (ps := ["self", "steps", "turning"]) (fun us hl => match us, hl with | [_], _ => ⟨_, rfl, _, _, _, _, _, _, rfl, rfl, rfl⟩)
  have F13 := fun_mk (st := s_Recipe_steps) l13 c13 k13
  have b13 := F13.binds (ps := ["self"]) fun _ _ _ _ _ _ us hl => match us, hl with | [_], _ => rfl
  have F14 := fun_mk (st := s_Recipe_turning) l14 c14 k14
  have b14 := F14.binds (ps := ["self"]) fun _ _ _ _ _ _ us hl => match us, hl with | [_], _ => rfl
  have F15 := fun_mk (st := s_Recipe_eq) l15 c15 k15
  have b15 := F15.binds (ps := ["self", "other"]) fun _ _ _ _ _ _ us hl => match us, hl with | [_, _], _ => rfl
  have F16 := fun_mk (st := s_Recipe_len) l16 c16 k16
  have b16 := F16.binds (ps := ["self"]) fun _ _ _ _ _ _ us hl => match us, hl with | [_], _ => rfl
  have F17 := fun_mk (st := s_Recipe_repr) l17 c17 k17
  have b17 := F17.binds (ps := ["self"]) fun _ _ _ _ _ _ us hl => match us, hl with | [_], _ => rfl
  have F18 := fun_mk (st := s_source) l18 c18 k18
  have b18 := F18.binds (ps := ["_law_script"]) fun _ _ _ _ _ _ us hl => match us, hl with | [_], _ => rfl
  have F19 := fun_mk (st := s_pull) l19 c19 k19
  have b19 := F19.binds (ps := ["_law_bag", "_law_size"]) fun _ _ _ _ _ _ us hl => match us, hl with | [_, _], _ => rfl
  have F20 := fun_mk (st := s_of) l20 c20 k20
  have b20 := F20.binds (ps := ["_law_bag", "_law_some"]) fun _ _ _ _ _ _ us hl => match us, hl with | [_, _], _ => rfl
  have F21 := fun_mk (st := s_roots) l21 c21 k21
  have b21 := F21.binds (ps := []) fun _ _ _ _ _ _ us hl => match us, hl with | [], _ => rfl
  have F22 := fun_mk (st := s_a_root) l22 c22 k22
  have b22 := F22.binds (ps := ["_law_bag"]) fun _ _ _ _ _ _ us hl => match us, hl with | [_], _ => rfl
  have F23 := fun_mk (st := s_any_pair) l23 c23 k23
  have b23 := F23.binds (ps := ["_law_bag"]) fun _ _ _ _ _ _ us hl => match us, hl with | [_], _ => rfl
  have F24 := fun_mk (st := s_lsign) l24 c24 k24
  have b24 := F24.binds (ps := ["_law_pair", "_law_root"]) fun _ _ _ _ _ _ us hl => match us, hl with | [_, _], _ => rfl
  have F25 := fun_mk (st := s_a_length) l25 c25 k25
  have b25 := F25.binds (ps := ["_law_bag", "_law_root"]) fun _ _ _ _ _ _ us hl => match us, hl with | [_, _], _ => rfl
  have F26 := fun_mk (st := s_a_sheet) l26 c26 k26
  have b26 := F26.binds (ps := ["_law_bag", "_law_root"]) fun _ _ _ _ _ _ us hl => match us, hl with | [_, _], _ => rfl
  have F27 := fun_mk (st := s_lscaled) l27 c27 k27
  have b27 := F27.binds (ps := ["_law_pair", "_law_number"]) fun _ _ _ _ _ _ us hl => match us, hl with | [_, _], _ => rfl
  have F28 := fun_mk (st := s_lside_of) l28 c28 k28
  have b28 := F28.binds (ps := ["_law_sheet", "_law_side"]) fun _ _ _ _ _ _ us hl => match us, hl with | [_, _], _ => rfl
  have F29 := fun_mk (st := s_with) l29 c29 k29
  have b29 := F29.binds (ps := ["_law_sheet", "_law_side", "_law_pair"]) fun _ _ _ _ _ _ us hl => match us, hl with | [_, _, _], _ => rfl
  have F30 := fun_mk (st := s_any_step) l30 c30 k30
  have b30 := F30.binds (ps := ["_law_bag", "_law_root"]) fun _ _ _ _ _ _ us hl => match us, hl with | [_, _], _ => rfl
  have F31 := fun_mk (st := s_odd_step) l31 c31 k31
  have b31 := F31.binds (ps := ["_law_bag", "_law_step"]) fun _ _ _ _ _ _ us hl => match us, hl with | [_, _], _ => rfl
  have F32 := fun_mk (st := s_lis_pair) l32 c32 k32
  have b32 := F32.binds (ps := ["_law_x"]) fun _ _ _ _ _ _ us hl => match us, hl with | [_], _ => rfl
  have F33 := fun_mk (st := s_is_pairs) l33 c33 k33
  have b33 := F33.binds (ps := ["_law_x"]) fun _ _ _ _ _ _ us hl => match us, hl with | [_], _ => rfl
  have F34 := fun_mk (st := s_at_least) l34 c34 k34
  have b34 := F34.binds (ps := ["_law_x", "_law_least"]) fun _ _ _ _ _ _ us hl => match us, hl with | [_, _], _ => rfl
  have F35 := fun_mk (st := s_good_step) l35 c35 k35
  have b35 := F35.binds (ps := ["_law_step"]) fun _ _ _ _ _ _ us hl => match us, hl with | [_], _ => rfl
  have F36 := fun_mk (st := s_field_of) l36 c36 k36
  have b36 := F36.binds (ps := ["_law_e"]) fun _ _ _ _ _ _ us hl => match us, hl with | [_], _ => rfl
  have F37 := fun_mk (st := s_try) l37 c37 k37
  have b37 := F37.binds (ps := ["_law_ask"]) fun _ _ _ _ _ _ us hl => match us, hl with | [_], _ => rfl
  have F38 := fun_mk (st := s_like) l38 c38 k38
  have b38 := F38.binds (ps := ["_law_found", "_law_due"]) fun _ _ _ _ _ _ us hl => match us, hl with | [_, _], _ => rfl
  have F39 := fun_mk (st := s_law) l39 c39 k39
  obtain ⟨T, eT⟩ : ∃ T : Txt K mg, T.u_SHAPES = u_SHAPES := ⟨{
    f_turned := f0
    d_turned := _
    F_turned := F0
    g_turned := PySem.W.mg_of X G a0
    b_turned := b0
    f_is_pair := f1
    d_is_pair := _
    F_is_pair := F1
    g_is_pair := PySem.W.mg_of X G a1
    b_is_pair := b1
    f_is_two_pairs := f2
    d_is_two_pairs := _
    F_is_two_pairs := F2
    g_is_two_pairs := PySem.W.mg_of X G a2
    b_is_two_pairs := b2
    f_fits := f3
    d_fits := _
    F_fits := F3
    g_fits := PySem.W.mg_of X G a3
    b_fits := b3
    f_has_shape := f4
    d_has_shape := _
    F_has_shape := F4
    g_has_shape := PySem.W.mg_of X G a4
    b_has_shape := b4
    f_side_of := f5
    d_side_of := _
    F_side_of := F5
    g_side_of := PySem.W.mg_of X G a5
    b_side_of := b5
    f_is_even_split := f6
    d_is_even_split := _
    F_is_even_split := F6
    g_is_even_split := PySem.W.mg_of X G a6
    b_is_even_split := b6
    f_is_even_glue := f7
    d_is_even_glue := _
    F_is_even_glue := F7
    g_is_even_glue := PySem.W.mg_of X G a7
    b_is_even_glue := b7
    f_is_step := f8
    d_is_step := _
    F_is_step := F8
    g_is_step := PySem.W.mg_of X G a8
    b_is_step := b8
    f_check_steps := f9
    d_check_steps := _
    F_check_steps := F9
    g_check_steps := PySem.W.mg_of X G a9
    b_check_steps := b9
    f_is_allowed := f10
    d_is_allowed := _
    F_is_allowed := F10
    g_is_allowed := PySem.W.mg_of X G a10
    b_is_allowed := b10
    f_check_allowed := f11
    d_check_allowed := _
    F_check_allowed := F11
    g_check_allowed := PySem.W.mg_of X G a11
    b_check_allowed := b11
    C_Recipe := C_Recipe
    cl_Recipe := .mk pg_Recipe hd_Recipe po_Recipe sa_Recipe
    g_Recipe := PySem.W.mg_of X G aC_Recipe
    sf_Recipe := sf_Recipe
    nq_Recipe := nq_Recipe
    n_Recipe_listed := n_Recipe_listed
    n_Recipe_allowed := n_Recipe_allowed
    M_Recipe := .mk mk_Recipe a12 i12 kc_Recipe
    mo_Recipe := mo_Recipe
    ne_Recipe := ne_Recipe
    ca_Recipe := ca_Recipe
    x_Recipe_rmul := x_Recipe_rmul
    i_mul := i_mul
    i_rmul := i_rmul
    is_Recipe := is_Recipe
    nl_Recipe := nl_Recipe
    ic_Recipe := ic_Recipe
    tw_Recipe := tw_Recipe
    f_Recipe_init := f12
    d_Recipe_init := _
    r0_Recipe_init := r012
    F_Recipe_init := F12
    b_Recipe_init := b12
    b0_Recipe_init := e12
    v0_Recipe_init := .cons rfl (.cons rfl .nil)
    v1_Recipe_init := .cons rfl .nil
    z0_Recipe_init := .mk y12a
    m_Recipe_steps := .mk a13 i13 k13
    f_Recipe_steps := f13
    d_Recipe_steps := _
    F_Recipe_steps := F13
    b_Recipe_steps := b13
    p_Recipe_turning := p14
    pr_Recipe_turning := PropOf.mk a14 gp14 tp14 (.intro _ rp14)
    f_Recipe_turning := f14
    d_Recipe_turning := _
    F_Recipe_turning := F14
    b_Recipe_turning := b14
    m_Recipe_eq := .mk a15 i15 k15
    f_Recipe_eq := f15
    d_Recipe_eq := _
    F_Recipe_eq := F15
    b_Recipe_eq := b15
    m_Recipe_len := .mk a16 i16 k16
    f_Recipe_len := f16
    d_Recipe_len := _
    F_Recipe_len := F16
    b_Recipe_len := b16
    m_Recipe_repr := .mk a17 i17 k17
    f_Recipe_repr := f17
    d_Recipe_repr := _
    F_Recipe_repr := F17
    b_Recipe_repr := b17
    f_source := f18
    d_source := _
    F_source := F18
    g_source := PySem.W.mg_of X G a18
    b_source := b18
    f_pull := f19
    d_pull := _
    F_pull := F19
    g_pull := PySem.W.mg_of X G a19
    b_pull := b19
    f_of := f20
    d_of := _
    F_of := F20
    g_of := PySem.W.mg_of X G a20
    b_of := b20
    f_roots := f21
    d_roots := _
    F_roots := F21
    g_roots := PySem.W.mg_of X G a21
    b_roots := b21
    f_a_root := f22
    d_a_root := _
    F_a_root := F22
    g_a_root := PySem.W.mg_of X G a22
    b_a_root := b22
    f_any_pair := f23
    d_any_pair := _
    F_any_pair := F23
    g_any_pair := PySem.W.mg_of X G a23
    b_any_pair := b23
    f_lsign := f24
    d_lsign := _
    F_lsign := F24
    g_lsign := PySem.W.mg_of X G a24
    b_lsign := b24
    f_a_length := f25
    d_a_length := _
    F_a_length := F25
    g_a_length := PySem.W.mg_of X G a25
    b_a_length := b25
    f_a_sheet := f26
    d_a_sheet := _
    F_a_sheet := F26
    g_a_sheet := PySem.W.mg_of X G a26
    b_a_sheet := b26
    f_lscaled := f27
    d_lscaled := _
    F_lscaled := F27
    g_lscaled := PySem.W.mg_of X G a27
    b_lscaled := b27
    f_lside_of := f28
    d_lside_of := _
    F_lside_of := F28
    g_lside_of := PySem.W.mg_of X G a28
    b_lside_of := b28
    f_with := f29
    d_with := _
    F_with := F29
    g_with := PySem.W.mg_of X G a29
    b_with := b29
    f_any_step := f30
    d_any_step := _
    F_any_step := F30
    g_any_step := PySem.W.mg_of X G a30
    b_any_step := b30
    f_odd_step := f31
    d_odd_step := _
    F_odd_step := F31
    g_odd_step := PySem.W.mg_of X G a31
    b_odd_step := b31
    f_lis_pair := f32
    d_lis_pair := _
    F_lis_pair := F32
    g_lis_pair := PySem.W.mg_of X G a32
    b_lis_pair := b32
    f_is_pairs := f33
    d_is_pairs := _
    F_is_pairs := F33
    g_is_pairs := PySem.W.mg_of X G a33
    b_is_pairs := b33
    f_at_least := f34
    d_at_least := _
    F_at_least := F34
    g_at_least := PySem.W.mg_of X G a34
    b_at_least := b34
    f_good_step := f35
    d_good_step := _
    F_good_step := F35
    g_good_step := PySem.W.mg_of X G a35
    b_good_step := b35
    f_field_of := f36
    d_field_of := _
    F_field_of := F36
    g_field_of := PySem.W.mg_of X G a36
    b_field_of := b36
    f_try := f37
    d_try := _
    F_try := F37
    g_try := PySem.W.mg_of X G a37
    b_try := b37
    f_like := f38
    d_like := _
    F_like := F38
    g_like := PySem.W.mg_of X G a38
    b_like := b38
    n_ValueError := PySem.W.mg_none_of X G z0
    n_LookupError := PySem.W.mg_none_of X G z1
    n_IndexError := PySem.W.mg_none_of X G z2
    n_enumerate := PySem.W.mg_none_of X G z3
    n_isinstance := PySem.W.mg_none_of X G z4
    n_range := PySem.W.mg_none_of X G z5
    n_str := PySem.W.mg_none_of X G z6
    n_sum := PySem.W.mg_none_of X G z7
    n_list := PySem.W.mg_none_of X G z8
    n_bool := PySem.W.mg_none_of X G z9
    n_len := PySem.W.mg_none_of X G z10
    n_tuple := PySem.W.mg_none_of X G z11
    n_int := PySem.W.mg_none_of X G z12
    n_all := PySem.W.mg_none_of X G z13
    n_abs := PySem.W.mg_none_of X G z14
    n_sorted := PySem.W.mg_none_of X G z15
    n_repr := PySem.W.mg_none_of X G z16
    n_zip := PySem.W.mg_none_of X G z17
    kb_Recipe_init_turning := kbn_Recipe_init_turning F12
    r_GrainError := CGrainError
    g_GrainError := PySem.W.mg_of X G aGrainError
    c_GrainError := .intro _ ⟨cGrainError,nGrainError⟩
    t_GrainError := tGrainError
    sb_GrainError := sbGrainError
    r_GrainMissing := CGrainMissing
    g_GrainMissing := PySem.W.mg_of X G aGrainMissing
    c_GrainMissing := .intro _ ⟨cGrainMissing,nGrainMissing⟩
    t_GrainMissing := tGrainMissing
    sb_GrainMissing := sbGrainMissing
    e_BadRoot := E_BadRoot.e
    x_BadRoot_word := E_BadRoot.no _ (by simp)
    x_BadRoot_number := E_BadRoot.no _ (by simp)
    e_BadCount := E_BadCount.e
    x_BadCount_word := E_BadCount.no _ (by simp)
    x_BadCount_number := E_BadCount.no _ (by simp)
    e_BadRow := E_BadRow.e
    x_BadRow_word := E_BadRow.no _ (by simp)
    x_BadRow_at := E_BadRow.no _ (by simp)
    e_OtherRoot := E_OtherRoot.e
    x_OtherRoot_word := E_OtherRoot.no _ (by simp)
    e_BadStep := E_BadStep.e
    x_BadStep_word := E_BadStep.no _ (by simp)
    x_BadStep_at := E_BadStep.no _ (by simp)
    e_NoSheet := E_NoSheet.e
    x_NoSheet_word := E_NoSheet.no _ (by simp)
    x_NoSheet_sheet := E_NoSheet.no _ (by simp)
    e_NothingLeft := E_NothingLeft.e
    x_NothingLeft_word := E_NothingLeft.no _ (by simp)
    hn := hn
    ht := ht
    u_SHAPES := u_SHAPES
    g_SHAPES := PySem.W.mg_of X G a_SHAPES
    p_SHAPES_saw := p_SHAPES_saw
    h_SHAPES_saw := h_SHAPES_saw
    q_SHAPES_saw := fun _ => .inr ⟨_, _, _, l_SHAPES_saw, rfl, rfl, Nat.le_of_lt (small1000 (show 4 ≤ 1000 from of_decide_eq_true rfl)), (.cons ⟨_, rfl⟩ (.cons ⟨_, rfl⟩ (.cons ⟨_, rfl⟩ (.cons ⟨_, rfl⟩ .nil))))⟩
    p_SHAPES_split := p_SHAPES_split
    h_SHAPES_split := h_SHAPES_split
    q_SHAPES_split := fun _ => .inr ⟨_, _, _, l_SHAPES_split, rfl, rfl, Nat.le_of_lt (small1000 (show 4 ≤ 1000 from of_decide_eq_true rfl)), (.cons ⟨_, rfl⟩ (.cons ⟨_, rfl⟩ (.cons ⟨_, rfl⟩ (.cons ⟨_, rfl⟩ .nil))))⟩
    p_SHAPES_glue := p_SHAPES_glue
    h_SHAPES_glue := h_SHAPES_glue
    q_SHAPES_glue := fun _ => .inr ⟨_, _, _, l_SHAPES_glue, rfl, rfl, Nat.le_of_lt (small1000 (show 4 ≤ 1000 from of_decide_eq_true rfl)), (.cons ⟨_, rfl⟩ (.cons ⟨_, rfl⟩ (.cons ⟨_, rfl⟩ (.cons ⟨_, rfl⟩ .nil))))⟩
    p_SHAPES_stack := p_SHAPES_stack
    h_SHAPES_stack := h_SHAPES_stack
    q_SHAPES_stack := fun _ => .inr ⟨_, _, _, l_SHAPES_stack, rfl, rfl, Nat.le_of_lt (small1000 (show 4 ≤ 1000 from of_decide_eq_true rfl)), (.cons ⟨_, rfl⟩ (.cons ⟨_, rfl⟩ (.cons ⟨_, rfl⟩ (.cons ⟨_, rfl⟩ .nil))))⟩
    p_SHAPES_turn := p_SHAPES_turn
    h_SHAPES_turn := h_SHAPES_turn
    q_SHAPES_turn := fun _ => .inr ⟨_, _, _, l_SHAPES_turn, rfl, rfl, Nat.le_of_lt (small1000 (show 2 ≤ 1000 from of_decide_eq_true rfl)), (.cons ⟨_, rfl⟩ (.cons ⟨_, rfl⟩ .nil))⟩
    m0_SHAPES := m0_SHAPES
    m1_SHAPES := m1_SHAPES
    m2_SHAPES := m2_SHAPES
    m3_SHAPES := m3_SHAPES
    m4_SHAPES := m4_SHAPES
    C_Heap := C_Heap
    g_Heap := PySem.W.mg_of X G aC_Heap
    cr_Heap := .mk rd_Heap gt_Heap
    s_SIDES := s_SIDES
    cv_SIDES := .mk a_SIDES rfl
    sq_SIDES := fun _ => .inr ⟨_, _, _, l_SIDES, rfl, rfl, Nat.le_of_lt (small1000 (show 2 ≤ 1000 from of_decide_eq_true rfl)), (.cons ⟨_, rfl⟩ (.cons ⟨_, rfl⟩ .nil))⟩ }, rfl⟩
  refine ⟨PySem.W.fnOf "law" "law" (defArgs s_law) (defBody s_law) (defScope s_law) .none kV39 dc39 pm39 an39 (.ref cL) ct39, [(cL, PL)], spLaw K PL, fun p hp => ?_, fun p hp => ?_, fun p hp => ?_, fun s v => .of_eq rfl, fun H a ns hl _ hP hS => ⟨a, ns, rfl, hS, hl, hP _ (List.mem_singleton.mpr rfl), fun _ => rfl⟩, fun base _ _ TB => ?_⟩
  · rw [List.mem_singleton.mp hp]
    exact tabL
  · rw [List.mem_singleton.mp hp]
    exact noL
  · rw [List.mem_singleton.mp hp]
    exact PySem.W.codeHd_of_K X hdL
  · rw [hprog]
    exact ok_law l39 c39 (TB _ (List.mem_singleton.mpr rfl)) T (by rw [eT]; exact ⟨_, _, kat_SHAPES, kl_SHAPES, klow_SHAPES⟩)
end Gy
open PySem PySem.W PyProof.Rows
set_option maxRecDepth 100000 in
set_option maxHeartbeats 0 in
theorem PySem.Challenge.cw_grainyard_k24_recipes_as_lists_holds : PySem.Challenge.rw_grainyard_k24_recipes_as_lists.Holds := by
  w_on; o_law; k_head; (case hw => w_witness2)
  k_fill
  refine LamX.walk_ofTs (l := PySem.Challenge.rw_grainyard_k24_recipes_as_lists) (n := 63) (k := 18) (x := "_law_script") (CX := fun _ => L2.CX0) rfl (by decide) rfl ⟨rfl, by decide, by decide⟩ (fun w h Y => PySem.W.km_in_of Y) ?F (fun _ _ _ _ _ h => h)
  case F =>
    intro w mg fa h Y KX G hmg
    have hT := PySem.W.km_tabs_of Y
    refine' Gy.all_mk KX G hmg rfl ?aC_Recipe ?pg_Recipe ?hd_Recipe ?po_Recipe ?sa_Recipe ?mk_Recipe ?kc_Recipe ?sf_Recipe ?nq_Recipe ?n_Recipe_listed ?n_Recipe_allowed ?mo_Recipe ?ne_Recipe ?ca_Recipe ?x_Recipe_rmul ?i_mul ?i_rmul ?is_Recipe ?nl_Recipe ?ic_Recipe ?tw_Recipe ?a0 ?l0 ?c0 ?k0 ?a1 ?l1 ?c1 ?k1 ?a2 ?l2 ?c2 ?k2 ?a3 ?l3 ?c3 ?k3 ?a4 ?l4 ?c4 ?k4 ?a5 ?l5 ?c5 ?k5 ?a6 ?l6 ?c6 ?k6 ?a7 ?l7 ?c7 ?k7 ?a8 ?l8 ?c8 ?k8 ?a9 ?l9 ?c9 ?k9 ?a10 ?l10 ?c10 ?k10 ?a11 ?l11 ?c11 ?k11 ?a12 ?i12 ?l12 ?c12 ?k12 ?t12 ?y12a ?kd12 ?a13 ?i13 ?l13 ?c13 ?k13 ?a14 ?gp14 ?tp14 ?rp14 ?l14 ?c14 ?k14 ?a15 ?i15 ?l15 ?c15 ?k15 ?a16 ?i16 ?l16 ?c16 ?k16 ?a17 ?i17 ?l17 ?c17 ?k17 ?a18 ?l18 ?c18 ?k18 ?a19 ?l19 ?c19 ?k19 ?a20 ?l20 ?c20 ?k20 ?a21 ?l21 ?c21 ?k21 ?a22 ?l22 ?c22 ?k22 ?a23 ?l23 ?c23 ?k23 ?a24 ?l24 ?c24 ?k24 ?a25 ?l25 ?c25 ?k25 ?a26 ?l26 ?c26 ?k26 ?a27 ?l27 ?c27 ?k27 ?a28 ?l28 ?c28 ?k28 ?a29 ?l29 ?c29 ?k29 ?a30 ?l30 ?c30 ?k30 ?a31 ?l31 ?c31 ?k31 ?a32 ?l32 ?c32 ?k32 ?a33 ?l33 ?c33 ?k33 ?a34 ?l34 ?c34 ?k34 ?a35 ?l35 ?c35 ?k35 ?a36 ?l36 ?c36 ?k36 ?a37 ?l37 ?c37 ?k37 ?a38 ?l38 ?c38 ?k38 ?a39 ?l39 ?c39 ?k39 ?z0 ?z1 ?z2 ?z3 ?z4 ?z5 ?z6 ?z7 ?z8 ?z9 ?z10 ?z11 ?z12 ?z13 ?z14 ?z15 ?z16 ?z17 ?a_SHAPES ?kat_SHAPES ?kl_SHAPES ?klow_SHAPES ?h_SHAPES_saw ?l_SHAPES_saw ?h_SHAPES_split ?l_SHAPES_split ?h_SHAPES_glue ?l_SHAPES_glue ?h_SHAPES_stack ?l_SHAPES_stack ?h_SHAPES_turn ?l_SHAPES_turn ?m0_SHAPES ?m1_SHAPES ?m2_SHAPES ?m3_SHAPES ?m4_SHAPES ?aC_Heap ?rd_Heap ?gt_Heap ?a_SIDES ?l_SIDES ?hn ?ht ?aGrainError ?cGrainError ?nGrainError ?tGrainError ?sbGrainError ?aGrainMissing ?cGrainMissing ?nGrainMissing ?tGrainMissing ?sbGrainMissing ?E_BadRoot ?E_BadCount ?E_BadRow ?E_OtherRoot ?E_BadStep ?E_NoSheet ?E_NothingLeft ?tabL ?noL ?hdL
    (case aC_Recipe => k_is); (case pg_Recipe => k_is); (case hd_Recipe => k_is); (case po_Recipe => k_is); (case sa_Recipe => k_is); (case mk_Recipe => k_is); (case kc_Recipe => k_is); (case sf_Recipe => k_is); (case nq_Recipe => k_is); (case n_Recipe_listed => k_is); (case n_Recipe_allowed => k_is); (case mo_Recipe => k_is); (case ne_Recipe => k_is); (case ca_Recipe => k_is); (case x_Recipe_rmul => k_is); (case i_mul => k_is); (case i_rmul => k_is); (case is_Recipe => k_is); (case nl_Recipe => k_is); (case ic_Recipe => k_is); (case tw_Recipe => k_is); (case a0 => k_is); (case l0 => k_is); (case c0 => k_is); (case k0 => k_is); (case a1 => k_is); (case l1 => k_is); (case c1 => k_is); (case k1 => k_is); (case a2 => k_is); (case l2 => k_is); (case c2 => k_is); (case k2 => k_is); (case a3 => k_is); (case l3 => k_is); (case c3 => k_is); (case k3 => k_is); (case a4 => k_is); (case l4 => k_is); (case c4 => k_is); (case k4 => k_is); (case a5 => k_is); (case l5 => k_is); (case c5 => k_is); (case k5 => k_is); (case a6 => k_is); (case l6 => k_is); (case c6 => k_is); (case k6 => k_is); (case a7 => k_is); (case l7 => k_is); (case c7 => k_is); (case k7 => k_is); (case a8 => k_is); (case l8 => k_is); (case c8 => k_is); (case k8 => k_is); (case a9 => k_is); (case l9 => k_is); (case c9 => k_is); (case k9 => k_is); (case a10 => k_is); (case l10 => k_is); (case c10 => k_is); (case k10 => k_is); (case a11 => k_is); (case l11 => k_is); (case c11 => k_is); (case k11 => k_is); (case a12 => k_is); (case i12 => k_is); (case l12 => k_is); (case c12 => k_is); (case k12 => k_is); (case t12 => k_is); (case y12a => k_is); (case kd12 => k_is); (case a13 => k_is); (case i13 => k_is); (case l13 => k_is); (case c13 => k_is); (case k13 => k_is); (case a14 => k_is); (case gp14 => k_is); (case tp14 => k_is); (case rp14 => k_is); (case l14 => k_is); (case c14 => k_is); (case k14 => k_is); (case a15 => k_is); (case i15 => k_is); (case l15 => k_is); (case c15 => k_is); (case k15 => k_is); (case a16 => k_is); (case i16 => k_is); (case l16 => k_is); (case c16 => k_is); (case k16 => k_is); (case a17 => k_is); (case i17 => k_is); (case l17 => k_is); (case c17 => k_is); (case k17 => k_is); (case a18 => k_is); (case l18 => k_is); (case c18 => k_is); (case k18 => k_is); (case a19 => k_is); (case l19 => k_is); (case c19 => k_is); (case k19 => k_is); (case a20 => k_is); (case l20 => k_is); (case c20 => k_is); (case k20 => k_is); (case a21 => k_is); (case l21 => k_is); (case c21 => k_is); (case k21 => k_is); (case a22 => k_is); (case l22 => k_is); (case c22 => k_is); (case k22 => k_is); (case a23 => k_is); (case l23 => k_is); (case c23 => k_is); (case k23 => k_is); (case a24 => k_is); (case l24 => k_is); (case c24 => k_is); (case k24 => k_is); (case a25 => k_is); (case l25 => k_is); (case c25 => k_is); (case k25 => k_is); (case a26 => k_is); (case l26 => k_is); (case c26 => k_is); (case k26 => k_is); (case a27 => k_is); (case l27 => k_is); (case c27 => k_is); (case k27 => k_is); (case a28 => k_is); (case l28 => k_is); (case c28 => k_is); (case k28 => k_is); (case a29 => k_is); (case l29 => k_is); (case c29 => k_is); (case k29 => k_is); (case a30 => k_is); (case l30 => k_is); (case c30 => k_is); (case k30 => k_is); (case a31 => k_is); (case l31 => k_is); (case c31 => k_is); (case k31 => k_is); (case a32 => k_is); (case l32 => k_is); (case c32 => k_is); (case k32 => k_is); (case a33 => k_is); (case l33 => k_is); (case c33 => k_is); (case k33 => k_is); (case a34 => k_is); (case l34 => k_is); (case c34 => k_is); (case k34 => k_is); (case a35 => k_is); (case l35 => k_is); (case c35 => k_is); (case k35 => k_is); (case a36 => k_is); (case l36 => k_is); (case c36 => k_is); (case k36 => k_is); (case a37 => k_is); (case l37 => k_is); (case c37 => k_is); (case k37 => k_is); (case a38 => k_is); (case l38 => k_is); (case c38 => k_is); (case k38 => k_is); (case a39 => k_is); (case l39 => k_is); (case c39 => k_is); (case k39 => k_is); (case z0 => k_is); (case z1 => k_is); (case z2 => k_is); (case z3 => k_is); (case z4 => k_is); (case z5 => k_is); (case z6 => k_is); (case z7 => k_is); (case z8 => k_is); (case z9 => k_is); (case z10 => k_is); (case z11 => k_is); (case z12 => k_is); (case z13 => k_is); (case z14 => k_is); (case z15 => k_is); (case z16 => k_is); (case z17 => k_is); (case a_SHAPES => k_is); (case kat_SHAPES => k_is); (case kl_SHAPES => exact ⟨⟨_, _, rfl, rfl⟩, ⟨⟨_, _, rfl, rfl⟩, ⟨⟨_, _, rfl, rfl⟩, ⟨⟨_, _, rfl, rfl⟩, ⟨⟨_, _, rfl, rfl⟩, trivial⟩⟩⟩⟩⟩); (case klow_SHAPES => first | rfl | decide); (case h_SHAPES_saw => k_is); (case l_SHAPES_saw => k_is); (case h_SHAPES_split => k_is); (case l_SHAPES_split => k_is); (case h_SHAPES_glue => k_is); (case l_SHAPES_glue => k_is); (case h_SHAPES_stack => k_is); (case l_SHAPES_stack => k_is); (case h_SHAPES_turn => k_is); (case l_SHAPES_turn => k_is); (case m0_SHAPES => k_is); (case m1_SHAPES => k_is); (case m2_SHAPES => k_is); (case m3_SHAPES => k_is); (case m4_SHAPES => k_is); (case aC_Heap => k_is); (case rd_Heap => k_is); (case gt_Heap => k_is); (case a_SIDES => k_is); (case l_SIDES => k_is); (case hn => k_is); (case ht => k_is); (case aGrainError => k_is); (case cGrainError => k_is); (case nGrainError => rfl); (case tGrainError => k_is); (case sbGrainError => k_is); (case aGrainMissing => k_is); (case cGrainMissing => k_is); (case nGrainMissing => rfl); (case tGrainMissing => k_is); (case sbGrainMissing => k_is); (case E_BadRoot => refine' Gy.erw2 (P := PySem.Challenge.pw_grainyard_k24_recipes_as_lists) KX G ?op ?nsu (by decide +kernel) (by decide +kernel) (by decide +kernel) ?ht rfl rfl (by decide +kernel) (by decide +kernel) (by decide +kernel) (by decide +kernel) ?aC ?lC ?aI ?lI ?cI ?lc ?lco ?sa ?ga ?gt ?kp ?cl ?su ?hvs ?hfi ?x0 ?x1; (case op => k_is); (case nsu => k_is); (case aC => k_is); (case lC => k_is); (case ht => decide +kernel); (case aI => k_is); (case lI => k_is); (case cI => k_is); (case lc => k_is); (case lco => k_is); (case sa => k_is); (case ga => k_is); (case gt => k_is); (case kp => k_is); (case cl => k_is); (case su => first | k_is | ks_is); (case hvs => rfl); (case hfi => decide +kernel); (case x0 => k_is); (case x1 => k_is)); (case E_BadCount => refine' Gy.erw2 (P := PySem.Challenge.pw_grainyard_k24_recipes_as_lists) KX G ?op ?nsu (by decide +kernel) (by decide +kernel) (by decide +kernel) ?ht rfl rfl (by decide +kernel) (by decide +kernel) (by decide +kernel) (by decide +kernel) ?aC ?lC ?aI ?lI ?cI ?lc ?lco ?sa ?ga ?gt ?kp ?cl ?su ?hvs ?hfi ?x0 ?x1; (case op => k_is); (case nsu => k_is); (case aC => k_is); (case lC => k_is); (case ht => decide +kernel); (case aI => k_is); (case lI => k_is); (case cI => k_is); (case lc => k_is); (case lco => k_is); (case sa => k_is); (case ga => k_is); (case gt => k_is); (case kp => k_is); (case cl => k_is); (case su => first | k_is | ks_is); (case hvs => rfl); (case hfi => decide +kernel); (case x0 => k_is); (case x1 => k_is)); (case E_BadRow => refine' Gy.erw2 (P := PySem.Challenge.pw_grainyard_k24_recipes_as_lists) KX G ?op ?nsu (by decide +kernel) (by decide +kernel) (by decide +kernel) ?ht rfl rfl (by decide +kernel) (by decide +kernel) (by decide +kernel) (by decide +kernel) ?aC ?lC ?aI ?lI ?cI ?lc ?lco ?sa ?ga ?gt ?kp ?cl ?su ?hvs ?hfi ?x0 ?x1; (case op => k_is); (case nsu => k_is); (case aC => k_is); (case lC => k_is); (case ht => decide +kernel); (case aI => k_is); (case lI => k_is); (case cI => k_is); (case lc => k_is); (case lco => k_is); (case sa => k_is); (case ga => k_is); (case gt => k_is); (case kp => k_is); (case cl => k_is); (case su => first | k_is | ks_is); (case hvs => rfl); (case hfi => decide +kernel); (case x0 => k_is); (case x1 => k_is)); (case E_OtherRoot => refine' Gy.erw1 (P := PySem.Challenge.pw_grainyard_k24_recipes_as_lists) KX G ?op ?nsu (by decide +kernel) (by decide +kernel) (by decide +kernel) ?ht rfl rfl (by decide +kernel) (by decide +kernel) (by decide +kernel) (by decide +kernel) ?aC ?lC ?aI ?lI ?cI ?lc ?lco ?sa ?ga ?gt ?kp ?cl ?su ?hvs ?hfi ?x0; (case op => k_is); (case nsu => k_is); (case aC => k_is); (case lC => k_is); (case ht => decide +kernel); (case aI => k_is); (case lI => k_is); (case cI => k_is); (case lc => k_is); (case lco => k_is); (case sa => k_is); (case ga => k_is); (case gt => k_is); (case kp => k_is); (case cl => k_is); (case su => first | k_is | ks_is); (case hvs => rfl); (case hfi => decide +kernel); (case x0 => k_is)); (case E_BadStep => refine' Gy.erw2 (P := PySem.Challenge.pw_grainyard_k24_recipes_as_lists) KX G ?op ?nsu (by decide +kernel) (by decide +kernel) (by decide +kernel) ?ht rfl rfl (by decide +kernel) (by decide +kernel) (by decide +kernel) (by decide +kernel) ?aC ?lC ?aI ?lI ?cI ?lc ?lco ?sa ?ga ?gt ?kp ?cl ?su ?hvs ?hfi ?x0 ?x1; (case op => k_is); (case nsu => k_is); (case aC => k_is); (case lC => k_is); (case ht => decide +kernel); (case aI => k_is); (case lI => k_is); (case cI => k_is); (case lc => k_is); (case lco => k_is); (case sa => k_is); (case ga => k_is); (case gt => k_is); (case kp => k_is); (case cl => k_is); (case su => first | k_is | ks_is); (case hvs => rfl); (case hfi => decide +kernel); (case x0 => k_is); (case x1 => k_is)); (case E_NoSheet => refine' Gy.erw2 (P := PySem.Challenge.pw_grainyard_k24_recipes_as_lists) KX G ?op ?nsu (by decide +kernel) (by decide +kernel) (by decide +kernel) ?ht rfl rfl (by decide +kernel) (by decide +kernel) (by decide +kernel) (by decide +kernel) ?aC ?lC ?aI ?lI ?cI ?lc ?lco ?sa ?ga ?gt ?kp ?cl ?su ?hvs ?hfi ?x0 ?x1; (case op => k_is); (case nsu => k_is); (case aC => k_is); (case lC => k_is); (case ht => decide +kernel); (case aI => k_is); (case lI => k_is); (case cI => k_is); (case lc => k_is); (case lco => k_is); (case sa => k_is); (case ga => k_is); (case gt => k_is); (case kp => k_is); (case cl => k_is); (case su => first | k_is | ks_is); (case hvs => rfl); (case hfi => decide +kernel); (case x0 => k_is); (case x1 => k_is)); (case E_NothingLeft => refine' Gy.erw1 (P := PySem.Challenge.pw_grainyard_k24_recipes_as_lists) KX G ?op ?nsu (by decide +kernel) (by decide +kernel) (by decide +kernel) ?ht rfl rfl (by decide +kernel) (by decide +kernel) (by decide +kernel) (by decide +kernel) ?aC ?lC ?aI ?lI ?cI ?lc ?lco ?sa ?ga ?gt ?kp ?cl ?su ?hvs ?hfi ?x0; (case op => k_is); (case nsu => k_is); (case aC => k_is); (case lC => k_is); (case ht => decide +kernel); (case aI => k_is); (case lI => k_is); (case cI => k_is); (case lc => k_is); (case lco => k_is); (case sa => k_is); (case ga => k_is); (case gt => k_is); (case kp => k_is); (case cl => k_is); (case su => first | k_is | ks_is); (case hvs => rfl); (case hfi => decide +kernel); (case x0 => k_is)); (case tabL => exact hT _ List.mem_cons_self); (case noL => kernel_rfl); (case hdL => kernel_rfl)

