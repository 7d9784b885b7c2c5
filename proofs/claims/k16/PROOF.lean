import PyProof.Rows.All
import Wide.All
import OpenK.AllK
import Wide.FinOn
import HandS.ForMost
import HandS.Wide
import HandS.WideBits
import HandS.IsInst
import HandS.Defaults
import HandS.Star
import HandS.Evl
import HandS.NoneIn
import HandS.Style
import HandS.SlotsOwn
import HandS.MakeKwOnly
import HandS.ForExc
import HandS.ExcInit
import HandS.MapJoin
import HandS.NestedK
import HandS.Lambda
import HandS.EndTab
import HandS.TryMany
import HandS.HotCalls
import HandS.ExcField
import HandS.ClsMeth
import KE.KExcSuper
import KE.KExcIs
import KE.KOpsOwn
import KE.KNestM
import HandS.Property
import KE.DataEq
import HandS.Deep
import HandS.TupAny
import HandS.Zip
import HandS.Dict
import HandS.More
import HandS.FStr
import HandS.Text
import HandS.RaiseMore
import HandS.DictComp
import HandS.DictTup
import HandS.Conv
import HandS.Comp
import KE.KDictKeyed
import KE.KeyNested
import KE.SortData
import KE.KDictItemsList
import KE.GoesMore
import PySem.Challenge.RW_grainyard_k16_sums_of_heaps
set_option Elab.async false
set_option linter.all false
set_option maxRecDepth 100000
set_option maxHeartbeats 4000000
namespace Gy
open PySem PySem.Spec PyProof.Rows L2
/-! ### an error's fields, wherever its object is pinned -/
section
variable {X : Cx} {a : Addr} {oe : Obj} {cls : Value} {d : Option Addr} {e : Expr} {te : TE} {pos : Pos} {n : Str}
/-- a.f of the error at a whose class is cls and whose dict stands at d -/
def tXfA (K : PySem.W.Frag) (a : Addr) (cls : Value) (d : Option Addr) (f : Str) (te : TE) : TE := fun σ H Q => te σ H fun x H1 => x = .ref a ∧
  ∃ (C dd : Addr) (fs : List (Str × V)) (v : V), cls = .ref C ∧ d = some dd ∧ XfC K C ∧ PySem.W.findIn K (.ref C) f = some none ∧ H1 dd = some (.xd fs) ∧ fs.lookup f = some v ∧ Q v H1
theorem pe_xfG (hp : (a, oe) ∈ X.pn) (hz : Zc cls d oe) (hf : ∃ vs, oe.data = .fields vs) (he : PE X e te) (hb : attributeBase e n X.env (eval e X.env) = eval e X.env := by rfl) : PE X (.Attribute e n pos) (tXfA X.K a cls d n te) := by
  constructor
  intro pins s σ H Q I h
  apply attr_of hb
  refine thn (he.run pins s σ H _ I h) ?_
  rintro u s1 ⟨x, H1, I1, rx, rfl, C, dd, fs, v, rfl, rfl, XC, no, hd, hl, q⟩
  cases (show u = Value.ref a from rx)
  have at_a := (I1.pin (a, oe) (List.mem_append_left _ hp)).1
  obtain ⟨ws, dat⟩ := hf
  obtain ⟨mA, nsA, rel⟩ := (show ObjOk X.prog X.w H1 s1.heap dd (.xd fs) from I1.hok dd _ hd)
  obtain ⟨od, at_d, look⟩ := lookIn_ns nsA
  have rn := rel n
  rw [hl] at rn
  obtain ⟨u', hu', ru'⟩ := RelO.some_of rn
  have inst : PySem.W.InstAt s1.heap a oe C (some od) := by
    refine ⟨at_a, hz.1, ?_, ?_⟩
    · unfold PySem.W.notCls
      rw [dat] <;> rfl
    · rw [hz.2]
      exact at_d
  have found : PySem.W.lookIn n od = some (some u') := by rw [look, hu']
  exact HandSPX.exc_get I1.kIn inst XC.ga XC.gg XC.exC (PySem.W.findObj_own XC.hdC no rfl found) (handed_of ru') ⟨v, H1, I1.tok _, ru', q⟩
end
/-! ### try: .. except x as n: .., several clauses, one of which takes -/
/-- behind a suite its name is gone -/
def Dn (D : Ends) (i : Nat) : Ends := { nx := fun σ H => D.nx (σ.set i none) H, rt := D.rt, bk := fun σ H => D.bk (σ.set i none) H, ct := fun σ H => D.ct (σ.set i none) H }
def wAll (K : PySem.W.Frag) (D : Ends) (i : Nat) : List (Value × (Addr → Value → Option Addr → TS)) → WX
  | [] => fun _ _ _ _ => False
  | (c, ts) :: r => fun cls d σ H => ∃ b, PySem.W.exmOne K cls c = some b ∧ (b = true → ∀ a, H a = none → i < σ.length → ts a cls d (Dn D i) (σ.set i (some (.ref a))) H) ∧ (b = false → wAll K D i r cls d σ H)
inductive AsOk (X : Cx) (n : Str) : List ExceptHandler → List (Value × (Addr → Value → Option Addr → TS)) → Prop
  | nil : AsOk X n [] []
  | cons {x : Str} {c : Value} {ts : Addr → Value → Option Addr → TS} {b0 : Stmt} {su : List Stmt} {np p' : Pos} {hds : List ExceptHandler} {l : List (Value × (Addr → Value → Option Addr → TS))} (nm : Names X x c)
      (ok : ∀ (a : Addr) (oe : Obj) (cls : Value) (d : Option Addr) (pn : List (Addr × Obj)), Zc cls d oe → (∃ vs, oe.data = .fields vs) → PSs (X.suite a ((a, oe) :: pn)) (b0 :: su) (ts a cls d)) (r : AsOk X n hds l) :
      AsOk X n (.ExceptHandler (some (.Name x np)) (some n) (b0 :: su) p' :: hds) ((c, ts) :: l)
theorem not_frame {B h : Heap} {l : List Env} {a : Addr} {o : Obj} {vs : Array Value} (F : h.FunFrames B l) (at_a : h.get? a = some o) (dat : o.data = .fields vs) : a ∉ frs l := by
  intro m
  obtain ⟨_, o2, at2, nf⟩ := F.mem m
  cases at_a.symm.trans at2
  exact nf _ dat
section
variable {X : Cx} {n : Str} {i : Nat} {body : List Stmt} {h0 : ExceptHandler} {hds : List ExceptHandler} {l : List (Value × (Addr → Value → Option Addr → TS))} {pos : Pos} {tb : WX → TS}
theorem ps_tryAs (hs : X.stack = X.env :: X.outer) (hf : X.env.frame = some X.env.locals) (hN : X.N.Nodup) (hi : X.N[i]? = some n) (hln : X.env.kindOf n = some .local)
    (hb : ∀ (W : WX) (pn : List (Addr × Obj)) (xe : Value → Shared → Prop), Takes (X.tr pn xe) W → PassesOwn (model X.prog X.w) X.A X.env xe → PSs (X.tr pn xe) body (tb W))
    (hh : AsOk X n (h0 :: hds) l) : PS X (.Try body (h0 :: hds) [] [] pos) (fun D σ H => tb (wAll X.K D i l) D σ H) := by
  constructor
  intro pins s σ H D I h
  have ok := I.ok
  have frs_ : X.A.frames = some (X.env :: X.outer) := hs ▸ ok.frames
  have run := hb (wAll X.K D i l) (X.pn ++ pins) (fun e t1 => wpAny (model X.prog X.w) X.A (noteFrame e X.env) (fun _ t2 => wpAny (model X.prog X.w) X.A (setFlight e none) (fun _ t3 =>
    wpAny (model X.prog X.w) X.A (handleBy e X.env (h0 :: hds)) (SP X pins D) X.xe t3) X.xe t2) X.xe t1) ?air PassesOwn.looking
  case air =>
    rintro u t ⟨a, B, t0, pins0, σ1, H1, cls, d, rfl, I0, gr, up, sky, na, hos, bare, wish⟩
    have I1 : Inv X pins σ1 H1 t0 := I0.ofTry ok
    rw [show (X.tr (X.pn ++ pins) _).stack = X.env :: X.outer from hs] at sky
    show wpAny (model X.prog X.w) X.A (noteFrame (.ref a) X.env) _ _ _
    apply Sky.land Zc.steady frs_ hf sky
    intro g fly upg
    have Ig : Inv X pins σ1 H1 { t with heap := g } := I1.landed gr fly.1 (up.trans upg) hos bare
    obtain ⟨og, vg, at_g, zg, dg⟩ := fly.there
    have away := not_frame fly.2.2.1 at_g dg
    have awL : a ≠ X.env.locals := by
      intro z
      exact away (List.mem_filterMap.mpr ⟨X.env, List.mem_cons_self, by rw [hf, z]⟩)
    have awF : a ∉ X.fs := by
      intro m
      obtain ⟨en, men, q⟩ := List.mem_filterMap.mp m
      exact away (List.mem_filterMap.mpr ⟨en, List.mem_cons_of_mem _ men, q⟩)
    have Sg := Ig.suite at_g dg na awL awF
    have types : PySem.W.Looks (model X.prog X.w) g (typeOf (.ref a)) cls := by
      intro A' Q' E' t' k q
      apply wpAny_typeOf_ref (k _ _ at_g)
      rw [zg.1]
      exact q
    clear h
    have inside : i < σ1.length := by
      rw [I1.len]
      exact (List.getElem?_eq_some_iff.mp hi).1
    have clauses : ∀ {hs' : List ExceptHandler} {l' : List (Value × (Addr → Value → Option Addr → TS))}, AsOk X n hs' l' → wAll X.K D i l' cls d σ1 H1 → wpAny (model X.prog X.w) X.A (handleBy (.ref a) X.env hs') (SP X pins D) X.xe { t with heap := g } := by
      intro hs' l' A
      induction A with
      | nil => exact fun z => z.elim
      | @cons x c ts b0 su np p' hs2 l2 nm okS rest ih =>
        rintro ⟨b, mt, yes, no⟩
        refine wpAny_handleBy_cons (codeAny_handlers_test ?_) (by intro z; cases z)
        have meets := PySem.W.exm_one (M := model X.prog X.w) Ig.kIn types mt
        have name_ : ∀ {Q' : Value → Shared → Prop} {E' : Value → Shared → Prop}, Q' c { t with heap := g } → wpAny (model X.prog X.w) (X.A.mark (some (.ref a))) (eval (.Name x np) X.env) Q' E' { t with heap := g } := by
          intro Q' E' q
          rcases nm with ⟨gl, ndb, hm | ⟨hm, hv, nn⟩⟩
          · exact ld_glob (X := X.suite a ((a, og) :: (X.pn ++ pins))) Sg gl hm q ndb
          · exact ld_blt (X := X.suite a ((a, og) :: (X.pn ++ pins))) Sg gl hm hv q nn ndb
        apply name_
        apply meets.here
        cases b with
        | false => exact ih (no rfl)
        | true =>
          apply codeAny_handlers_suite_as
          apply HandSPX.lands_againZ fly
          intro k flk upk
          have Ik : Inv X pins σ1 H1 { t with heap := k } := I1.landed gr flk.1 ((up.trans upg).trans upk) hos bare
          obtain ⟨ok_, vk, at_k, zk, dk⟩ := flk.there
          have Sk := Ik.suite at_k dk na awL awF
          apply store_ok (X := X.suite a ((a, ok_) :: (X.pn ++ pins))) (v := .ref a) Sk hN hi (.inl hln) rfl _ (.inr hln)
          intro t5 S5
          have suite := (okS a ok_ cls d (X.pn ++ pins) zk ⟨_, dk⟩).run [] t5 _ H1 _ S5 (yes rfl a na inside)
          refine wpAny_mono suite (fun f t6 out => ?_) (fun _ _ z => z.elim)
          have away_ : ∀ {σ6 : L2.St} {H6 : Hp} {Q' : Shared → Prop}, Inv (X.suite a ((a, ok_) :: (X.pn ++ pins))) [] σ6 H6 t6 → (∀ t7, Inv X pins (σ6.set i none) H6 t7 → Q' t7) →
              wpAny (model X.prog X.w) X.A (do bindName X.env n .none; unbindBehindTheSuite X.env n p') (fun _ t7 => Q' t7) X.xe t6 := by
            intro σ6 H6 Q' S6 q
            exact gone_ok (S6.unsuite ok) hN hi hln q
          cases f with
          | next => obtain ⟨_, _, S6, q6⟩ := out; exact away_ S6 fun _ I7 => ⟨_, _, I7, q6⟩
          | brk => obtain ⟨_, _, S6, q6⟩ := out; exact away_ S6 fun _ I7 => ⟨_, _, I7, q6⟩
          | cont => obtain ⟨_, _, S6, q6⟩ := out; exact away_ S6 fun _ I7 => ⟨_, _, I7, q6⟩
          | ret u => obtain ⟨_, _, _, S6, r6, q6⟩ := out; exact away_ S6 fun _ I7 => ⟨_, _, _, I7, r6, q6⟩
    exact clauses hh wish
  apply wpAny_Try_except
  refine wpAny_mono (run.run [] s σ H D (I.toTry _) h) (fun f t1 out => ?_) (fun _ _ z => z)
  cases f with
  | next => obtain ⟨_, _, I1, q⟩ := out; exact wpAny_execs_nil ⟨_, _, I1.ofTry ok, q⟩
  | brk => obtain ⟨_, _, I1, q⟩ := out; exact ⟨_, _, I1.ofTry ok, q⟩
  | cont => obtain ⟨_, _, I1, q⟩ := out; exact ⟨_, _, I1.ofTry ok, q⟩
  | ret u => obtain ⟨_, _, _, I1, r, q⟩ := out; exact ⟨_, _, _, I1.ofTry ok, r, q⟩
end
/-! ### a def that is called while an error is handled: it raises nothing -/
structure FnP (P : Program) (w : World) (K : PySem.W.Frag) (mg : Str → Option Value) (base : Heap) (k : Nat) (f : Addr) (fd : FuncData) (ps : List Str) (sp : Addr → Value → Option Addr → Sp) : Prop where
  len : ∀ a cls d vs H Q E, sp a cls d vs H Q E → vs.length = ps.length
  run : ∀ (A : Around) (outer : List Env) (s : Shared) (H : Hp) (args : Args) (us : List Value) (vs : List V) (Q : VK) (E : XK) (p : Addr × Obj) (cls : Value) (d : Option Addr), L2H.RoomH k A → L2H.PinOk outer H s p → Zc cls d p.2 → (∃ vs, p.2.data = .fields vs) →
    Env0 P w K mg base A outer s H → BindsTo s fd args (ps.zip us) → Vals vs us → sp p.1 cls d vs H Q E → codeAny (model P w) A (.call (.ref f) args) (CR CX0 outer P w H s Q E) s
theorem fn_ofP {P : Program} {w : World} {K : PySem.W.Frag} {mg : Str → Option Value} {base : Heap} {k : Nat} {f : Addr} {x qual : Str} {st : Stmt} {fd : FuncData} {N ps : List Str} {sp : Addr → Value → Option Addr → Sp} (F : Fun K x qual st f fd) (S : FnScope N ps (defScope st))
    (len : ∀ a cls d vs H Q E, sp a cls d vs H Q E → vs.length = ps.length)
    (body : ∀ (cdv : Value) (A : Around) (outer : List Env) (s : Shared) (H : Hp) (vs : List V) (Q : VK) (E : XK) (p : Addr × Obj) (cls : Value) (d : Option Addr), Zc cls d p.2 → (∃ vs, p.2.data = .fields vs) → L2H.RoomH k (A.deeper (envOfC qual (defScope st) s.heap.objs.size f cdv)) → sp p.1 cls d vs H Q E →
      ∃ t, PSs (L2H.cxH CX0 P w K mg base N qual (defScope st) f cdv A outer s H E p) (defBody st) t ∧ t { nx := fun _ H' => Q .non H', rt := Q } (L2.start N vs) H) : FnP P w K mg base (k + 1) f fd ps sp := by
  obtain ⟨oc, od, kV, doc, pm, an, cdv, ct, osl, rfl, lk, hcd⟩ := F.ex
  constructor
  · exact len
  intro A outer s H args us vs Q E p cls d room pin zc dat e0 bd rv hsp
  have inK : K.In s.heap := e0.mod.kin.keeps fun b o z => (e0.bs b o z).1
  have free_ : s.heap.NoLimit := e0.mod.nolimit.keeps fun b o z => (e0.bs b o z).1
  have kinds : ∀ y ∈ ps.zip us, (defScope st).names.lookup y.1 = some .local ∨ ((defScope st).names.lookup y.1 = some .cell ∧ ((cellsFrom (s.heap.objs.size + 1) (defScope st).names []).lookup y.1).isSome = true) := by
    rintro ⟨y, v⟩ hy
    rcases S.par y (List.of_mem_zip hy).1 with z | z
    · exact .inl z
    · exact .inr ⟨z, PySem.W.cellsFrom_some _ _ _ (.inl z)⟩
  apply codeAny_call_function room.depth (inK _ _ lk) rfl S.co S.gen rfl (PySem.W.codeRec_of inK hcd)
  apply bd
  apply wpAny_newFunctionEnv_cells S.kind kinds
  rintro env rfl s1 inside
  refine ⟨free_.keeps inside.toInCall.keep, codeAny_func ?_⟩
  obtain ⟨t, term, reading⟩ := body cdv A outer s H vs Q E p cls d zc dat (room.deeper _) hsp
  have I := L2H.inv_startH (CX := CX0) (E := E) S pin e0 (len _ _ _ _ _ _ _ hsp) rv inside
  refine wpAny_mono (term.run [] s1 (L2.start N vs) H _ I reading) (fun fl s' out => ?_) fun _ _ z => z
  cases fl with
  | ret u => obtain ⟨v, _, H', J, r, q⟩ := out; exact ⟨v, H', J.os, J.bare, J.base, J.hok, r, q⟩
  | next => obtain ⟨_, H', J, q⟩ := out; exact ⟨.non, H', J.os, J.bare, J.base, J.hok, rfl, q⟩
  | brk => obtain ⟨_, _, _, q⟩ := out; exact q.elim
  | cont => obtain ⟨_, _, _, q⟩ := out; exact q.elim
section
variable {X : Cx} {k : Nat} {f a : Addr} {oe : Obj} {cls : Value} {d : Option Addr} {fd : FuncData} {ps : List Str} {sp : Addr → Value → Option Addr → Sp} {x : Str} {q pos : Pos} {e : Expr} {es : List Expr} {t : TA}
theorem pe_callP (hp : (a, oe) ∈ X.pn) (hz : Zc cls d oe) (hf : ∃ vs, oe.data = .fields vs) (F : FnP X.prog X.w X.K X.mg X.base k f fd ps sp) (hr : L2H.RoomH k X.A) (hg : Gl X x) (hm : X.mg x = some (.ref f)) (hk : PySem.W.keepIn X.K (.ref f) = true) (hb : Binds X.K fd ps [])
    (ha : PA X (e :: es) t) (hdb : (x == ("__debug__" : Str)) = false := by decide) (he : starEach (e :: es) X.env = (false, eval e X.env) :: starEach es X.env := by rfl) (hpl : (backTo pos (starEach es X.env)).any (·.1) = false := by rfl) :
    PE X (.Call (.Name x q) (e :: es) [] pos) (fun σ H Q => t σ H fun vs H1 => sp a cls d vs H1 Q E0) := by
  constructor
  intro pins s σ H Q I h
  apply wpAny_Call_Name_kw
  refine ld_glob I hg hm ?_ hdb
  refine PySem.W.callWith_K (h₀ := X.base) I.ok.mod.kin hk (thn (ha.run pos pins s σ H _ I h) ?_) he hpl
  rintro us s1 ⟨vs, H1, I1, r1, q1⟩
  refine ⟨I1.kIn, ?_⟩
  have ln : (us ++ ([] : List Value)).length = ps.length := by
    rw [List.append_nil, ← r1.length]
    exact F.len _ _ _ _ _ _ _ q1
  have bd := hb s1 us I1.kIn ln
  rw [List.append_nil] at bd
  have P1 := I1.pin (a, oe) (List.mem_append_left _ hp)
  have pin : L2H.PinOk X.stack H1 s1 (a, oe) := by
    refine ⟨P1.1, P1.2.1, fun m => ?_, P1.2.2.2.2⟩
    rcases List.mem_cons.mp (I1.stkSub a m) with z | z
    · exact P1.2.2.1 z
    · exact P1.2.2.2.1 z
  refine wpAny_call (codeAny_mono (F.run X.A X.stack s1 H1 ⟨us, []⟩ us vs Q E0 (a, oe) cls d hr pin hz hf I1.env0 bd r1 q1) fun r s' out => ?_)
  cases r with
  | error z => exact (show False from out).elim
  | ok fl =>
    cases fl with
    | ret u => exact I1.after out
    | next => exact False.elim out
    | brk => exact False.elim out
    | cont => exact False.elim out
end
open NdefX
/-! ### own error classes over a built-in one -/
/-- the built-in base B, its __new__, its __init__, its mro -/
structure ErB (B newId initId : String) (bmB : List Value) : Prop where
  fb : ExcBaseFacts B newId initId bmB
  kx : PySem.W.KxsFacts B initId
  sf : StoreFacts B bmB "object.__setattr__" "object"
theorem erb_VE : ErB "ValueError" "ValueError.__new__" "ValueError.__init__" [.type "ValueError", .type "Exception", .type "BaseException", .type "object"] := ⟨PySem.F.excBase_ValueError, PySem.W.kxs_ValueError, PySem.F.store_ValueError⟩
theorem erb_LE : ErB "LookupError" "LookupError.__new__" "LookupError.__init__" [.type "LookupError", .type "Exception", .type "BaseException", .type "object"] := ⟨PySem.F.excBase_LookupError, PySem.W.kxs_LookupError, PySem.F.store_LookupError⟩
theorem erb_IE : ErB "IndexError" "IndexError.__new__" "IndexError.__init__" [.type "IndexError", .type "LookupError", .type "Exception", .type "BaseException", .type "object"] := ⟨PySem.F.excBase_IndexError, PySem.W.kxs_IndexError, PySem.F.store_IndexError⟩
/-- what stands written of an own error class at C -/
structure ErC (K : PySem.W.Frag) (C : Addr) (newId : String) (bmB : List Value) : Prop where
  cls : ∃ nm q N bs bm sn sub ab col dd k0 k1 k2 k3 k5, K.lookup C = some (excClassObj nm q C N bs bm true sn sub ab col dd k0 k1 k2 k3 k5 newId) ∧ PySem.W.excTail bmB bm = true
  ov : PySem.W.excOver K C bmB = true
  sa : PySem.W.findIn K (.ref C) "__setattr__" = some (some (.builtin "object.__setattr__"))
  ga : PySem.W.findIn K (.ref C) "__getattribute__" = some (some (.builtin "BaseException.__getattribute__"))
  gt : PySem.W.findIn K (.ref C) "__getattr__" = some none
  ex : PySem.W.subIn K (.ref C) (.type "BaseException") = some true
  ty : PySem.W.typeIn K (.ref C) = some (.type "type")
  kp : PySem.W.keepIn K (.ref C) = true
  cl : PySem.W.findIn K (.ref C) "__class__" = some (some (.builtin "object.__class__"))
  ob : PySem.W.mroIn K C (.type "object") = some true
section
variable {pr : Program} {wo : World} {A : Around} {Ex : Value → Shared → Prop} {hh : Heap} {gg : Array GenState} {dr : Drawn} {tt : Nat} {oo : OsState}
variable {nm qn : Str} {C N : Addr} {bs bm bmB : List Value} {hdct : Bool} {sn : List Str} {sub : List Value} {ab : Bool} {col : Option Bool} {dd : Option Addr} {k0 k1 k2 k3 k5 : Option Value} {B newId initId : String}
theorem mw_call (FB : ExcBaseFacts B newId initId bmB) {u e t0 : Addr} {rest : List Value} {Qv : Value → Shared → Prop}
    (hC : hh.get? C = some (excClassObj nm qn C N bs bm hdct sn sub ab col dd k0 k1 k2 k3 k5 newId)) (he : hh.get? e = some (PySem.HandSPX.excO C t0)) (hu : hh.get? u = some (PySem.W.kxs_mw initId e)) (hrest : rest.length ≤ sizeLine)
    (hq : ∀ h' t1, (∀ b o, b ≠ e → hh.get? b = some o → h'.get? b = some o) → h'.get? e = some (PySem.HandSPX.excO C t1) → Qv .none ⟨h', gg, dr, tt, oo⟩) :
    wpAny (model pr wo) A (call (.ref u) rest) Qv Ex ⟨hh, gg, dr, tt, oo⟩ := by
  refine wpAny_call (codeAny_of_tree ?_)
  show wpAny _ A.in1 (callAny (.ref u) ⟨rest, []⟩) _ _ _
  simp only [callAny]
  refine wpAny_bind (wpAny_load hu ?_)
  refine PySem.W.KFB.if_so (show ((Value.type "method-wrapper" == .type "method") || (Value.type "method-wrapper" == .type "builtin_function_or_method") || (Value.type "method-wrapper" == .type "method-wrapper")) = true by decide) ?_
  refine wpAny_bind (PySem.W.check_bound_init FB.toExcCallFacts hC he rfl ?_)
  refine wpAny_bind (wpAny_pure (wpAny_pure ⟨plainId_quiet FB.init.plain _, codeAny_builtin FB.initEntry ?_⟩))
  refine PySem.W.exc_init_tree (cls := .ref C) (t0 := t0) (dv := none) (c2 := .none) (c3 := .none) (b4 := .bool false) he hrest fun h' k e' _ => hq h' _ k e'
end
section
variable {X : Cx} {pins : List (Addr × Obj)} {σ : L2.St} {H : Hp} {s : Shared} {B newId initId : String} {bmB : List Value}
/-! ### self.f = y -/
theorem taker0 {K : PySem.W.Frag} {C : Addr} {f : Str} (h : PySem.W.findIn K (.ref C) f = some none) : PySem.W.takerIn K C f = some none := by
  unfold PySem.W.takerIn
  rw [h]
  rfl
theorem gst_new {a C : Addr} {f : Str} {y : V} {u : Value} {Qu : Unit → Shared → Prop} {Ex : Value → Shared → Prop} {A : Around} (E : ErB B newId initId bmB) (T : ErC X.K C newId bmB) (I : Inv X pins σ H s) (e : H a = some (exo a C none)) (hno : PySem.W.findIn X.K (.ref C) f = some none) (ry : RelV y u)
    (h : ∀ dx s', H dx = none → dx ≠ a → Inv X pins σ (upd (upd H dx (exd dx [(f, y)])) a (exo a C (some dx))) s' → Qu () s') : wpAny (model X.prog X.w) A (setAttr (.ref a) f u) Qu Ex s := by
  obtain ⟨nm, q, N, bs, bm, sn, sub, ab, col, dd, k0, k1, k2, k3, k5, hC, hbm⟩ := T.cls
  have hcl : PySem.W.clsIn X.K C = some { name := nm, bases := bs, mro := .ref C :: bm, ns := N, qualname := q, hasDict := true, slotNames := sn, subclasses := sub, abstract := ab, collection := col, hasDel := false } := by unfold PySem.W.clsIn; rw [hC] <;> rfl
  obtain ⟨t1, ho⟩ := exo_at I.hok e
  obtain ⟨hp, g, d, t, os⟩ := s
  have IA : PySem.W.InstAt hp a (PySem.HandSPX.excO C t1) C none := ⟨ho, rfl, rfl, trivial⟩
  refine PySem.W.set_plain I.kIn IA T.sa ?_
  refine PySem.W.osa_openX E.sf (s := ⟨hp, g, d, _, os⟩) I.kIn IA T.ov (taker0 hno) fun b => ?_
  have hcls : PySem.W.Looks (model X.prog X.w) hp (classData C) _ := PySem.W.looks_clsIn I.kIn hcl
  have hxs : a ≠ hp.objs.size := Nat.ne_of_lt (Heap.lt_size ho)
  show wpAny _ _ (Builtin.ObjectAttr.storeInOwnDict (.ref a) (.ref C) (.str f _) f u b) _ _ _
  unfold Builtin.ObjectAttr.storeInOwnDict Builtin.ObjectAttr.ownDictForStores
  repeat (first | with_reducible refine PySem.HandSPX.store_in_new ?_ ?_ | with_reducible refine wpAny_loadPart_at ho ?_ | with_reducible refine hcls.at ?_ | wp_step)
  · exact ⟨_, #[], _, (Heap.get?_update_ne _ _ _ _ hxs.symm).trans (Heap.get?_push_at rfl rfl), rfl, fun e he => absurd he (by simp), fun _ => rfl⟩
  · intro h' tk' hn' hs
    have hx1 : (hp.push { cls := .type "dict", data := .dict #[] }).get? a = some (PySem.HandSPX.excO C t1) := Heap.get?_push_of_some _ ho
    have k : ∀ b o, b ≠ a → hp.get? b = some o → h'.get? b = some o := fun b o hb ho' => (hs.2 b (Nat.ne_of_lt (Heap.lt_size ho'))).trans ((Heap.get?_update_ne _ _ _ _ hb).trans (Heap.get?_push_of_some _ ho'))
    have hx := (hs.2 a hxs).trans (Heap.get?_update_self _ hx1 rfl)
    have dn := Nat.le_refl hp.objs.size
    have hnd : H hp.objs.size = none := I.hok.fresh dn
    have nd : ∀ {b : Addr} {o : Obj}, hp.get? b = some o → b ≠ hp.objs.size := fun q => Nat.ne_of_lt (Heap.lt_size q)
    have na : ∀ {b : Addr}, H b = none → b ≠ a := fun {b} n z => by
      rw [z, e] at n
      cases n
    have U1 : Un X.fs [] H (upd (upd H hp.objs.size (exd hp.objs.size [(f, y)])) a (exo a C (some hp.objs.size))) hp h' := {
      keep := fun b o q n _ _ => k b o (na n) q
      slot := fun b o q n _ _ => ⟨o.slots, k b o (na n) q⟩
      free := fun b o q n _ => (upd_ne (na n)).trans ((upd_ne (nd q)).trans n)
      there := fun b o q _ => by
        by_cases hb : b = a
        · exact ⟨_, hb ▸ hx⟩
        · exact ⟨o, k b o hb q⟩
      tups := fun b xs q => (upd_ne (at_ne e q exo_tup)).trans ((upd_ne (ne_of_none q hnd)).trans q)
      frzs := fun b o v q => (upd_ne (at_ne e q exo_frz)).trans ((upd_ne (ne_of_none q hnd)).trans q)
      tbls := fun b ps q => ⟨#[], by rw [upd_ne (at_ne e q exo_tbl), upd_ne (ne_of_none q hnd), q]; simp⟩ }
    refine h hp.objs.size _ hnd hxs.symm (I.un (t' := tk') U1 fun b o q => ?_)
    by_cases hb : b = a
    · subst hb
      rw [upd_same] at q
      cases q
      exact exo_ok hx
    · rw [upd_ne hb] at q
      by_cases hd : b = hp.objs.size
      · subst hd
        rw [upd_same] at q
        cases q
        exact exd_ok hn' (relO_put (fs := []) ry fun g => True.intro)
      · rw [upd_ne hd] at q
        refine (I.hok b o q).stay (fun c v hc z => k c v ?_ z) (fun c hc => (upd_ne (at_ne e hc exo_own)).trans ((upd_ne (ne_of_none hc hnd)).trans hc)) fun c xs hc => (upd_ne (at_ne e hc exo_tup)).trans ((upd_ne (ne_of_none hc hnd)).trans hc)
        rcases hc with hc | hc
        · rw [hc]
          exact hb
        · exact at_ne e hc exo_own
theorem gst_old {a C dx : Addr} {f : Str} {y : V} {u : Value} {fs : List (Str × V)} {Qu : Unit → Shared → Prop} {Ex : Value → Shared → Prop} {A : Around} (E : ErB B newId initId bmB) (T : ErC X.K C newId bmB) (I : Inv X pins σ H s) (e : H a = some (exo a C (some dx))) (ed : H dx = some (exd dx fs)) (hl : fs.length ≤ 900)
    (hno : PySem.W.findIn X.K (.ref C) f = some none) (ry : RelV y u) (h : ∀ s', Inv X pins σ (upd H dx (exd dx ((f, y) :: fs))) s' → Qu () s') : wpAny (model X.prog X.w) A (setAttr (.ref a) f u) Qu Ex s := by
  obtain ⟨nm, q, N, bs, bm, sn, sub, ab, col, dd, k0, k1, k2, k3, k5, hC, hbm⟩ := T.cls
  have hcl : PySem.W.clsIn X.K C = some { name := nm, bases := bs, mro := .ref C :: bm, ns := N, qualname := q, hasDict := true, slotNames := sn, subclasses := sub, abstract := ab, collection := col, hasDel := false } := by unfold PySem.W.clsIn; rw [hC] <;> rfl
  obtain ⟨t1, ho⟩ := exo_at I.hok e
  obtain ⟨mA, hns, rel⟩ := exd_at I.hok ed
  have hw := within_of rel
  obtain ⟨hp, g, d, t, os⟩ := s
  obtain ⟨oD, _, _, hoD, _, _⟩ := hns.count hw
  have IA : PySem.W.InstAt hp a { cls := .ref C, dict := some dx, data := .fields #[.ref t1, .none, .none, .none, .bool false, .none] } C (some oD) := ⟨ho, rfl, rfl, hoD⟩
  refine PySem.W.set_plain I.kIn IA T.sa ?_
  refine PySem.W.osa_openX E.sf (s := ⟨hp, g, d, _, os⟩) I.kIn IA T.ov (taker0 hno) fun b => ?_
  have hcls : PySem.W.Looks (model X.prog X.w) hp (classData C) _ := PySem.W.looks_clsIn I.kIn hcl
  show wpAny _ _ (Builtin.ObjectAttr.storeInOwnDict (.ref a) (.ref C) (.str f _) f u b) _ _ _
  unfold Builtin.ObjectAttr.storeInOwnDict Builtin.ObjectAttr.ownDictForStores
  repeat (first | with_reducible refine PySem.OEX.store_in_old hns hw (by rw [List.length_map]; omega) ?_ | with_reducible refine wpAny_loadPart_at ho ?_ | with_reducible refine hcls.at ?_ | wp_step)
  intro h' tk' hn hs
  have k : ∀ b o, b ≠ dx → hp.get? b = some o → h'.get? b = some o := fun b o hb ho' => (hs.2 b hb).trans ho'
  have hd : ∃ o, h'.get? dx = some o := by
    obtain ⟨o, _, _, e', _⟩ := hn
    exact ⟨o, e'⟩
  exact h _ (I.write (t' := tk') (x := dx) (e := dx) (o := exd dx ((f, y) :: fs)) (by rw [ed]; exact True.intro) (.inl rfl) k hd (exd_ok hn (relO_put ry rel)))
def tGst (K : PySem.W.Frag) (newId : String) (bmB : List Value) (f : Str) (to te : TE) : TS := fun D σ H => te σ H fun y H1 => to σ H1 fun x H2 => ∃ a C : Addr, x = .ref a ∧ ErC K C newId bmB ∧ PySem.W.findIn K (.ref C) f = some none ∧
  ((H2 a = some (exo a C none) ∧ ∀ dx, H2 dx = none → dx ≠ a → D.nx σ (upd (upd H2 dx (exd dx [(f, y)])) a (exo a C (some dx)))) ∨
    ∃ (dx : Addr) (fs : List (Str × V)), H2 a = some (exo a C (some dx)) ∧ H2 dx = some (exd dx fs) ∧ fs.length ≤ 900 ∧ D.nx σ (upd H2 dx (exd dx ((f, y) :: fs))))
theorem ps_gst {o e : Expr} {to te : TE} {f : Str} {p' pos : Pos} (E : ErB B newId initId bmB) (ho : PE X o to) (he : PE X e te) (hs : swapsWith e (some (.Attribute o f p')) pos.line X.env = pure false := by rfl) : PS X (.Assign [.Attribute o f p'] e pos) (tGst X.K newId bmB f to te) := by
  refine ⟨fun pins s σ H D I h => ?_⟩
  refine plainObj_wpAny_Assign_Attribute (thn (he.run pins s σ H _ I h) fun v s1 ⟨y, H1, I1, r1, q1⟩ => thn (ho.run pins s1 σ H1 _ I1 q1) fun u s2 ⟨x, H2, I2, r2, a, C, ex, T, hno, q⟩ => ?_) hs
  subst ex
  obtain rfl : u = Value.ref a := r2
  rcases q with ⟨ea, q⟩ | ⟨dx, fs, ea, ed, hl, q⟩
  · exact gst_new E T I2 ea hno r1 fun dx s' n ne J => ⟨σ, _, J, q dx n ne⟩
  · exact gst_old E T I2 ea ed hl hno r1 fun s' J => ⟨σ, _, J, q⟩
end
section
variable {X : Cx} {pins : List (Addr × Obj)} {σ : L2.St} {H : Hp} {s : Shared} {B newId initId : String} {bmB : List Value}
/-! ### super().__init__(text), the first statement of an own error's __init__ -/
/-- a method with super(): its def at f, its code object at c -/
structure SupM (X : Cx) (f c : Addr) (ar : Arg) : Prop where
  fu : X.env.func = some f
  co : X.env.code = .ref c
  fd : ∃ (o : Obj) (fd : FuncData), X.K.lookup f = some o ∧ o.data = .func fd ∧ (fd.params.posonlyargs ++ fd.params.args).head? = some ar
  cd : ∃ (o : Obj) (vs : Array Value) (file : Str) (tk : Tok), X.K.lookup c = some o ∧ o.data = .fields vs ∧ vs[2]? = some (.str file tk) ∧ ((X.prog.main.file : Str) == file) = true
  ks : X.env.kindOf "super" = some .globalImplicit
  kc : X.env.kindOf "__class__" = some .free
  ka : X.env.kindOf ar.arg = some .local
  top : (X.prog.main.scope.names.lookup ("super" : Str)).isSome = false
  no : X.mg "super" = none
  op : PySem.W.nsIn X.K cStatics "thirdparty.any" = some none
theorem sup_stmt {f c a C : Addr} {ar : Arg} {i j : Nat} {body : List Stmt} {m : Str} {n : Nat} {pl : Sem Bool} {p0 p1 p2 p3 p4 p5 : Pos} (E : ErB B newId initId bmB) (T : SupM X f c ar) (O : ErC X.K C newId bmB) (I : Inv X pins σ H s)
    (hi : X.N[i]? = some ar.arg) (hs : σ[i]? = some (some (.ref a))) (hj : X.N[j]? = some ("__class__" : Str)) (hsj : σ[j]? = some (some (.ref C))) (ha : H a = some (exo a C none))
    (hsup : PySem.W.ks_superIn X.K C C "__init__" = some (some (.builtin initId))) (hB : PySem.W.subIn X.K (.ref C) (.type B) = some true) (hDD : PySem.W.mroIn X.K C (.ref C) = some true)
    (he : eval (.Call (.Attribute (.Call (.Name "super" p0) [] [] p1) "__init__" p2) [.Constant (.str m) n p3] [] p4) X.env = (do
      let ov ← attributeBase (.Call (.Name "super" p0) [] [] p1) "__init__" X.env (eval (.Call (.Name "super" p0) [] [] p1) X.env)
      standAt p2.atName
      let (g, first) ← holding [ov] (getMethod ov "__init__" pl)
      callWith p4 g first (backTo p4 (starEach [.Constant (.str m) n p3] X.env)) []))
    (hint : interactive X.env = false) (hsw : swapsWith (.Call (.Attribute (.Call (.Name "super" p0) [] [] p1) "__init__" p2) [.Constant (.str m) n p3] [] p4) none p5.line X.env = pure false) :
    _root_.PySem.wpAt (model X.prog X.w) X.A (.func body X.env) (exec (.Expr (.Call (.Attribute (.Call (.Name "super" p0) [] [] p1) "__init__" p2) [.Constant (.str m) n p3] [] p4) p5) X.env) (fun fl s' => fl = .next ∧ Inv X pins σ H s') X.xe s := by
  refine ks_wpAt_Expr_any ?_ hint hsw
  refine ks_wpAt_MethodCall (pl := pl) ?_ he
  have KX : X.K.In s.heap := I.kIn
  obtain ⟨of, fd, hf, hfd, hp⟩ := T.fd
  obtain ⟨oc, vs, file, tk, hc, hoc, hvs, hfile⟩ := T.cd
  obtain ⟨nm, q, N, bs, bm, sn, sub, ab, col, dd, k0, k1, k2, k3, k5, hC, hbm⟩ := O.cls
  have hcl : PySem.W.clsIn X.K C = some { name := nm, bases := bs, mro := .ref C :: bm, ns := N, qualname := q, hasDict := true, slotNames := sn, subclasses := sub, abstract := ab, collection := col, hasDel := false } := by unfold PySem.W.clsIn; rw [hC] <;> rfl
  obtain ⟨t1, ho⟩ := exo_at I.hok ha
  refine ks_wpAt_super_base (env := X.env) T.ks T.kc (by decide) T.fu (KX _ _ hf) hfd hp T.co (KX _ _ hc) hoc hvs hfile T.top ?_
  obtain ⟨mb, h1, h2⟩ := I.mod.blt
  refine PySem.W.ks_loadName_global I.ok.kind T.ks (Calls.loadGlobal_builtin (by rw [I.ok.glob]; exact I.mod.glob.keeps I.bk) T.no (by rw [I.ok.blt]; exact h1.keeps I.bk) ((h2 "super" (by decide)).trans (by decide +kernel)) ⟨rfl, ?_⟩)
  obtain ⟨mm, hn, hl⟩ := I.loc
  obtain ⟨uc, rc, lc⟩ := hl j _ _ hj hsj (.inr (.inr T.kc))
  obtain ⟨ua, ra, la⟩ := hl i _ _ hi hs (.inl T.ka)
  obtain rfl : uc = Value.ref C := rc
  obtain rfl : ua = Value.ref a := ra
  obtain ⟨cc, hcc, hcell⟩ : ∃ cc, X.env.cells.lookup ("__class__" : Str) = some cc ∧ s.heap.IsCell cc (some (Value.ref C)) := by
    rcases lc with ⟨z, _⟩ | ⟨_, z⟩
    · rw [T.kc] at z
      cases z
    · exact z
  have hma : mm ar.arg = some (Value.ref a) := by
    rcases la with ⟨_, z⟩ | ⟨z, _⟩
    · exact z
    · rw [T.ka] at z
      rcases z with z | z <;> cases z
  refine wpAny_loadName_free I.ok.kind T.kc hcc hcell ?_
  refine wpAny_loadName_local I.ok.kind T.ka hn hma ?_
  have hCh := KX _ _ hC
  refine ks_wpAny_isType_cls hCh rfl ⟨rfl, ?_⟩
  obtain ⟨hp', g, d, t, os⟩ := s
  refine ks_wpAny_call_super hCh rfl ho rfl (fun z e => by cases e) (PySem.W.looks_mroIn KX hDD) fun h1 so kk => ?_
  have I1 : Inv X pins σ H ⟨h1, g, d, t, os⟩ := I.kept (t' := t) kk
  have hin : PySem.W.Looks (model X.prog X.w) h1 (isInstance (.ref a) (.type B)) true := (show PySem.W.InstAt h1 a (PySem.HandSPX.excO C t1) C none from ⟨kk _ _ ho, rfl, rfl, trivial⟩).type.andThen (PySem.W.looks_subIn I1.kIn hB)
  have hsup' := hsup
  unfold PySem.W.ks_superIn at hsup'
  rw [hcl] at hsup'
  refine PySem.W.kxs_getMethod E.kx so (PySem.W.looks_opaque I1.kIn T.op) (l₀ := .ref C :: bm) (fun A Q E s k q => wpAny_bind ((PySem.W.looks_clsIn I1.kIn hcl) A _ E s k (wpAny_pure q))) rfl I1.kIn hsup' hin (fun z => ?_) (by decide) ?_
  · subst z
    rw [show hp'.get? a = _ from hCh] at ho
    cases ho
  have kk2 : ∀ b o, h1.get? b = some o → (h1.push (PySem.W.kxs_mw initId a)).get? b = some o := fun b o e => Heap.get?_push_of_some _ e
  have I2 : Inv X pins σ H ⟨h1.push (PySem.W.kxs_mw initId a), g, d, t + 1, os⟩ := I1.kept (t' := t + 1) kk2
  have hmw : (h1.push (PySem.W.kxs_mw initId a)).get? h1.objs.size = some (PySem.W.kxs_mw initId a) := Heap.get?_push_at rfl rfl
  show wpAny _ _ (callWith p4 (.ref h1.objs.size) [] ((false, eval (.Constant (.str m) n p3) X.env) :: backTo p4 (starEach [] X.env)) []) _ _ _
  refine PySem.W.kxs_callWith (i := initId) (x := a) rfl (PySem.Calls.evalArgs_plain (PySem.Calls.spliced_cons (PySem.Calls.Constant_str (PySem.Calls.spliced_nil ⟨hmw, ?_⟩))))
  show wpAny _ _ (call (.ref h1.objs.size) [.str m (t + 1)]) _ _ _
  refine mw_call E.fb (kk2 _ _ (kk _ _ hCh)) (kk2 _ _ (kk _ _ ho)) hmw (by show 1 ≤ sizeLine; decide) fun h3 t3 k3 e3 => ⟨rfl, ?_⟩
  have J := (I2.tok (t + 1 + 1)).write (h' := h3) (t' := t + 1 + 1) (x := a) (e := a) (o := exo a C none) (by rw [ha]; exact True.intro) (.inl rfl) k3 ⟨_, e3⟩ (exo_ok e3)
  rw [show upd H a (exo a C none) = H from funext fun z => by
    by_cases hz : z = a
    · rw [hz, upd_same, ha]
    · rw [upd_ne hz]] at J
  exact J
end
section
variable {P : Program} {w : World} {K : PySem.W.Frag} {mg : Str → Option Value} {base : Heap} {B newId initId : String} {bmB : List Value}
/-- what stands written of an own error's __init__: its words F, the def at f, its class at C -/
structure IniM (P : Program) (K : PySem.W.Frag) (mg : Str → Option Value) (B newId initId : String) (bmB : List Value) (f C : Addr) (F : NF) (ar : Arg) (doc pm ctv : Value) : Prop where
  lk : ∃ (od : Option Addr) (sl : Array (Option Value)), K.lookup f = some ⟨.type "function", od, .func (F.fd doc pm ctv), sl⟩
  cd : PySem.W.codeIn K (.ref F.c) F.qual = true
  cl : ∃ (cc : Addr) (o : Obj), F.cl = [(("__class__" : Str), cc)] ∧ K.lookup cc = some o ∧ o.data = .cell (some (.ref C))
  hd : (F.params.posonlyargs ++ F.params.args).head? = some ar
  fl : ∃ (o : Obj) (vs : Array Value) (file : Str) (tk : Tok), K.lookup F.c = some o ∧ o.data = .fields vs ∧ vs[2]? = some (.str file tk) ∧ ((P.main.file : Str) == file) = true
  ks : F.scope.names.lookup ("super" : Str) = some .globalImplicit
  kc : F.scope.names.lookup ("__class__" : Str) = some .free
  ka : F.scope.names.lookup ar.arg = some .local
  top : (P.main.scope.names.lookup ("super" : Str)).isSome = false
  no : mg "super" = none
  op : PySem.W.nsIn K cStatics "thirdparty.any" = some none
  ox : ErC K C newId bmB
  su : PySem.W.ks_superIn K C C "__init__" = some (some (.builtin initId))
  sb : PySem.W.subIn K (.ref C) (.type B) = some true
  mr : PySem.W.mroIn K C (.ref C) = some true
theorem init_fn {f C : Addr} {F : NF} {ar : Arg} {doc pm ctv : Value} {N ps : List Str} {k i j n : Nat} {sp : Sp} {m : Str} {p0 p1 p2 p3 p4 p5 : Pos} {rest : List Stmt} {pl : Addr → Sem Bool} (EB : ErB B newId initId bmB) (T : IniM P K mg B newId initId bmB f C F ar doc pm ctv)
    (S : NScope N ps ["__class__"] F.scope) (len : ∀ vs H Q E, sp vs H Q E → vs.length = ps.length) (hi : N[i]? = some ar.arg) (hj : N[j]? = some ("__class__" : Str))
    (hbd : F.body = .Expr (.Call (.Attribute (.Call (.Name "super" p0) [] [] p1) "__init__" p2) [.Constant (.str m) n p3] [] p4) p5 :: rest)
    (hst : ∀ vs H Q E, sp vs H Q E → ∃ a, (startF N vs [some (.ref C)])[i]? = some (some (.ref a)) ∧ (startF N vs [some (.ref C)])[j]? = some (some (.ref C)) ∧ H a = some (exo a C none))
    (hbody : ∀ (A : Around) (outer : List Env) (s : Shared) (H : Hp) (vs : List V) (Q : VK) (E : XK), Room k (A.deeper (envF F f s.heap.objs.size)) → sp vs H Q E →
      ∃ t, PSs (ncx CX0 P w K mg base N F f A outer s H E) rest t ∧ t { nx := fun _ H' => Q .non H', rt := Q } (startF N vs [some (.ref C)]) H)
    (he : ∀ L, eval (.Call (.Attribute (.Call (.Name "super" p0) [] [] p1) "__init__" p2) [.Constant (.str m) n p3] [] p4) (envF F f L) = (do
      let ov ← attributeBase (.Call (.Name "super" p0) [] [] p1) "__init__" (envF F f L) (eval (.Call (.Name "super" p0) [] [] p1) (envF F f L))
      standAt p2.atName
      let (g, first) ← holding [ov] (getMethod ov "__init__" (pl L))
      callWith p4 g first (backTo p4 (starEach [.Constant (.str m) n p3] (envF F f L))) []) := by intro _; rfl)
    (hint : ∀ L, interactive (envF F f L) = false := by intro _; rfl)
    (hsw : ∀ L, swapsWith (.Call (.Attribute (.Call (.Name "super" p0) [] [] p1) "__init__" p2) [.Constant (.str m) n p3] [] p4) none p5.line (envF F f L) = pure false := by intro _; rfl) :
    FnOk P w K mg base CX0 (k + 1) f (F.fd doc pm ctv) ps sp := by
  refine ⟨len, fun A outer s H args us vs Q E hr e0 hb r hsp => ?_⟩
  have KX : K.In s.heap := e0.mod.kin.keeps fun b o e => (e0.bs b o e).1
  have hl := len _ _ _ _ hsp
  have lim : s.heap.NoLimit := e0.mod.nolimit.keeps fun b o e => (e0.bs b o e).1
  obtain ⟨od, sl, lk⟩ := T.lk
  obtain ⟨cc, oc, ecl, lcc, dcc⟩ := T.cl
  refine codeAny_call_function hr.depth (KX _ _ lk) rfl S.co S.gen rfl (PySem.W.codeRec_of KX T.cd) (hb _ _ _ _ ?_)
  refine wpAny_newFunctionEnv S.nocell (fun ⟨x, _⟩ hy => S.par x (List.of_mem_zip hy).1) (fun h1 hns hsb => ⟨lim.fresh _ hsb, ?_⟩) S.kind
  have kp : ∀ b o, s.heap.get? b = some o → h1.get? b = some o := fun b o e => hsb.extBut b o (Nat.ne_of_lt (Heap.lt_size e)) (Heap.get?_push_of_some _ e)
  have CA : CellsAt F.cl ["__class__"] [some (.ref C)] s.heap H := by
    rw [ecl]
    have hc : ∀ (y : Str) (c : Addr), ([(("__class__" : Str), cc)] : List (Str × Addr)).lookup y = some c → c = cc ∧ y = "__class__" := fun y c e => by
      rw [List.lookup_cons] at e
      split at e
      · rename_i z
        exact ⟨(Option.some.inj e).symm, eq_of_beq z⟩
      · cases e
    refine ⟨rfl, fun y c e => ?_, fun x y c e1 e2 => (hc x c e1).2.trans (hc y c e2).2.symm, fun i y e => ?_⟩
    · rw [(hc y c e).1]
      exact ⟨(e0.bs _ _ (e0.mod.kin _ _ lcc)).2, _, oc, KX _ _ lcc, dcc⟩
    · match i, e with
      | 0, e =>
        cases e
        exact ⟨cc, by simp, fun v e => by cases e; exact ⟨_, rfl, oc, KX _ _ lcc, dcc⟩⟩
  have I : Inv (ncx CX0 P w K mg base N F f A outer s H E) [] (startF N vs [some (.ref C)]) H { s with heap := h1, toks := s.toks + (ps.zip us).length } := inv_startN S hr.hd e0 hl r CA hns kp
  obtain ⟨a, s1, s2, ha⟩ := hst _ _ _ _ hsp
  have TM : SupM (ncx CX0 P w K mg base N F f A outer s H E) f F.c ar := ⟨rfl, rfl, ⟨_, _, lk, rfl, T.hd⟩, T.fl, T.ks, T.kc, T.ka, T.top, T.no, T.op⟩
  have fin : ∀ {τ : L2.St} {G : Hp} {v : V} {u : Value} {z : Shared}, Inv (ncx CX0 P w K mg base N F f A outer s H E) [] τ G z → L2.RelV v u → Q v G → CE outer P w H s Q u z :=
    fun J rv q => ⟨_, _, J.os, J.bare, J.base, J.hok, rv, q⟩
  obtain ⟨t, ht, hq⟩ := hbody A outer s H vs Q E (hr.deeper _) hsp
  refine ks_codeAny_funcAt (body := F.body) (env := envF F f s.heap.objs.size) ?_
  rw [hbd]
  refine ks_wpAt_execs_cons (ks_wpAt_mono (sup_stmt (X := ncx CX0 P w K mg base N F f A outer s H E) (i := i) (j := j) EB TM T.ox I hi s1 hj s2 ha T.su T.sb T.mr (he _) (hint _) (hsw _)) (fun fl s' hs => ?_) fun e s' hx => hx)
  obtain ⟨rfl, J⟩ := hs
  refine _root_.PySem.wpAt_of_wpAny (wpAny_mono (ht.run [] s' _ H _ J hq) (fun fl z hz => ?_) fun e s' hx => hx)
  cases fl with
  | ret u =>
    obtain ⟨v5, τ5, G5, J5, r5, q5⟩ := hz
    exact fin J5 r5 q5
  | next =>
    obtain ⟨τ5, G5, J5, q5⟩ := hz
    exact fin (v := V.non) (u := Value.none) J5 rfl q5
  | brk =>
    obtain ⟨_, _, _, q5⟩ := hz
    exact q5.elim
  | cont =>
    obtain ⟨_, _, _, q5⟩ := hz
    exact q5.elim
end
section
variable {X : Cx} {B newId initId : String} {bmB : List Value}
theorem ErC.has {K : PySem.W.Frag} {C : Addr} (T : ErC K C newId bmB) : PySem.W.hasDictIn K C = true ∧ (PySem.W.clsIn K C).isSome = true := by
  obtain ⟨nm, q, N, bs, bm, sn, sub, ab, col, dd, k0, k1, k2, k3, k5, hC, hbm⟩ := T.cls
  have hcl : PySem.W.clsIn K C = some { name := nm, bases := bs, mro := .ref C :: bm, ns := N, qualname := q, hasDict := true, slotNames := sn, subclasses := sub, abstract := ab, collection := col, hasDel := false } := by unfold PySem.W.clsIn; rw [hC] <;> rfl
  exact ⟨by unfold PySem.W.hasDictIn; rw [hcl] <;> rfl, by rw [hcl] <;> rfl⟩
/-! ### C(..): an own error as a value -/
def tMkV (C : Addr) (sp : Sp) (dvs : List V) (ta : TA) : TE := fun σ H Q => ta σ H fun vs H1 => vs.length ≤ 1000 ∧ ∀ a, H1 a = none → sp (.ref a :: (vs ++ dvs)) (upd H1 a (exo a C none)) (fun v H2 => v = .non ∧ Q (.ref a) H2) (fun _ _ _ => False)
theorem run_mkE {CX : CXT} {C fI : Addr} {k : Nat} {fd : FuncData} {ps : List Str} {sp : Sp} {ds : List Value} {dvs vs : List V} {us : List Value} {pins : List (Addr × Obj)} {σ : L2.St} {H1 : Hp} {s1 : Shared} {Q : VK} (E : ErB B newId initId bmB) (T : ErC X.K C newId bmB)
    (iC : PySem.W.findIn X.K (.ref C) "__init__" = some (some (.ref fI))) (tI : PySem.W.typeIn X.K (.ref fI) = some (.type "function")) (F1 : FnOk X.prog X.w X.K X.mg X.base CX k fI fd ps sp) (hr : Room (k + 1) X.A) (hb : Binds X.K fd ps ds) (hd : Vals dvs ds)
    (hx : Passes CX X (fun _ _ _ => False)) (I1 : Inv X pins σ H1 s1) (r1 : Vals vs us) (hz : vs.length ≤ 1000) (q1 : ∀ a, H1 a = none → sp (.ref a :: (vs ++ dvs)) (upd H1 a (exo a C none)) (fun v H2 => v = .non ∧ Q (.ref a) H2) (fun _ _ _ => False)) :
    wpAny (model X.prog X.w) X.A (call (.ref C) us) (EP X pins σ Q) X.xe s1 := by
  obtain ⟨nm, q, N, bs, bm, sn, sub, ab, col, dd, k0, k1, k2, k3, k5, hC, hbm⟩ := T.cls
  obtain ⟨hp, g, dr, tk, os⟩ := s1
  have hsz : hp.objs.size ≤ hp.objs.size + 1 := Nat.le_succ _
  have hq := q1 (hp.objs.size + 1) (I1.hok.fresh hsz)
  have kk : ∀ b o, hp.get? b = some o → ((hp.push (PySem.W.kdv_tup us)).push (PySem.HandSPX.excO C hp.objs.size)).get? b = some o := fun b o e => Heap.get?_push_of_some _ (Heap.get?_push_of_some _ e)
  have hget : ((hp.push (PySem.W.kdv_tup us)).push (PySem.HandSPX.excO C hp.objs.size)).get? (hp.objs.size + 1) = some (PySem.HandSPX.excO C hp.objs.size) := by heap_get
  have I2 : Inv X pins σ (upd H1 (hp.objs.size + 1) (exo (hp.objs.size + 1) C none)) ⟨(hp.push (PySem.W.kdv_tup us)).push (PySem.HandSPX.excO C hp.objs.size), g, dr, tk, os⟩ :=
    I1.laid (t' := tk) kk hsz (exo_ok hget)
  have r2 : Vals (V.ref (hp.objs.size + 1) :: (vs ++ dvs)) (Value.ref (hp.objs.size + 1) :: (us ++ ds)) := .cons rfl (r1.append hd)
  have hl : (Value.ref (hp.objs.size + 1) :: us ++ ds).length = ps.length := r2.length.symm.trans (F1.len _ _ _ _ hq)
  have hus : us.length ≤ sizeLine := by
    rw [← Paired.length r1, sizeLine_eq]
    omega
  refine wpAny_call (PySem.HandSPX.call_own E.fb (fun Y => PySem.W.excTail_contains Y bm hbm) (I1.kIn _ _ hC) (PySem.W.looks_findIn I1.kIn iC) (fun self => PySem.W.bind_fn I1.kIn self tI) hus
    (codeAny_mono (F1.run _ X.stack _ _ ⟨Value.ref (hp.objs.size + 1) :: us, []⟩ (Value.ref (hp.objs.size + 1) :: (us ++ ds)) _ _ (fun _ _ _ => False) (hr.make C us []) (I2.env0.make C us []) (hb _ (Value.ref (hp.objs.size + 1) :: us) I2.kIn hl) r2 hq) fun r s' hq' => ?_))
  match r, hq' with
  | .error er, hq' => exact hx pins σ _ _ er s' I2 hq'
  | .ok (.ret u), hq' =>
    obtain ⟨v, H2, J, rv, ev, q2⟩ := I2.after hq'
    subst ev
    exact ⟨rv, .ref (hp.objs.size + 1), H2, J, rfl, q2⟩
  | .ok .next, hq' => exact False.elim hq'
  | .ok .brk, hq' => exact False.elim hq'
  | .ok .cont, hq' => exact False.elim hq'
variable {CX : CXT} {x : Str} {C fI : Addr} {k : Nat} {fd : FuncData} {ps : List Str} {sp : Sp} {ds : List Value} {dvs : List V} {e : Expr} {es : List Expr} {ta : TA} {te : TE} {p pos : Pos}
theorem pe_mkE (E : ErB B newId initId bmB) (T : ErC X.K C newId bmB) (iC : PySem.W.findIn X.K (.ref C) "__init__" = some (some (.ref fI))) (tI : PySem.W.typeIn X.K (.ref fI) = some (.type "function"))
    (F1 : FnOk X.prog X.w X.K X.mg X.base CX k fI fd ps sp) (hr : Room (k + 1) X.A) (hb : Binds X.K fd ps ds) (hd : Vals dvs ds) (hx : Passes CX X (fun _ _ _ => False)) (hg : Gl X x) (hm : X.mg x = some (.ref C)) (ha : PA X (e :: es) ta)
    (hdb : (x == ("__debug__" : Str)) = false := by decide) (he : starEach (e :: es) X.env = (false, eval e X.env) :: starEach es X.env := by rfl) (hpl : (backTo pos (starEach es X.env)).any (·.1) = false := by rfl) :
    PE X (.Call (.Name x p) (e :: es) [] pos) (tMkV C sp dvs ta) := by
  refine ⟨fun pins s σ H Q I h => ?_⟩
  refine wpAny_Call_Name_kw (ld_glob I hg hm ?_ hdb)
  refine PySem.W.callWith_K (h₀ := X.base) I.ok.mod.kin T.kp (thn (ha.run pos pins s σ H _ I h) fun us s1 ⟨vs, H1, I1, r1, hz, q1⟩ => ⟨I1.kIn, ?_⟩) he hpl
  exact run_mkE E T iC tI F1 hr hb hd hx I1 r1 hz q1
theorem pe_mkE0 (E : ErB B newId initId bmB) (T : ErC X.K C newId bmB) (iC : PySem.W.findIn X.K (.ref C) "__init__" = some (some (.ref fI))) (tI : PySem.W.typeIn X.K (.ref fI) = some (.type "function"))
    (F1 : FnOk X.prog X.w X.K X.mg X.base CX k fI fd ps sp) (hr : Room (k + 1) X.A) (hb : Binds X.K fd ps ds) (hd : Vals dvs ds) (hx : Passes CX X (fun _ _ _ => False)) (hg : Gl X x) (hm : X.mg x = some (.ref C))
    (hdb : (x == ("__debug__" : Str)) = false := by decide) : PE X (.Call (.Name x p) [] [] pos) (tMkV C sp dvs tNil) := by
  refine ⟨fun pins s σ H Q I h => ?_⟩
  refine wpAny_Call_Name_kw (ld_glob I hg hm ?_ hdb)
  exact PySem.W.callWith_K0 I.kIn T.kp (run_mkE (us := []) E T iC tI F1 hr hb hd hx I .nil h.1 h.2)
/-! ### e.f of such a value -/
def tXo (K : PySem.W.Frag) (f : Str) (te : TE) : TE := fun σ H Q => te σ H fun x H1 => ∃ (a C d : Addr) (nw : String) (bm : List Value) (fs : List (Str × V)) (v : V), x = .ref a ∧ H1 a = some (exo a C (some d)) ∧ H1 d = some (exd d fs) ∧ fs.lookup f = some v ∧
  PySem.W.findIn K (.ref C) f = some none ∧ ErC K C nw bm ∧ Q v H1
theorem inst_exo {pins : List (Addr × Obj)} {σ : L2.St} {H : Hp} {s : Shared} {a C d : Addr} {fs : List (Str × V)} (I : Inv X pins σ H s) (ea : H a = some (exo a C (some d))) (ed : H d = some (exd d fs)) :
    ∃ (ox od : Obj) (mA : Str → Option Value), PySem.W.InstAt s.heap a ox C (some od) ∧ (∀ n, PySem.W.lookIn n od = some (mA n)) ∧ ∀ f, RelO (fs.lookup f) (mA f) := by
  obtain ⟨t1, ho⟩ := exo_at I.hok ea
  obtain ⟨mA, hns, rel⟩ := exd_at I.hok ed
  obtain ⟨od, hod, hl⟩ := lookIn_ns hns
  exact ⟨_, od, mA, ⟨ho, rfl, rfl, hod⟩, hl, rel⟩
theorem pe_xo {n : Str} (he : PE X e te) (hb : attributeBase e n X.env (eval e X.env) = eval e X.env := by rfl) : PE X (.Attribute e n pos) (tXo X.K n te) := by
  refine ⟨fun pins s σ H Q I h => ?_⟩
  refine attr_of hb (thn (he.run pins s σ H _ I h) fun u s1 hh => ?_)
  obtain ⟨x, H1, I1, rx, a, C, d, nw, bm, fs, v, ex, ea, ed, l, hno, T, q⟩ := hh
  subst ex
  obtain rfl : u = Value.ref a := rx
  obtain ⟨ox, od, mA, J, hl, rel⟩ := inst_exo I1 ea ed
  obtain ⟨u, hu, ru⟩ := RelO.some_of (v := v) (o := mA n) (l ▸ rel n)
  exact HandSPX.exc_get I1.kIn J T.ga T.gt T.ex (PySem.W.findObj_own T.has.1 hno rfl ((hl n).trans (congrArg some hu))) (handed_of ru) ⟨v, H1, I1.tok _, ru, q⟩
/-! ### isinstance of such a value -/
def rIsO (K : PySem.W.Frag) : List V → Hp → VK → Prop := fun xs H Q => ∃ (a C d : Addr) (nw : String) (bm : List Value) (fs : List (Str × V)) (c : V) (cv : Value) (b : Bool), xs = [.ref a, c] ∧ H a = some (exo a C (some d)) ∧ H d = some (exd d fs) ∧ ErC K C nw bm ∧ ClsV c cv ∧
  PySem.W.kitOne K (.ref C) cv = some b ∧ Q (.bl b) H
theorem call_isO (hn : PySem.W.specialIn X.K (.builtin "object.__class__") "__get__" = some (some (.builtin "getset_descriptor.__get__"))) (ht : PySem.W.takesIn X.K (.builtin "object.__class__") = some true) : CallR X (.builtin "isinstance") (rIsO X.K) := by
  intro pins s σ H xs us Q I r h
  obtain ⟨a, C, d, nw, bm, fs, c, cv, b, rfl, ea, ed, T, hc, e, q⟩ := h
  obtain ⟨u1, u2, rfl, r1, r2⟩ := vals2 r
  have e2 := hc.eq r2
  subst e2
  cases (show u1 = Value.ref a from r1)
  obtain ⟨ox, od, mA, J, _, _⟩ := inst_exo I ea ed
  exact PySem.W.kia_one (PySem.W.kitx_exc T.has.2 T.ga T.gt T.ex T.cl hn ht T.ob) I.kIn J e (fun z => nomatch z) fun tk => ⟨.bl b, H, I.tok tk, rfl, q⟩
end
/-! ### an own error made -/
/-- what __init__ leaves: the object at a with its dict at d -/
def Made (H H' : Hp) (a C d : Addr) (fs : List (Str × V)) : Prop := H d = none ∧ d ≠ a ∧ H' a = some (exo a C (some d)) ∧ H' d = some (exd d fs) ∧ ∀ b o, b ≠ a → H b = some o → H' b = some o
def spIni (C : Addr) (n : Nat) (fs : List V → List (Str × V)) : Sp := fun vs H Q _ => ∃ (a : Addr) (ws : List V), vs = .ref a :: ws ∧ ws.length = n ∧ H a = some (exo a C none) ∧ ∀ d H', Made H H' a C d (fs ws) → Q .non H'
abbrev NFI (st : Stmt) (qual : Str) (cc c : Addr) : NF := ⟨"__init__", qual, defArgs st, defBody st, defScope st, [(("__class__" : Str), cc)], c⟩
theorem made1 {H : Hp} {a C d : Addr} {f : Str} {y : V} (ha : H a = some (exo a C none)) (hd : H d = none) (ne : d ≠ a) : Made H (upd (upd H d (exd d [(f, y)])) a (exo a C (some d))) a C d [(f, y)] :=
  ⟨hd, ne, upd_same, (upd_ne ne).trans upd_same, fun b o hb e => (upd_ne hb).trans ((upd_ne (ne_of_none e hd)).trans e)⟩
theorem made2 {H H' : Hp} {a C d : Addr} {f : Str} {y : V} {fs : List (Str × V)} (m : Made H H' a C d fs) : Made H (upd H' d (exd d ((f, y) :: fs))) a C d ((f, y) :: fs) :=
  ⟨m.1, m.2.1, (upd_ne m.2.1.symm).trans m.2.2.1, upd_same, fun b o hb e => (upd_ne (ne_of_none e m.1)).trans (m.2.2.2.2 b o hb e)⟩
/-- the value x is an error of the class at C with the fields fs -/
def IsE (H : Hp) (C : Addr) (fs : List (Str × V)) (x : V) : Prop := ∃ a d : Addr, x = .ref a ∧ H a = some (exo a C (some d)) ∧ H d = some (exd d fs)
theorem IsE.same {H H' : Hp} {C : Addr} {fs : List (Str × V)} {x : V} (h : IsE H C fs x) (s : Same H H') : IsE H' C fs x := by
  obtain ⟨a, d, rfl, ea, ed⟩ := h
  exact ⟨a, d, rfl, s _ _ ea, s _ _ ed⟩
theorem mkv_use {H1 : Hp} {Q : VK} {C : Addr} {n : Nat} {fs : List V → List (Str × V)} {vs : List V} (hn : vs.length = n) (h0 : n ≤ 1000) (h : ∀ x H', Same H1 H' → IsE H' C (fs vs) x → Q x H') :
    vs.length ≤ 1000 ∧ ∀ a, H1 a = none → spIni C n fs (.ref a :: (vs ++ [])) (upd H1 a (exo a C none)) (fun v H2 => v = .non ∧ Q (.ref a) H2) (fun _ _ _ => False) := by
  refine ⟨by omega, fun a ha => ?_⟩
  rw [List.append_nil]
  refine ⟨a, vs, rfl, hn, upd_same, fun d H2 m => ⟨rfl, h _ _ (fun b o e => ?_) ⟨a, d, rfl, m.2.2.1, m.2.2.2.1⟩⟩⟩
  exact m.2.2.2.2 b o (ne_of_none e ha) ((upd_ne (ne_of_none e ha)).trans e)
/-- the class nm, an own error over B: its mro behind itself is pre and then bmB -/
structure Er (P : Program) (K : PySem.W.Frag) (mg : Str → Option Value) (B newId initId : String) (bmB pre : List Value) (st : Stmt) (nm qual : Str) where
  C : Addr
  f : Addr
  cc : Addr
  c : Addr
  ar : Arg
  doc : Value
  pm : Value
  ctv : Value
  T : IniM P K mg B newId initId bmB f C (NFI st qual cc c) ar doc pm ctv
  iC : PySem.W.findIn K (.ref C) "__init__" = some (some (.ref f))
  tI : PySem.W.typeIn K (.ref f) = some (.type "function")
  g : mg nm = some (.ref C)
  har : ar.arg = "self"
  lk : ∃ q N bs sn sub ab col dd k0 k1 k2 k3 k5, K.lookup C = some (excClassObj nm q C N bs (pre ++ bmB) true sn sub ab col dd k0 k1 k2 k3 k5 newId)
section
variable {base : Heap} {K : PySem.W.Frag} {mg : Str → Option Value} {P : Program} {w : World} {B newId initId : String} {bmB pre : List Value} {st : Stmt} {nm qual : Str}
theorem ok_ini1 {fl pn wd m : Str} {p0 p1 p2 p3 p4 p5 q0 q1 q2 q3 r0 r1 r2 r3 : Pos} {n1 n2 : Nat} {pl : Addr → Sem Bool} (EB : ErB B newId initId bmB) (T : Er P K mg B newId initId bmB pre st nm qual) (S : NScope ["self", pn, "__class__"] ["self", pn] ["__class__"] (defScope st))
    (hbd : defBody st = [.Expr (.Call (.Attribute (.Call (.Name "super" p0) [] [] p1) "__init__" p2) [.Constant (.str m) n1 p3] [] p4) p5, .Assign [.Attribute (.Name "self" q0) "word" q1] (.Constant (.str wd) n2 q2) q3, .Assign [.Attribute (.Name "self" r0) fl r1] (.Name pn r2) r3])
    (e1 : PySem.W.findIn K (.ref T.C) "word" = some none) (e2 : PySem.W.findIn K (.ref T.C) fl = some none) (hn1 : (pn == ("__debug__" : Str)) = false := by decide) (hn2 : (pn == ("__classdict__" : Str)) = false := by decide)
    (he : ∀ L, eval (.Call (.Attribute (.Call (.Name "super" p0) [] [] p1) "__init__" p2) [.Constant (.str m) n1 p3] [] p4) (envF (NFI st qual T.cc T.c) T.f L) = (do
      let ov ← attributeBase (.Call (.Name "super" p0) [] [] p1) "__init__" (envF (NFI st qual T.cc T.c) T.f L) (eval (.Call (.Name "super" p0) [] [] p1) (envF (NFI st qual T.cc T.c) T.f L))
      standAt p2.atName
      let (g, first) ← holding [ov] (getMethod ov "__init__" (pl L))
      callWith p4 g first (backTo p4 (starEach [.Constant (.str m) n1 p3] (envF (NFI st qual T.cc T.c) T.f L))) []) := by intro _; rfl)
    (hint : ∀ L, interactive (envF (NFI st qual T.cc T.c) T.f L) = false := by intro _; rfl)
    (hsw : ∀ L, swapsWith (.Call (.Attribute (.Call (.Name "super" p0) [] [] p1) "__init__" p2) [.Constant (.str m) n1 p3] [] p4) none p5.line (envF (NFI st qual T.cc T.c) T.f L) = pure false := by intro _; rfl)
    (hs1 : ∀ L, swapsWith (.Constant (.str wd) n2 q2) (some (.Attribute (.Name "self" q0) "word" q1)) q3.line (envF (NFI st qual T.cc T.c) T.f L) = pure false := by intro _; rfl)
    (hs2 : ∀ L, swapsWith (.Name pn r2) (some (.Attribute (.Name "self" r0) fl r1)) r3.line (envF (NFI st qual T.cc T.c) T.f L) = pure false := by intro _; rfl) :
    FnOk P w K mg base CX0 1 T.f ((NFI st qual T.cc T.c).fd T.doc T.pm T.ctv) ["self", pn] (spIni T.C 1 fun ws => [(fl, ws.getD 0 .non), ("word", .str wd)]) := by
  refine init_fn (i := 0) (j := 2) (N := ["self", pn, "__class__"]) EB T.T S (fun vs H Q E h => ?_) (by rw [T.har]; rfl) rfl hbd (fun vs H Q E h => ?_) (fun A outer s H vs Q E hr h => ?_) he hint hsw
  · obtain ⟨a, ws, rfl, hn, _⟩ := h
    show ws.length + 1 = 2
    omega
  · obtain ⟨a, ws, rfl, hn, ha, _⟩ := h
    match ws, hn with
    | [v], _ => exact ⟨a, rfl, rfl, ha⟩
  · obtain ⟨a, ws, rfl, hn, ha, q⟩ := h
    match ws, hn, q with
    | [v], _, q =>
      refine ⟨_, pss_cons (ps_gst EB (pe_var (i := 0) rfl (Or.inl (S.par _ (by simp)))) pe_str (hs1 _)) (pss_one (ps_gst EB (pe_var (i := 0) rfl (Or.inl (S.par _ (by simp)))) (pe_var (i := 1) rfl (Or.inl (S.par _ (by simp))) hn1 hn2) (hs2 _))), ?_⟩
      refine ⟨_, rfl, a, T.C, rfl, T.T.ox, e1, .inl ⟨ha, fun d hd ne => ?_⟩⟩
      have m1 := made1 (f := "word") (y := .str wd) ha hd ne
      exact ⟨_, rfl, _, rfl, a, T.C, rfl, T.T.ox, e2, .inr ⟨d, _, m1.2.2.1, m1.2.2.2.1, by simp, q d _ (made2 m1)⟩⟩
theorem ok_ini0 {wd m : Str} {p0 p1 p2 p3 p4 p5 q0 q1 q2 q3 : Pos} {n1 n2 : Nat} {pl : Addr → Sem Bool} (EB : ErB B newId initId bmB) (T : Er P K mg B newId initId bmB pre st nm qual) (S : NScope ["self", "__class__"] ["self"] ["__class__"] (defScope st))
    (hbd : defBody st = [.Expr (.Call (.Attribute (.Call (.Name "super" p0) [] [] p1) "__init__" p2) [.Constant (.str m) n1 p3] [] p4) p5, .Assign [.Attribute (.Name "self" q0) "word" q1] (.Constant (.str wd) n2 q2) q3])
    (e1 : PySem.W.findIn K (.ref T.C) "word" = some none)
    (he : ∀ L, eval (.Call (.Attribute (.Call (.Name "super" p0) [] [] p1) "__init__" p2) [.Constant (.str m) n1 p3] [] p4) (envF (NFI st qual T.cc T.c) T.f L) = (do
      let ov ← attributeBase (.Call (.Name "super" p0) [] [] p1) "__init__" (envF (NFI st qual T.cc T.c) T.f L) (eval (.Call (.Name "super" p0) [] [] p1) (envF (NFI st qual T.cc T.c) T.f L))
      standAt p2.atName
      let (g, first) ← holding [ov] (getMethod ov "__init__" (pl L))
      callWith p4 g first (backTo p4 (starEach [.Constant (.str m) n1 p3] (envF (NFI st qual T.cc T.c) T.f L))) []) := by intro _; rfl)
    (hint : ∀ L, interactive (envF (NFI st qual T.cc T.c) T.f L) = false := by intro _; rfl)
    (hsw : ∀ L, swapsWith (.Call (.Attribute (.Call (.Name "super" p0) [] [] p1) "__init__" p2) [.Constant (.str m) n1 p3] [] p4) none p5.line (envF (NFI st qual T.cc T.c) T.f L) = pure false := by intro _; rfl)
    (hs1 : ∀ L, swapsWith (.Constant (.str wd) n2 q2) (some (.Attribute (.Name "self" q0) "word" q1)) q3.line (envF (NFI st qual T.cc T.c) T.f L) = pure false := by intro _; rfl) :
    FnOk P w K mg base CX0 1 T.f ((NFI st qual T.cc T.c).fd T.doc T.pm T.ctv) ["self"] (spIni T.C 0 fun _ => [("word", .str wd)]) := by
  refine init_fn (i := 0) (j := 1) (N := ["self", "__class__"]) EB T.T S (fun vs H Q E h => ?_) (by rw [T.har]; rfl) rfl hbd (fun vs H Q E h => ?_) (fun A outer s H vs Q E hr h => ?_) he hint hsw
  · obtain ⟨a, ws, rfl, hn, _⟩ := h
    show ws.length + 1 = 1
    omega
  · obtain ⟨a, ws, rfl, hn, ha, _⟩ := h
    match ws, hn with
    | [], _ => exact ⟨a, rfl, rfl, ha⟩
  · obtain ⟨a, ws, rfl, hn, ha, q⟩ := h
    match ws, hn, q with
    | [], _, q =>
      refine ⟨_, pss_one (ps_gst EB (pe_var (i := 0) rfl (Or.inl (S.par _ (by simp)))) pe_str (hs1 _)), ?_⟩
      refine ⟨_, rfl, a, T.C, rfl, T.T.ox, e1, .inl ⟨ha, fun d hd ne => ?_⟩⟩
      exact q d _ (made1 (f := "word") (y := .str wd) ha hd ne)
/-! ### isinstance between own errors -/
theorem Er.cl (T : Er P K mg B newId initId bmB pre st nm qual) : ∃ cd : ClassData, PySem.W.clsIn K T.C = some cd ∧ cd.name = nm ∧ cd.mro = .ref T.C :: (pre ++ bmB) := by
  obtain ⟨q, N, bs, sn, sub, ab, col, dd, k0, k1, k2, k3, k5, h⟩ := T.lk
  exact ⟨{ name := nm, bases := bs, mro := .ref T.C :: (pre ++ bmB), ns := N, qualname := q, hasDict := true, slotNames := sn, subclasses := sub, abstract := ab, collection := col, hasDel := false }, by unfold PySem.W.clsIn; rw [h] <;> rfl, rfl, rfl⟩
theorem kit_ref {C D : Addr} {l : List Value} {cd cd' : ClassData} (hC : PySem.W.clsIn K C = some cd) (hm : cd.mro = .ref C :: l) (hD : PySem.W.clsIn K D = some cd') (hT : PySem.W.typeIn K (.ref D) = some (.type "type")) :
    PySem.W.kitOne K (.ref C) (.ref D) = some ((Value.ref C :: l).contains (.ref D)) := by
  unfold PySem.W.kitOne
  split
  · rename_i h
    rw [List.contains_cons, show (Value.ref D == Value.ref C) = true by rw [eq_of_beq h]; exact beq_self_eq_true _]
    rfl
  · unfold PySem.W.kitCls
    dsimp only
    rw [hD, hT, if_pos (show ((some cd').isSome && some (Value.type "type") == some (Value.type "type")) = true from show (true && some (Value.type "type") == some (Value.type "type")) = true by decide +kernel)]
    show PySem.W.mroIn K C (.ref D) = _
    unfold PySem.W.mroIn
    rw [hC, Option.bind_some, hm]
    rfl
theorem kit_typ {C : Addr} {T : String} {l : List Value} {cd : ClassData} (hC : PySem.W.clsIn K C = some cd) (hm : cd.mro = .ref C :: l) (hT : PySem.W.kitMeta T = true) :
    PySem.W.kitOne K (.ref C) (.type T) = some ((Value.ref C :: l).contains (.type T)) := by
  unfold PySem.W.kitOne
  rw [if_neg (by intro h; cases eq_of_beq h)]
  unfold PySem.W.kitCls
  dsimp only
  rw [if_pos hT]
  show PySem.W.mroIn K C (.type T) = _
  unfold PySem.W.mroIn
  rw [hC, Option.bind_some, hm]
  rfl
theorem cls_ne {C D : Addr} {c d : ClassData} (hC : PySem.W.clsIn K C = some c) (hD : PySem.W.clsIn K D = some d) (hn : c.name ≠ d.name) : C ≠ D := by
  intro e
  subst e
  rw [hC] at hD
  cases hD
  exact hn rfl
end
section
variable {P : Program} {K : PySem.W.Frag} {h : Heap} {mg : Str → Option Value} {B newId initId : String} {bmB pre : List Value} {st : Stmt} {nm qual : Str}
theorem mro_at {C : Addr} {q : Str} {N : Addr} {bs : List Value} {sn : List Str} {sub : List Value} {ab : Bool} {col : Option Bool} {dd : Option Addr} {k0 k1 k2 k3 k5 : Option Value} (lC : K.lookup C = some (excClassObj nm q C N bs (pre ++ bmB) true sn sub ab col dd k0 k1 k2 k3 k5 newId)) (v : Value) :
    PySem.W.mroIn K C v = some ((Value.ref C :: (pre ++ bmB)).contains v) := by
  have hcl : PySem.W.clsIn K C = some { name := nm, bases := bs, mro := .ref C :: (pre ++ bmB), ns := N, qualname := q, hasDict := true, slotNames := sn, subclasses := sub, abstract := ab, collection := col, hasDel := false } := by unfold PySem.W.clsIn; rw [lC] <;> rfl
  unfold PySem.W.mroIn
  rw [hcl, Option.bind_some]
  rfl
theorem mro_ty {C : Addr} {X : String} (ht : PySem.W.excTail bmB (pre ++ bmB) = true) (hx : bmB.contains (.type X) = true) : (Value.ref C :: (pre ++ bmB)).contains (.type X) = true := by
  rw [List.contains_cons, PySem.W.excTail_contains X _ ht, hx, Bool.or_true]
theorem ov_at {C : Addr} {q : Str} {N : Addr} {bs : List Value} {sn : List Str} {sub : List Value} {ab : Bool} {col : Option Bool} {dd : Option Addr} {k0 k1 k2 k3 k5 : Option Value} (lC : K.lookup C = some (excClassObj nm q C N bs (pre ++ bmB) true sn sub ab col dd k0 k1 k2 k3 k5 newId)) (ht : PySem.W.excTail bmB (pre ++ bmB) = true) : PySem.W.excOver K C bmB = true := by
  have hcl : PySem.W.clsIn K C = some { name := nm, bases := bs, mro := .ref C :: (pre ++ bmB), ns := N, qualname := q, hasDict := true, slotNames := sn, subclasses := sub, abstract := ab, collection := col, hasDel := false } := by unfold PySem.W.clsIn; rw [lC] <;> rfl
  unfold PySem.W.excOver
  rw [hcl]
  show (C == C && PySem.W.excTail bmB (pre ++ bmB)) = true
  rw [beq_self_eq_true, ht]
  rfl
@[reducible] def er_mk (X : K.In h) (G : h.Ns mainGlobals mg) {C f c cc : Addr} {od cld cdd : Option Addr} {sl csl ccs : Array (Option Value)} {doc pm ctv clc ccl : Value} {vs : Array Value} {file : Str} {tf : Tok} {ar : Arg}
    {q : Str} {N : Addr} {bs : List Value} {sn : List Str} {sub : List Value} {ab : Bool} {col : Option Bool} {dd : Option Addr} {k0 k1 k2 k3 k5 : Option Value}
    (op : PySem.W.nsIn K cStatics "thirdparty.any" = some none) (no : PySem.W.nsIn K mainGlobals "super" = some none)
    (h1 : bmB.contains (.type "BaseException") = true) (h2 : bmB.contains (.type B) = true) (h3 : bmB.contains (.type "object") = true)
    (ht : PySem.W.excTail bmB (pre ++ bmB) = true)
    (hh : ((defArgs st).posonlyargs ++ (defArgs st).args).head? = some ar) (har : ar.arg = "self")
    (ks : (defScope st).names.lookup ("super" : Str) = some .globalImplicit) (kc : (defScope st).names.lookup ("__class__" : Str) = some .free) (ka : (defScope st).names.lookup ar.arg = some .local)
    (top : (P.main.scope.names.lookup ("super" : Str)).isSome = false)
    (aC : PySem.W.nsIn K mainGlobals nm = some (some (.ref C)))
    (lC : K.lookup C = some (excClassObj nm q C N bs (pre ++ bmB) true sn sub ab col dd k0 k1 k2 k3 k5 newId))
    (aI : PySem.W.findIn K (.ref C) "__init__" = some (some (.ref f)))
    (lI : K.lookup f = some ⟨.type "function", od, .func (PySem.W.fnX "__init__" qual (defArgs st) (defBody st) (defScope st) [(("__class__" : Str), cc)] .none .none doc pm none (.ref c) ctv), sl⟩)
    (cI : PySem.W.codeIn K (.ref c) qual = true)
    (lc : K.lookup cc = some ⟨clc, cld, .cell (some (.ref C)), csl⟩)
    (lco : K.lookup c = some ⟨ccl, cdd, .fields vs, ccs⟩)
    (sa : PySem.W.findIn K (.ref C) "__setattr__" = some (some (.builtin "object.__setattr__")))
    (ga : PySem.W.findIn K (.ref C) "__getattribute__" = some (some (.builtin "BaseException.__getattribute__")))
    (gt : PySem.W.findIn K (.ref C) "__getattr__" = some none)
    (kp : PySem.W.keepIn K (.ref C) = true)
    (cl : PySem.W.findIn K (.ref C) "__class__" = some (some (.builtin "object.__class__")))
    (su : PySem.W.ks_superIn K C C "__init__" = some (some (.builtin initId)))
    (hvs : vs[2]? = some (.str file tf)) (hfile : ((P.main.file : Str) == file) = true) : Er P K mg B newId initId bmB pre st nm qual where
  C := C
  f := f
  cc := cc
  c := c
  ar := ar
  doc := doc
  pm := pm
  ctv := ctv
  T := {
    lk := ⟨od, sl, lI⟩
    cd := cI
    cl := ⟨cc, _, rfl, lc, rfl⟩
    hd := hh
    fl := ⟨_, vs, file, tf, lco, rfl, hvs, hfile⟩
    ks := ks
    kc := kc
    ka := ka
    top := top
    no := PySem.W.mg_none_of X G no
    op := op
    ox := {
      cls := ⟨nm, q, N, bs, pre ++ bmB, sn, sub, ab, col, dd, k0, k1, k2, k3, k5, lC, ht⟩
      ov := ov_at lC ht
      sa := sa
      ga := ga
      gt := gt
      ex := (mro_at lC _).trans (congrArg some (mro_ty ht h1))
      ty := congrArg (Option.map fun o : Obj => o.cls) lC
      kp := kp
      cl := cl
      ob := (mro_at lC _).trans (congrArg some (mro_ty ht h3)) }
    su := su
    sb := (mro_at lC _).trans (congrArg some (mro_ty ht h2))
    mr := (mro_at lC _).trans (by rw [List.contains_cons, beq_self_eq_true, Bool.true_or]) }
  iC := aI
  tI := congrArg (Option.map fun o : Obj => o.cls) lI
  g := PySem.W.mg_of X G aC
  har := har
  lk := ⟨q, N, bs, sn, sub, ab, col, dd, k0, k1, k2, k3, k5, lC⟩
/-- an own error and the fields that its class lacks -/
structure ErW (P : Program) (K : PySem.W.Frag) (mg : Str → Option Value) (B newId initId : String) (bmB pre : List Value) (st : Stmt) (nm qual : Str) (fl : List Str) where
  e : Er P K mg B newId initId bmB pre st nm qual
  no : ∀ x ∈ fl, PySem.W.findIn K (.ref e.C) x = some none
def erw1 (X : K.In h) (G : h.Ns mainGlobals mg) {C f c cc : Addr} {od cld cdd : Option Addr} {sl csl ccs : Array (Option Value)} {doc pm ctv clc ccl : Value} {vs : Array Value} {file : Str} {tf : Tok} {ar : Arg}
    {q : Str} {N : Addr} {bs : List Value} {sn : List Str} {sub : List Value} {ab : Bool} {col : Option Bool} {dd : Option Addr} {k0 k1 k2 k3 k5 : Option Value}
    (op : PySem.W.nsIn K cStatics "thirdparty.any" = some none) (no : PySem.W.nsIn K mainGlobals "super" = some none)
    (h1 : bmB.contains (.type "BaseException") = true) (h2 : bmB.contains (.type B) = true) (h3 : bmB.contains (.type "object") = true)
    (ht : PySem.W.excTail bmB (pre ++ bmB) = true)
    (hh : ((defArgs st).posonlyargs ++ (defArgs st).args).head? = some ar) (har : ar.arg = "self")
    (ks : (defScope st).names.lookup ("super" : Str) = some .globalImplicit) (kc : (defScope st).names.lookup ("__class__" : Str) = some .free) (ka : (defScope st).names.lookup ar.arg = some .local)
    (top : (P.main.scope.names.lookup ("super" : Str)).isSome = false)
    (aC : PySem.W.nsIn K mainGlobals nm = some (some (.ref C)))
    (lC : K.lookup C = some (excClassObj nm q C N bs (pre ++ bmB) true sn sub ab col dd k0 k1 k2 k3 k5 newId))
    (aI : PySem.W.findIn K (.ref C) "__init__" = some (some (.ref f)))
    (lI : K.lookup f = some ⟨.type "function", od, .func (PySem.W.fnX "__init__" qual (defArgs st) (defBody st) (defScope st) [(("__class__" : Str), cc)] .none .none doc pm none (.ref c) ctv), sl⟩)
    (cI : PySem.W.codeIn K (.ref c) qual = true)
    (lc : K.lookup cc = some ⟨clc, cld, .cell (some (.ref C)), csl⟩)
    (lco : K.lookup c = some ⟨ccl, cdd, .fields vs, ccs⟩)
    (sa : PySem.W.findIn K (.ref C) "__setattr__" = some (some (.builtin "object.__setattr__")))
    (ga : PySem.W.findIn K (.ref C) "__getattribute__" = some (some (.builtin "BaseException.__getattribute__")))
    (gt : PySem.W.findIn K (.ref C) "__getattr__" = some none)
    (kp : PySem.W.keepIn K (.ref C) = true)
    (cl : PySem.W.findIn K (.ref C) "__class__" = some (some (.builtin "object.__class__")))
    (su : PySem.W.ks_superIn K C C "__init__" = some (some (.builtin initId)))
    (hvs : vs[2]? = some (.str file tf)) (hfile : ((P.main.file : Str) == file) = true) {f1 : Str} (x1 : PySem.W.findIn K (.ref C) f1 = some none) : ErW P K mg B newId initId bmB pre st nm qual [f1] :=
  ⟨er_mk (C := C) X G op no h1 h2 h3 ht hh har ks kc ka top aC lC aI lI cI lc lco sa ga gt kp cl su hvs hfile, fun x hx => by
    rcases List.mem_cons.mp hx with rfl | e
    · exact x1
    · cases e⟩
def erw2 (X : K.In h) (G : h.Ns mainGlobals mg) {C f c cc : Addr} {od cld cdd : Option Addr} {sl csl ccs : Array (Option Value)} {doc pm ctv clc ccl : Value} {vs : Array Value} {file : Str} {tf : Tok} {ar : Arg}
    {q : Str} {N : Addr} {bs : List Value} {sn : List Str} {sub : List Value} {ab : Bool} {col : Option Bool} {dd : Option Addr} {k0 k1 k2 k3 k5 : Option Value}
    (op : PySem.W.nsIn K cStatics "thirdparty.any" = some none) (no : PySem.W.nsIn K mainGlobals "super" = some none)
    (h1 : bmB.contains (.type "BaseException") = true) (h2 : bmB.contains (.type B) = true) (h3 : bmB.contains (.type "object") = true)
    (ht : PySem.W.excTail bmB (pre ++ bmB) = true)
    (hh : ((defArgs st).posonlyargs ++ (defArgs st).args).head? = some ar) (har : ar.arg = "self")
    (ks : (defScope st).names.lookup ("super" : Str) = some .globalImplicit) (kc : (defScope st).names.lookup ("__class__" : Str) = some .free) (ka : (defScope st).names.lookup ar.arg = some .local)
    (top : (P.main.scope.names.lookup ("super" : Str)).isSome = false)
    (aC : PySem.W.nsIn K mainGlobals nm = some (some (.ref C)))
    (lC : K.lookup C = some (excClassObj nm q C N bs (pre ++ bmB) true sn sub ab col dd k0 k1 k2 k3 k5 newId))
    (aI : PySem.W.findIn K (.ref C) "__init__" = some (some (.ref f)))
    (lI : K.lookup f = some ⟨.type "function", od, .func (PySem.W.fnX "__init__" qual (defArgs st) (defBody st) (defScope st) [(("__class__" : Str), cc)] .none .none doc pm none (.ref c) ctv), sl⟩)
    (cI : PySem.W.codeIn K (.ref c) qual = true)
    (lc : K.lookup cc = some ⟨clc, cld, .cell (some (.ref C)), csl⟩)
    (lco : K.lookup c = some ⟨ccl, cdd, .fields vs, ccs⟩)
    (sa : PySem.W.findIn K (.ref C) "__setattr__" = some (some (.builtin "object.__setattr__")))
    (ga : PySem.W.findIn K (.ref C) "__getattribute__" = some (some (.builtin "BaseException.__getattribute__")))
    (gt : PySem.W.findIn K (.ref C) "__getattr__" = some none)
    (kp : PySem.W.keepIn K (.ref C) = true)
    (cl : PySem.W.findIn K (.ref C) "__class__" = some (some (.builtin "object.__class__")))
    (su : PySem.W.ks_superIn K C C "__init__" = some (some (.builtin initId)))
    (hvs : vs[2]? = some (.str file tf)) (hfile : ((P.main.file : Str) == file) = true) {f1 f2 : Str} (x1 : PySem.W.findIn K (.ref C) f1 = some none) (x2 : PySem.W.findIn K (.ref C) f2 = some none) : ErW P K mg B newId initId bmB pre st nm qual [f1, f2] :=
  ⟨er_mk (C := C) X G op no h1 h2 h3 ht hh har ks kc ka top aC lC aI lI cI lc lco sa ga gt kp cl su hvs hfile, fun x hx => by
    rcases List.mem_cons.mp hx with rfl | e
    · exact x1
    · rcases List.mem_cons.mp e with rfl | e
      · exact x2
      · cases e⟩
end
/-! ### raise of an own error -/
section
variable {P : Program} {K : PySem.W.Frag} {mg : Str → Option Value} {G : Addr} {st : Stmt} {nm qual : Str}
theorem oex_of (T : Er P K mg "ValueError" "ValueError.__new__" "ValueError.__init__" [.type "ValueError", .type "Exception", .type "BaseException", .type "object"] [.ref G] st nm qual) : OexC K T.C := by
  obtain ⟨q, N, bs, sn, sub, ab, col, dd, k0, k1, k2, k3, k5, lk⟩ := T.lk
  exact ⟨⟨nm, q, N, bs, _, sn, sub, ab, col, dd, k0, k1, k2, k3, k5, lk, rfl⟩, T.T.ox.sa, T.T.ox.ex, T.T.ox.ty, T.T.ox.kp⟩
theorem xfc_of {B newId initId : String} {bmB pre : List Value} (T : Er P K mg B newId initId bmB pre st nm qual) : XfC K T.C := ⟨T.T.ox.ga, T.T.ox.gt, T.T.ox.ex, T.T.ox.has.1⟩
/-- what the making of an error asks, ahead of its raise -/
theorem mk_use {H1 : Hp} {C : Addr} {n : Nat} {fF : List V → List (Str × V)} {vs : List V} {R : Value → Option Addr → Hp → Prop} (hn : vs.length = n) (h0 : n ≤ 1000) (k : ∀ d Hf, H1 d = none → Same H1 Hf → Hf d = some (.xd (fF vs)) → R (.ref C) (some d) Hf) :
    vs.length ≤ 1000 ∧ ∀ a, H1 a = none → spIni C n fF (.ref a :: (vs ++ [])) (upd H1 a (exo a C none)) (fun v H2 => v = .non ∧ ∃ (d : Addr) (fs : List (Str × V)), H2 a = some (exo a C (some d)) ∧ H2 d = some (exd d fs) ∧ H1 d = none ∧ R (.ref C) (some d) (upd (del H2 a) d (.xd fs))) (fun _ _ _ => False) := by
  refine ⟨by omega, fun a na => ?_⟩
  rw [List.append_nil]
  refine ⟨a, vs, rfl, hn, upd_same, fun d H2 M => ?_⟩
  obtain ⟨m1, m2, m3, m4, m5⟩ := M
  have hd : H1 d = none := by
    rw [upd_ne m2] at m1
    exact m1
  refine ⟨rfl, d, _, m3, m4, hd, k d _ hd (fun b o z => ?_) upd_same⟩
  have hb : b ≠ a := ne_of_none z na
  rw [upd_ne (ne_of_none z hd), del_ne hb]
  exact m5 b o hb ((upd_ne hb).trans z)
end
/-! ### raise of an own error that takes no arguments
By the statements of call_own, FnOk.run and mk_end; the first two are met in the order in which the model makes an object, as in every rule of this kind. -/
section
variable {X : Cx} {pins : List (Addr × Obj)} {σ : L2.St} {H : Hp} {s : Shared} {C : Addr}
/-- an error just made, with nothing in it -/
def bare (C : Addr) (h : Heap) : Heap := (h.push (PySem.W.kdv_tup [])).push (PySem.HandSPX.excO C h.objs.size)
theorem bare_keeps {h : Heap} : ∀ b o, h.get? b = some o → (bare C h).get? b = some o := by
  intro b o z
  unfold bare
  apply Heap.get?_push_of_some
  apply Heap.get?_push_of_some
  exact z
theorem bare_at {h : Heap} : (bare C h).get? (h.objs.size + 1) = some (PySem.HandSPX.excO C h.objs.size) := by
  have z := Heap.get?_push_size (h.push (PySem.W.kdv_tup [])) (o := PySem.HandSPX.excO C h.objs.size) rfl
  rwa [Heap.size_push] at z
theorem bare_inv (I : Inv X pins σ H s) : Inv X pins σ (upd H (s.heap.objs.size + 1) (exo (s.heap.objs.size + 1) C none)) { s with heap := bare C s.heap } := by
  have ok : ObjOk X.prog X.w (upd H (s.heap.objs.size + 1) (exo (s.heap.objs.size + 1) C none)) (bare C s.heap) (s.heap.objs.size + 1) (exo (s.heap.objs.size + 1) C none) := exo_ok bare_at
  exact I.laid (t' := s.toks) bare_keeps (Nat.le_succ _) ok
/-- what is told of the raise: a table of fields at a new place, the rest as before -/
def ToldE (C : Addr) (fs : List (Str × V)) : L2.St → Hp → XK → Prop := fun _ H Q => ∀ d G, H d = none → Same H G → G d = some (.xd fs) → Q (.ref C) (some d) G
theorem told_end {fs : List (Str × V)} {Q : XK} {a d : Addr} {G : Hp} (na : H a = none) (q : ToldE C fs σ H Q) (m : Made (upd H a (exo a C none)) G a C d fs) : H d = none ∧ Q (.ref C) (some d) (upd (del G a) d (.xd fs)) := by
  have free : H d = none := (upd_ne m.2.1).symm.trans m.1
  refine ⟨free, q d _ free ?_ upd_same⟩
  intro b o z
  have nb := ne_of_none z na
  calc (upd (del G a) d (.xd fs)) b = del G a b := upd_ne (ne_of_none z free)
    _ = G b := del_ne nb
    _ = some o := m.2.2.2.2 b o nb ((upd_ne nb).trans z)
theorem pmkE0 {B newId initId : String} {bmB : List Value} {CX : CXT} {x : Str} {fI : Addr} {k : Nat} {fd : FuncData} {ps : List Str} {fF : List V → List (Str × V)} {p pos : Pos} (E : ErB B newId initId bmB) (T : ErC X.K C newId bmB)
    (iC : PySem.W.findIn X.K (.ref C) "__init__" = some (some (.ref fI))) (tI : PySem.W.typeIn X.K (.ref fI) = some (.type "function")) (ini : FnOk X.prog X.w X.K X.mg X.base CX k fI fd ps (spIni C 0 fF)) (room : Room (k + 1) X.A)
    (binds : Binds X.K fd ps []) (none : Vals [] []) (never : Passes CX X (fun _ _ _ => False)) (gl : Gl X x) (named : X.mg x = some (.ref C)) (plain : (x == ("__debug__" : Str)) = false := by decide) : PMk X (.Call (.Name x p) [] [] pos) (ToldE C (fF [])) := by
  intro pins s σ H Q I q
  apply wpAny_Call_Name_kw
  refine ld_glob I gl named ?_ plain
  refine PySem.W.callWith_K0 I.kIn T.kp (wpAny_call ?_)
  have J := bare_inv (C := C) I
  have na : H (s.heap.objs.size + 1) = .none := I.hok.fresh (Nat.le_succ _)
  -- the initializer, at the bare error
  have asked : spIni C 0 fF [.ref (s.heap.objs.size + 1)] (upd H (s.heap.objs.size + 1) (exo (s.heap.objs.size + 1) C .none)) (fun v G => v = .non ∧ ∃ d, Made (upd H (s.heap.objs.size + 1) (exo (s.heap.objs.size + 1) C .none)) G (s.heap.objs.size + 1) C d (fF [])) (fun _ _ _ => False) := ⟨_, [], rfl, rfl, upd_same, fun d G m => ⟨rfl, d, m⟩⟩
  have one : Vals [V.ref (s.heap.objs.size + 1)] [Value.ref (s.heap.objs.size + 1)] := .cons rfl .nil
  have count : ([Value.ref (s.heap.objs.size + 1)] ++ []).length = ps.length := (ini.len _ _ _ _ asked)
  have ran := ini.run _ X.stack _ _ ⟨[.ref (s.heap.objs.size + 1)], []⟩ _ _ _ _ (room.make C [] []) (J.env0.make C [] []) (binds _ [.ref (s.heap.objs.size + 1)] J.kIn count) one asked
  obtain ⟨_, _, _, _, bm, _, _, _, _, _, _, _, _, _, _, hC, hbm⟩ := T.cls
  refine PySem.HandSPX.call_own (rest := []) E.fb (fun Y => PySem.W.excTail_contains Y bm hbm) (I.kIn _ _ hC) (PySem.W.looks_findIn I.kIn iC) (fun self => PySem.W.bind_fn I.kIn self tI) (Nat.zero_le _) (codeAny_mono ran ?_)
  intro r s' back
  cases r with
  | error er => exact never pins σ _ _ er s' J back
  | ok f =>
    cases f with
    | ret u =>
      obtain ⟨v, G, os', bare', un, hok, rv, rfl, d, m⟩ := back
      obtain ⟨free, q'⟩ := told_end na q m
      exact ⟨rv, mk_end (raises_own T.ex T.ty) I (Nat.le_succ _) bare_keeps un hok os' bare' m.2.2.1 m.2.2.2.1 free q'⟩
    | _ => exact back.elim
end
theorem sq_nn (x : Int) : 0 ≤ x * x := by
  rcases Int.le_total 0 x with h | h
  · exact Int.mul_nonneg h h
  · exact Int.mul_nonneg_of_nonpos_of_nonpos h h
theorem sq_le {x y : Int} (h0 : 0 ≤ x) (h : x ≤ y) : x * x ≤ y * y := Int.mul_le_mul h h h0 (Int.le_trans h0 h)
theorem sq_lt {x y : Int} (h0 : 0 ≤ x) (h : x < y) : x * x < y * y := by
  have h1 : (x + 1) * (x + 1) ≤ y * y := sq_le (by omega) (by omega)
  grind
theorem lt_of_sq {x y : Int} (h0 : 0 ≤ y) (h : x * x < y * y) : x < y := by
  rcases Int.lt_or_le x y with z | z
  · exact z
  · have := sq_le h0 z
    omega
theorem le_of_sq {x y : Int} (h0 : 0 ≤ y) (h : x * x ≤ y * y) : x ≤ y := by
  rcases Int.lt_or_le y x with z | z
  · have := sq_lt h0 z
    omega
  · exact z
/-- Newton's step from above -/
theorem newton_up {g n : Int} (hg : 0 < g) (hn : 0 ≤ n) : n < ((g + n / g) / 2 + 1) * ((g + n / g) / 2 + 1) := by
  have hq : 0 ≤ n / g := Int.ediv_nonneg hn (by omega)
  have h1 : n < g * (n / g + 1) := by
    have := Int.lt_ediv_add_one_mul_self n hg
    grind
  generalize n / g = q at hq h1 ⊢
  have h2 : g + q + 1 ≤ 2 * ((g + q) / 2 + 1) := by omega
  generalize (g + q) / 2 = r at h2 ⊢
  have h3 := sq_nn (g - (q + 1))
  have h4 := sq_le (show 0 ≤ g + q + 1 by omega) h2
  grind
theorem newton_dn {g n : Int} (hg : 0 < g) (h : n < g * g) : (g + n / g) / 2 < g := by
  have h1 : n / g < g := Int.ediv_lt_of_lt_mul hg h
  omega
theorem newton_nn {g n : Int} (hg : 0 < g) (hn : 0 ≤ n) : 0 ≤ (g + n / g) / 2 := by
  have hq : 0 ≤ n / g := Int.ediv_nonneg hn (by omega)
  omega
/-- no root times a square is a square -/
theorem no_square {d k : Int} (hk : 0 ≤ k) (h1 : k * k < d) (h2 : d < (k + 1) * (k + 1)) : ∀ (n : Nat) (b w : Int), 0 < b → 0 ≤ w → b.toNat ≤ n → w * w ≠ d * b * b
  | 0, b, w, hb, _, hn => by omega
  | n + 1, b, w, hb, hw, hn => fun e => by
    have hbb : 0 < b * b := Int.mul_pos hb hb
    have l1 : (k * b) * (k * b) < w * w := by
      have := Int.mul_lt_mul_of_pos_right h1 hbb
      grind
    have l2 : w * w < ((k + 1) * b) * ((k + 1) * b) := by
      have := Int.mul_lt_mul_of_pos_right h2 hbb
      grind
    have m1 : k * b < w := lt_of_sq hw l1
    have m2 : w < (k + 1) * b := lt_of_sq (Int.mul_nonneg (by omega) (by omega)) l2
    have m3 : w - k * b < b := by grind
    refine no_square hk h1 h2 n (w - k * b) (d * b - k * w) (by omega) ?_ (by omega) (by grind)
    have : (k * w) * b ≤ (d * b) * b := by
      have z := Int.mul_le_mul_of_nonneg_right (Int.le_of_lt m1) hw
      grind
    have z : k * w ≤ d * b := Int.le_of_mul_le_mul_right this hb
    omega
/-! ### defs with defaults, methods by keywords -/
inductive Dflt (K : PySem.W.Frag) (r : Addr) : Prop
  | mk {y1 y2 : Addr} {d e f : Option Addr} {m n o : Nat} {s t u : Array (Option Value)} {v w x y : Tok} (a : K.lookup r = some ⟨.type "tuple", d, .seq #[.ref y1, .ref y2] m, s⟩)
      (b : K.lookup y1 = some ⟨.type "tuple", e, .seq #[.int 0 v, .int 0 w] n, t⟩) (c : K.lookup y2 = some ⟨.type "tuple", f, .seq #[.int 0 x, .int 0 y] o, u⟩) : Dflt K r
section
variable {K : PySem.W.Frag} {f T D : Addr} {oc tc u : Value} {od td : Option Addr} {fd : FuncData} {sl ts : Array (Option Value)} {tn : Nat} {its : Array Value} {ps : List Str} {x : Str}
theorem bd_given (l : K.lookup f = some ⟨oc, od, .func fd, sl⟩) (t : K.lookup T = some ⟨tc, td, .seq its tn, ts⟩) (h : ∀ us : List Value, us.length = ps.length → ∃ k, bindArgs fd ⟨us, []⟩ = seqItems? (.ref T) >>= k ∧ k (some its) = pure (ps.zip us)) : Binds K fd ps [] := fun s us X hl => by
  rw [List.append_nil] at hl ⊢
  obtain ⟨k, e1, e2⟩ := h us hl
  refine BindsTo.of_looks fun M => ?_
  rw [e1]
  exact looks_items X t rfl (.of_pure e2)
theorem bd_dflt {v : Value} (l : K.lookup f = some ⟨oc, od, .func fd, sl⟩) (t : K.lookup T = some ⟨tc, td, .seq #[v] tn, ts⟩) (h : ∀ us : List Value, us.length + 1 = ps.length → ∃ k, bindArgs fd ⟨us, []⟩ = seqItems? (.ref T) >>= k ∧ k (some #[v]) = pure (ps.zip (us ++ [v]))) : Binds K fd ps [v] := fun s us X hl => by
  rw [List.length_append] at hl
  obtain ⟨k, e1, e2⟩ := h us hl
  refine BindsTo.of_looks fun M => ?_
  rw [e1]
  exact looks_items X t rfl (.of_pure e2)
theorem bd_kw (l : K.lookup f = some ⟨oc, od, .func fd, sl⟩) (kd : PySem.W.nsIn K D x = some (some u)) (h : ∀ us : List Value, us.length + 1 = ps.length → KwChain D [(x, u)] (bindArgs fd ⟨us, []⟩) (ps.zip (us ++ [u]))) : Binds K fd ps [u] := fun s us X hl => by
  rw [List.length_append] at hl
  refine BindsTo.of_looks fun M => ?_
  refine KwChain.looks X ?_ (h us hl)
  intro q hq
  rcases List.mem_cons.mp hq with e | e
  · rw [e]
    exact kd
  · cases e
end
section
variable {X : Cx} {CX : CXT} {k : Nat} {f C : Addr} {fd : FuncData} {ps ks : List Str} {sp : Sp} {E : XK} {m : Str} {pos apos : Pos} {o : Expr} {kws : List Keyword} {ta : TE} {tk : TA}
theorem pe_methK0 {pl : Sem Bool} {g : List Value → List Value → List Value} {gV : List V → List V → List V} (he : PE X o ta) (c : Cls X.K C) (hm : Meth X.K C m f) (F : FnOk X.prog X.w X.K X.mg X.base CX k f fd ps sp) (hr : Room k X.A) (hb : KBn X.K fd ps 1 ks g gV) (hx : Passes CX X E) (hkw : PK X kws tk)
    (hall : (backToKw pos (keywordEach kws X.env)).all (·.1.isSome) = true := by rfl)
    (hks : (backToKw pos (keywordEach kws X.env)).filterMap (·.1) = ks := by rfl)
    (hpl : ((backTo pos (starEach [] X.env)).any (·.1) || (backToKw pos (keywordEach kws X.env)).any (·.1.isNone)) = false := by rfl)
    (ht : eval (.Call (.Attribute o m apos) [] kws pos) X.env = (do
      let ov ← eval o X.env
      standAt apos.atName
      let (f, first) ← holding [ov] (getMethod ov m pl)
      callWith pos f first (backTo pos (starEach [] X.env)) (backToKw pos (keywordEach kws X.env))) := by rfl) :
    PE X (.Call (.Attribute o m apos) [] kws pos) (fun σ H Q => ta σ H fun x H1 => ∃ a dx fs, x = .ref a ∧ H1 a = some (.ins C dx fs) ∧ fs.lookup m = none ∧ tk σ H1 fun zs H2 => zs.length = ks.length ∧ sp (gV [.ref a] zs) H2 Q E) := by
  refine ⟨fun pins s σ H Q I h => ?_⟩
  refine PySem.W.methodCall_KW (pl := pl) (thn (he.run pins s σ H _ I h) fun u s1 ⟨x, H1, I1, rx, a, dx, fs, ex, ea, l, q⟩ => ?_) ht
  subst ex
  obtain rfl : u = Value.ref a := rx
  refine getmeth_ok I1 ea c hm l ?_
  refine PySem.W.callWith_KW0 (first := [.ref a]) (h₀ := X.base) I.ok.mod.kin hm.kp hall ?_ hpl
  refine thn (hkw.run pos pins s1 σ H1 _ I1 q) fun ws s2 ⟨zs, H2, I2, rz, l2, q2⟩ => ⟨I2.kIn, ?_⟩
  rw [hks]
  exact run_fnN (us := [.ref a]) (vs := [.ref a]) F hr hb hx I2 (.cons rfl .nil) rz rfl l2 q2
end
/-! ### operators of an own class -/
section
variable {X : Cx} {CX : CXT} {n : Nat} {C g : Addr} {fd : FuncData} {ps : List Str} {sp : Sp} {E : XK}
theorem inst_of {pins : List (Addr × Obj)} {σ : L2.St} {H : Hp} {s : Shared} {a dx : Addr} {fs : List (Str × V)} (I : Inv X pins σ H s) (ha : H a = some (.ins C dx fs)) : ∃ ox od, PySem.W.InstAt s.heap a ox C od := by
  obtain ⟨mA, J, _⟩ := ins_get I.hok ha
  obtain ⟨od, J, _⟩ := J.look
  exact ⟨_, _, J⟩
/-- x op y of two instances -/
def rOwn2 (C : Addr) (sp : Sp) (E : XK) : R2 := fun x y H Q => ∃ a dx fs b dy gs, x = .ref a ∧ y = .ref b ∧ H a = some (.ins C dx fs) ∧ H b = some (.ins C dy gs) ∧ sp [x, y] H Q E
theorem op_bin {op : Operator} {nm : Str} (m : Meth X.K C nm g) (sf : PySem.W.selfFirst X.K C = true) (F : FnOk X.prog X.w X.K X.mg X.base CX n g fd ps sp) (hr : Room n X.A) (hb : Binds X.K fd ps []) (hx : Passes CX X E)
    (hn : PySem.dunder op.info.2 = nm := by decide +kernel) : OpR X (binaryOp op) (rOwn2 C sp E) := by
  intro pins s σ H x y v u Q I rx ry h
  obtain ⟨a, dx, fs, b, dy, gs, rfl, rfl, ha, hb', q⟩ := h
  cases (show v = Value.ref a from rx)
  cases (show u = Value.ref b from ry)
  obtain ⟨ox, od, J⟩ := inst_of I ha
  obtain ⟨oy, od', J'⟩ := inst_of I hb'
  obtain ⟨mm, hF⟩ := I.fr
  refine PySem.W.binop_K (op := op) hF I.ok.mod.kin J J'.type sf (by rw [hn]; exact m.at_) m.fn ?_
  refine wpAny_mono (run_fn (us := [.ref a, .ref b]) (vs := [.ref a, .ref b]) F hr hb .nil hx I (.cons rfl (.cons rfl .nil)) q) (fun w s' z => ?_) fun _ _ x => x
  obtain ⟨z', H', I', rz, qz⟩ := z
  exact SlX.cmpback rz ⟨z', H', I', rz, qz⟩
/-- x op i -/
def rOwnI (C : Addr) (sp : Sp) (E : XK) : R2 := fun x y H Q => ∃ a dx fs i, x = .ref a ∧ y = .int i ∧ H a = some (.ins C dx fs) ∧ sp [x, y] H Q E
theorem op_binI {op : Operator} {nm nr : Str} {fo ro : Option Value} (m : Meth X.K C nm g) (sf : PySem.W.selfFirst X.K C = true) (h0 : PySem.W.findIn X.K (.ref C) nr = some none) (h1 : PySem.W.findIn X.K (.type "int") nm = some fo) (h2 : PySem.W.findIn X.K (.type "int") nr = some ro)
    (h3 : PySem.W.subIn X.K (.type "int") (.ref C) = some false) (F : FnOk X.prog X.w X.K X.mg X.base CX n g fd ps sp) (hr : Room n X.A) (hb : Binds X.K fd ps []) (hx : Passes CX X E)
    (hn : PySem.dunder op.info.2 = nm := by decide +kernel) (hq : PySem.dunderR op.info.2 = nr := by decide +kernel) : OpR X (binaryOp op) (rOwnI C sp E) := by
  intro pins s σ H x y v u Q I rx ry h
  obtain ⟨a, dx, fs, i, rfl, rfl, ha, q⟩ := h
  cases (show v = Value.ref a from rx)
  obtain ⟨t, e⟩ := (show ∃ t, u = Value.int i t from ry)
  cases e
  obtain ⟨ox, od, J⟩ := inst_of I ha
  obtain ⟨mm, hF⟩ := I.fr
  refine PySem.W.ksp_binT (op := op) (T := "int") hF I.ok.mod.kin J rfl sf (by rw [hn]; exact m.at_) m.fn (by rw [hq]; exact h0) (.inl rfl) (by rw [hn]; exact h1) (by rw [hq]; exact h2) h3 ?_
  refine wpAny_mono (run_fn (us := [.ref a, .int i t]) (vs := [.ref a, .int i]) F hr hb .nil hx I (.cons rfl (.cons ⟨t, rfl⟩ .nil)) q) (fun w s' z => ?_) fun _ _ x => x
  obtain ⟨z', H', I', rz, qz⟩ := z
  exact SlX.cmpback rz ⟨z', H', I', rz, qz⟩
/-- -x -/
def rOwn1 (C : Addr) (sp : Sp) (E : XK) : V → Hp → VK → Prop := fun x H Q => ∃ a dx fs, x = .ref a ∧ H a = some (.ins C dx fs) ∧ sp [x] H Q E
theorem un_own (m : Meth X.K C "__neg__" g) (F : FnOk X.prog X.w X.K X.mg X.base CX n g fd ps sp) (hr : Room n X.A) (hb : Binds X.K fd ps []) (hx : Passes CX X E) : UnR X (unaryOp .USub) (rOwn1 C sp E) := by
  intro pins s σ H x v Q I rx h
  obtain ⟨a, dx, fs, rfl, ha, q⟩ := h
  cases (show v = Value.ref a from rx)
  obtain ⟨ox, od, J⟩ := inst_of I ha
  obtain ⟨mm, hF⟩ := I.fr
  exact PySem.W.ksp_neg hF I.ok.mod.kin J m.at_ m.fn (run_fn (us := [.ref a]) (vs := [.ref a]) F hr hb .nil hx I (.cons rfl .nil) q)
/-- x == y, y anything whose class does not come first -/
def rOwnE (K : PySem.W.Frag) (C : Addr) (sp : Sp) (E : XK) : R2 := fun x y H Q => ∃ a dx fs tb, x = .ref a ∧ H a = some (.ins C dx fs) ∧ TyX K H y tb ∧ PySem.W.notFirst K C tb = true ∧ sp [x, y] H Q E
theorem op_eqO2 (m : Meth X.K C "__eq__" g) (F : FnOk X.prog X.w X.K X.mg X.base CX n g fd ps sp) (hr : Room n X.A) (hb : Binds X.K fd ps []) (hx : Passes CX X E) : OpR X (compareOp .Eq) (rOwn2 C sp E) := by
  intro pins s σ H x y v u Q I rx ry h
  obtain ⟨a, dx, fs, b, dy, gs, rfl, rfl, ha, hb', q⟩ := h
  cases (show v = Value.ref a from rx)
  cases (show u = Value.ref b from ry)
  obtain ⟨ox, od, J⟩ := inst_of I ha
  obtain ⟨oy, od', J'⟩ := inst_of I hb'
  obtain ⟨mm, hF⟩ := I.fr
  show wpAny _ _ (richCompare .Eq (.ref a) (.ref b)) _ _ s
  refine PySem.W.cmp_K (op := .Eq) (tb := .ref C) hr.units0 hF I.ok.mod.kin J J'.type (by simp [PySem.W.notFirst]) m.at_ m.fn ?_
  refine wpAny_mono (run_fn (us := [.ref a, .ref b]) (vs := [.ref a, .ref b]) F hr hb .nil hx I (.cons rfl (.cons rfl .nil)) q) (fun w s' z => ?_) fun _ _ x => x
  obtain ⟨z', H', I', rz, qz⟩ := z
  exact SlX.cmpback rz ⟨z', H', I', rz, qz⟩
/-- below a built-in: the callee runs -/
theorem run_in {A : Around} {pins : List (Addr × Obj)} {σ : L2.St} {H : Hp} {s : Shared} {Q : VK} {us : List Value} {ws : List V} (F : FnOk X.prog X.w X.K X.mg X.base CX n g fd ps sp) (hr : Room n A) (e0 : Env0 X.prog X.w X.K X.mg X.base A X.stack s H) (hb : Binds X.K fd ps []) (hx : Passes CX X E) (I : Inv X pins σ H s) (r : Vals ws us) (h : sp ws H Q E) :
    wpAny (model X.prog X.w) A (call (.ref g) us) (EP X pins σ Q) X.xe s := by
  have hl : (us ++ []).length = ps.length := by rw [List.append_nil, ← r.length]; exact F.len _ _ _ _ h
  have b0 := hb s us I.kIn hl
  rw [List.append_nil] at b0
  refine wpAny_call (codeAny_mono (F.run A X.stack s H ⟨us, []⟩ us ws Q E hr e0 b0 r h) fun r s' hq => ?_)
  cases r with
  | error e => exact hx pins σ H s e s' I hq
  | ok fl =>
    cases fl with
    | ret u => exact I.after hq
    | next => exact False.elim hq
    | brk => exact False.elim hq
    | cont => exact False.elim hq
end
section
variable {prog : Program} {w : World} {A : Around} {E : Value → Shared → Prop} {s : Shared} {K : PySem.W.Frag} {x y C f : Addr} {ox : Obj} {od : Option Obj}
theorem ifBound_objNe {M : Model} {args : List Value} {Q : Option Value → Shared → Prop} (X : K.In s.heap) (I : PySem.W.InstAt s.heap x ox C od) (hs : PySem.W.findIn K (.ref C) "__ne__" = some (some (.builtin "object.__ne__")))
    (h : wpAny M A (call (.builtin "object.__ne__") (.ref x :: args)) (fun v => Q (some v)) E s) : wpAny M A (callSpecialIfBound? (.ref x) "__ne__" args) Q E s := by
  simp only [callSpecialIfBound?, bindSpecialIfBound?]
  refine wpAny_holding (wpAny_bind (wpAny_bind (wpAny_bind (I.type.here ((PySem.W.looks_findIn X hs).here ?_)))))
  refine wpAny_bind (wpAny_askSetting (wpAny_ite ?_))
  have fin : wpAny M A (call (.builtin "object.__ne__") ([.ref x] ++ args) >>= fun v => pure (some v)) Q E s := wpAny_bind (wpAny_mono h (fun v s' h' => wpAny_pure h') fun _ _ h' => h')
  split
  · exact wpAny_bind (wpAny_of_eq (F.cmp_object.ne.bind _) (wpAny_pure (by exact fin)))
  · exact wpAny_tryCatch (wpAny_bind (wpAny_of_eq (F.cmp_object.ne.bind _) (wpAny_pure (by exact fin))))
theorem ne_entry {b : Value} {Q : Fin → Shared → Prop} (hu : A.units < cLine) (X : K.In s.heap) (I : PySem.W.InstAt s.heap x ox C od) (hs : PySem.W.findIn K (.ref C) "__eq__" = some (some (.ref f))) (hf : PySem.W.isFn K (.ref f) = true)
    (h : wpAny (model prog w) A (call (.ref f) [.ref x, b]) (fun r s' => ∃ k, r = .bool k ∧ Q (.done (.ret (.bool (!k)))) s') E s) : wpAny (model prog w) A (Builtin.«object.__ne__» ⟨[.ref x, b], []⟩) Q E s := by
  unfold Builtin.«object.__ne__»
  refine wpAny_bind (wpAny_of_eq (a := (Value.ref x, [b])) rfl ?_)
  refine wpAny_bind (wpAny_cRoomFor hu ?_)
  refine wpAny_bind (PySem.W.ifBound_K X I hs hf (wpAny_mono h (fun r s' hr => ?_) fun _ _ z => z))
  obtain ⟨k, rfl, q⟩ := hr
  exact wpAny_bind (wpAny_truthy_bool (wpAny_pure q))
theorem call_objNe {b : Value} {Q : Value → Shared → Prop} (hu : A.in1.units < cLine) (X : K.In s.heap) (I : PySem.W.InstAt s.heap x ox C od) (hm : PySem.W.mroIn K C (.type "object") = some true) (hs : PySem.W.findIn K (.ref C) "__eq__" = some (some (.ref f))) (hf : PySem.W.isFn K (.ref f) = true)
    (h : wpAny (model prog w) A.in1 (call (.ref f) [.ref x, b]) (fun r s' => ∃ k, r = .bool k ∧ Q (.bool (!k)) s') E s) : wpAny (model prog w) A (call (.builtin "object.__ne__") [.ref x, b]) Q E s :=
  wpAny_call (codeAny_call_builtin F.cmp_object.ne.plain F.cmpEntry_ne (PySem.W.check_slot F.cmpKind_ne F.cmpSplit_ne (I.type.andThen (PySem.W.looks_mroIn X hm)) (F.cmpArgs_ne _ _) (ne_entry hu X I hs hf h)))
theorem rc_ne {oy : Obj} {od' : Option Obj} {Q : Value → Shared → Prop} (hu : A.in1.units < cLine) (hu0 : A.units < cLine) (X : K.In s.heap) (I : PySem.W.InstAt s.heap x ox C od) (J : PySem.W.InstAt s.heap y oy C od') (hm : PySem.W.mroIn K C (.type "object") = some true)
    (hn : PySem.W.findIn K (.ref C) "__ne__" = some (some (.builtin "object.__ne__"))) (hs : PySem.W.findIn K (.ref C) "__eq__" = some (some (.ref f))) (hf : PySem.W.isFn K (.ref f) = true)
    (h : wpAny (model prog w) A.in1 (call (.ref f) [.ref x, .ref y]) (fun r s' => ∃ k, r = .bool k ∧ Q (.bool (!k)) s') E s) : wpAny (model prog w) A (richCompare .NotEq (.ref x) (.ref y)) Q E s := by
  have one : wpAny (model prog w) A (tryCompare (.ref x) "__ne__" (.ref y)) (fun r s' => ∃ v, r = some v ∧ Q v s') E s := by
    unfold tryCompare
    refine wpAny_bind (ifBound_objNe X I hn (call_objNe hu X I hm hs hf (wpAny_mono h (fun r s' hr => ?_) fun _ _ e => e)))
    obtain ⟨k, rfl, q⟩ := hr
    exact ⟨k, rfl, wpAny_pure ⟨_, rfl, q⟩⟩
  unfold richCompare
  simp only [oneThing_ref]
  refine wpAny_holding (wpAny_bind (wpAny_cRoomFor hu0 ?_))
  refine wpAny_bind (I.type.here (wpAny_bind (J.type.here ?_)))
  simp only [bne_self_eq_false, Bool.false_eq_true, if_false]
  refine wpAny_bind (wpAny_pure ?_)
  simp only [Bool.false_eq_true, if_false]
  refine wpAny_bind (wpAny_mono one (fun r s' z => ?_) fun _ _ e => e)
  obtain ⟨v, rfl, hq⟩ := z
  exact wpAny_pure hq
theorem bool_own {Q : Value → Shared → Prop} (X : K.In s.heap) (I : PySem.W.InstAt s.heap x ox C od) (hs : PySem.W.findIn K (.ref C) "__bool__" = some (some (.ref f))) (hf : PySem.W.isFn K (.ref f) = true)
    (h : wpAny (model prog w) A.in1.in1 (call (.ref f) [.ref x]) (fun r s₁ => ∃ k, r = Value.bool k ∧ Q r s₁) E s) : wpAny (model prog w) A (call (.type "bool") [.ref x]) Q E s := by
  refine callType_codes (T := "bool") (Bi := Builtin.«object.__init__») (Q₁ := fun r s₁ => ∃ k, r = Value.bool k ∧ Q r s₁) PySem.F.called_bool (PySem.F.typeCall_bool_1 _) PySem.F.entry_object_init ?_ ?_
  · refine codeAny_of_tree ?_
    show wpAny _ A.in1.in1 (do checkBuiltinCall "bool.__new__" ⟨[.type "bool", .ref x], []⟩; again (.builtin "bool.__new__" ⟨[.type "bool", .ref x], []⟩)) _ _ s
    refine wpAny_bind (wpAny_of_eq (PySem.F.newCall_bool_1 _) (wpAny_pure ⟨plainId_quiet (by decide +kernel) _, codeAny_builtin PySem.F.entry_bool_new ?_⟩))
    rw [Around.under_plainId (by decide +kernel) _]
    have tr : wpAny (model prog w) A.in1.in1 (truthy (.ref x)) (fun k s₁ => Q (.bool k) s₁) E s := by
      unfold truthy
      refine wpAny_bind (m := callSpecial? (.ref x) (Str.ofString "__bool__")) (PySem.W.special_fn X I hs (beq_iff_eq.mp hf) (wpAny_mono h (fun r s' hr => ?_) fun _ _ y => y))
      obtain ⟨k, rfl, q⟩ := hr
      exact wpAny_pure q
    obtain ⟨hp, g, d, tk, os⟩ := s
    have f1 := F.conv_sub_bool
    repeat (any_goals (first | assumption | (with_reducible refine wpAny_mono tr (fun k s₁ q => ?_) fun _ _ z => z) | wp_step))
    all_goals first | exact ⟨_, rfl, q⟩ | skip
  · rintro obj s₁ ⟨k, rfl, hq⟩
    exact ⟨rfl, PySem.F.args_object_init_2 _ _, object_init_meets PySem.F.called_bool.init.lookup PySem.F.called_bool.made (by decide) prog w A.in1 _ s₁ ⟨rfl, rfl, hq⟩⟩
end
section
variable {X : Cx} {CX : CXT} {n : Nat} {C g : Addr} {fd : FuncData} {ps : List Str} {sp : Sp} {E : XK}
/-- x != y by the own == -/
def rOwnN (C : Addr) (sp : Sp) (E : XK) : R2 := fun x y H Q => ∃ a dx fs b dy gs, x = .ref a ∧ y = .ref b ∧ H a = some (.ins C dx fs) ∧ H b = some (.ins C dy gs) ∧ sp [x, y] H (fun z H' => ∃ k, z = .bl k ∧ Q (.bl (!k)) H') E
theorem op_neO2 (m : Meth X.K C "__eq__" g) (hm : PySem.W.mroIn X.K C (.type "object") = some true) (hn : PySem.W.findIn X.K (.ref C) "__ne__" = some (some (.builtin "object.__ne__"))) (F : FnOk X.prog X.w X.K X.mg X.base CX n g fd ps sp) (hr : Room (n + 1) X.A) (hb : Binds X.K fd ps []) (hx : Passes CX X E) :
    OpR X (compareOp .NotEq) (rOwnN C sp E) := by
  intro pins s σ H x y v u Q I rx ry h
  obtain ⟨a, dx, fs, b, dy, gs, rfl, rfl, ha, hb', q⟩ := h
  cases (show v = Value.ref a from rx)
  cases (show u = Value.ref b from ry)
  obtain ⟨ox, od, J⟩ := inst_of I ha
  obtain ⟨oy, od', J'⟩ := inst_of I hb'
  have hr1 : Room n X.A.in1 := Room.in1 hr
  show wpAny _ _ (richCompare .NotEq (.ref a) (.ref b)) _ _ s
  refine rc_ne hr1.units0 hr.units0 I.kIn J J' hm hn m.at_ m.fn ?_
  refine wpAny_mono (run_in (us := [.ref a, .ref b]) (ws := [.ref a, .ref b]) F hr1 I.env0.in1 hb hx I (.cons rfl (.cons rfl .nil)) q) (fun w s' z => ?_) fun _ _ x => x
  obtain ⟨z', H', I', rz, k, rfl, qz⟩ := z
  cases (show w = Value.bool k from rz)
  exact ⟨k, rfl, .bl (!k), H', I', rfl, qz⟩
/-- bool(x) -/
def rBoolO (C : Addr) (sp : Sp) (E : XK) : List V → Hp → VK → Prop := fun xs H Q => ∃ a dx fs, xs = [V.ref a] ∧ H a = some (.ins C dx fs) ∧ sp [.ref a] H (fun z H' => ∃ k, z = .bl k ∧ Q (.bl k) H') E
theorem call_boolO (m : Meth X.K C "__bool__" g) (F : FnOk X.prog X.w X.K X.mg X.base CX n g fd ps sp) (hr : Room (n + 2) X.A) (hb : Binds X.K fd ps []) (hx : Passes CX X E) : CallR X (.type "bool") (rBoolO C sp E) := by
  intro pins s σ H xs us Q I r h
  obtain ⟨a, dx, fs, rfl, ha, q⟩ := h
  obtain ⟨u, rfl, ru⟩ := r.one
  cases (show u = Value.ref a from ru)
  obtain ⟨ox, od, J⟩ := inst_of I ha
  have hr2 : Room n X.A.in1.in1 := (show Room (n + 1) X.A.in1 from Room.in1 hr).in1
  refine bool_own I.kIn J m.at_ m.fn (wpAny_mono (run_in (us := [.ref a]) (ws := [.ref a]) F hr2 I.env0.in1.in1 hb hx I (.cons rfl .nil) q) (fun w s' z => ?_) fun _ _ x => x)
  obtain ⟨z', H', I', rz, k, rfl, qz⟩ := z
  cases (show w = Value.bool k from rz)
  exact ⟨k, rfl, .bl k, H', I', rfl, qz⟩
/-- any(xs) of whole numbers -/
def rAnyI (K : PySem.W.Frag) : List V → Hp → VK → Prop := fun vs H Q => ∃ (a : Addr) (ns : List Int), vs = [V.ref a] ∧ SqL K H a (ns.map V.int) ∧ Q (.bl (ns.any fun i => i != 0)) H
theorem vals_ints : ∀ {ns : List Int} {us : List Value}, Vals (ns.map V.int) us → ∀ (i : Nat) (v : Value), us[i]? = some v → ∃ z t, ns[i]? = some z ∧ v = .int z t
  | [], us, h, i, v, hv => by
    rw [List.map_nil] at h
    cases h
    simp at hv
  | z :: ns, us, h, i, v, hv => by
    rw [List.map_cons] at h
    cases h with
    | cons r t =>
      obtain ⟨t', e⟩ := (show ∃ t, _ = Value.int z t from r)
      match i, hv with
      | 0, hv =>
        cases hv
        exact ⟨z, t', rfl, e⟩
      | i + 1, hv => exact vals_ints t i v (by simpa using hv)
theorem any_rangeI : ∀ ns : List Int, (List.range ns.length).any (fun i => ns.getD i 0 != 0) = ns.any fun i => i != 0
  | [] => rfl
  | b :: bs => by
    rw [List.length_cons, List.range_succ_eq_map, List.any_cons, List.any_map, List.any_cons, ← any_rangeI bs]
    all_goals rfl
theorem cr_anyI (hc : X.calm = true) : CallR X (.builtin "any") (rAnyI X.K) := by
  intro pins s σ H vs us Q I r h
  obtain ⟨a, ns, rfl, hs, q⟩ := h
  obtain ⟨its, rv, hl, _⟩ := I.list hs
  rw [Vals.ref1 r]
  refine call_any_walk (iter_any hl.isList fun s₂ e2 st hne => ?_)
  subst e2
  have tr : TruthOf X.prog X.w X.A.in1 (fun i v => its.toArray[i]? = some v) (fun i => ns.getD i 0 != 0) := fun i v s Q E hv hq => by
    obtain ⟨z, t, hz, rfl⟩ := vals_ints rv i v (by simpa using hv)
    have hg : ns.getD i 0 = z := by rw [List.getD_eq_getElem?_getD, hz] <;> rfl
    have hq' : Q (ns.getD i 0 != 0) s := hq
    rw [hg] at hq'
    exact P.truthy_int hq'
  refine ⟨_, _, _, _, _, _, _, rfl, Walks.list (A := X.A.in1) (I.ok.hd hc) _ a hne its.toArray, st, tr, fun h' tk hk => ?_⟩
  refine ⟨.bl _, H, I.kept fun b o eo => hk b o (fun hmem => ?_) (Heap.get?_push_of_some _ eo), ?_, q⟩
  · rcases List.mem_cons.mp hmem with e1 | hmem
    · exact absurd (e1 ▸ Heap.lt_size eo) (Nat.lt_irrefl _)
    · cases hmem
  · show Value.bool _ = Value.bool _
    have hlen := rv.length
    rw [List.length_map] at hlen
    rw [← any_rangeI, List.size_toArray, ← hlen]
end
/-! ### a default that is an empty tuple -/
inductive Dfl0 (K : PySem.W.Frag) (r : Addr) : Prop
  | mk {d : Option Addr} {m : Nat} {s : Array (Option Value)} (a : K.lookup r = some ⟨.type "tuple", d, .seq #[] m, s⟩) : Dfl0 K r
theorem Dfl0.sq {K : PySem.W.Frag} {H : Hp} {r : Addr} (h : Dfl0 K r) : SqT K H r [] := by
  obtain ⟨a⟩ := h
  exact .inr ⟨_, _, _, a, rfl, rfl, Nat.zero_le _, .nil⟩
def topS (i : Nat) : Stmt := PySem.Challenge.pw_grainyard_k16_sums_of_heaps.main.body.getD i (.Pass ⟨0, 0, 0, 0⟩)
abbrev s_whole_root : Stmt := topS 14
theorem sc_whole_root : FnScope ["number", "guess"] ["number"] (defScope s_whole_root) := ⟨rfl, rfl, rfl, by decide +kernel, rfl, by decide +kernel, by decide +kernel⟩
abbrev s_is_root : Stmt := topS 15
theorem sc_is_root : FnScope ["number", "whole"] ["number"] (defScope s_is_root) := ⟨rfl, rfl, rfl, by decide +kernel, rfl, by decide +kernel, by decide +kernel⟩
abbrev s_check_root : Stmt := topS 16
theorem sc_check_root : FnScope ["root"] ["root"] (defScope s_check_root) := ⟨rfl, rfl, rfl, by decide +kernel, rfl, by decide +kernel, by decide +kernel⟩
abbrev s_sign : Stmt := topS 17
theorem sc_sign : FnScope ["pair", "root", "worth", "a", "b"] ["pair", "root"] (defScope s_sign) := ⟨rfl, rfl, rfl, by decide +kernel, rfl, by decide +kernel, by decide +kernel⟩
abbrev s_is_length : Stmt := topS 18
theorem sc_is_length : FnScope ["pair", "root"] ["pair", "root"] (defScope s_is_length) := ⟨rfl, rfl, rfl, by decide +kernel, rfl, by decide +kernel, by decide +kernel⟩
abbrev s_is_sheet : Stmt := topS 20
theorem sc_is_sheet : FnScope ["sheet", "root", "across", "along"] ["sheet", "root"] (defScope s_is_sheet) := ⟨rfl, rfl, rfl, by decide +kernel, rfl, by decide +kernel, by decide +kernel⟩
abbrev s_check_rows : Stmt := topS 21
theorem sc_check_rows : FnScope ["rows", "root", "at", "sheet", "count"] ["rows", "root"] (defScope s_check_rows) := ⟨rfl, rfl, rfl, by decide +kernel, rfl, by decide +kernel, by decide +kernel⟩
abbrev s_merged : Stmt := topS 22
theorem sc_merged : FnScope ["rows", "counts", "sheet", "count"] ["rows"] (defScope s_merged) := ⟨rfl, rfl, rfl, by decide +kernel, rfl, by decide +kernel, by decide +kernel⟩
abbrev s_check_same_root : Stmt := topS 23
theorem sc_check_same_root : FnScope ["one", "other"] ["one", "other"] (defScope s_check_same_root) := ⟨rfl, rfl, rfl, by decide +kernel, rfl, by decide +kernel, by decide +kernel⟩
abbrev s_Heap_init : Stmt := inClass (topS 24) 1
theorem sc_Heap_init : FnScope ["self", "root", "rows"] ["self", "root", "rows"] (defScope s_Heap_init) := ⟨rfl, rfl, rfl, by decide +kernel, rfl, by decide +kernel, by decide +kernel⟩
abbrev s_Heap_root : Stmt := inClass (topS 24) 3
theorem sc_Heap_root : FnScope ["self"] ["self"] (defScope s_Heap_root) := ⟨rfl, rfl, rfl, by decide +kernel, rfl, by decide +kernel, by decide +kernel⟩
abbrev s_Heap_rows : Stmt := inClass (topS 24) 6
theorem sc_Heap_rows : FnScope ["self"] ["self"] (defScope s_Heap_rows) := ⟨rfl, rfl, rfl, by decide +kernel, rfl, by decide +kernel, by decide +kernel⟩
abbrev s_Heap_count : Stmt := inClass (topS 24) 7
theorem sc_Heap_count : FnScope ["self", "sheet"] ["self", "sheet"] (defScope s_Heap_count) := ⟨rfl, rfl, rfl, by decide +kernel, rfl, by decide +kernel, by decide +kernel⟩
abbrev s_Heap_add : Stmt := inClass (topS 24) 9
theorem sc_Heap_add : FnScope ["self", "other"] ["self", "other"] (defScope s_Heap_add) := ⟨rfl, rfl, rfl, by decide +kernel, rfl, by decide +kernel, by decide +kernel⟩
abbrev s_Heap_sub : Stmt := inClass (topS 24) 10
theorem sc_Heap_sub : FnScope ["self", "other", "left", "sheet", "count"] ["self", "other"] (defScope s_Heap_sub) := ⟨rfl, rfl, rfl, by decide +kernel, rfl, by decide +kernel, by decide +kernel⟩
abbrev s_Heap_mul : Stmt := inClass (topS 24) 11
theorem sc_Heap_mul : FnScope ["self", "other", "sheet", "count"] ["self", "other"] (defScope s_Heap_mul) := ⟨rfl, rfl, rfl, by decide +kernel, rfl, by decide +kernel, by decide +kernel⟩
abbrev s_source : Stmt := topS 26
theorem sc_source : FnScope ["_law_script", "_law_mix", "_law_cell"] ["_law_script"] (defScope s_source) := ⟨rfl, rfl, rfl, by decide +kernel, rfl, by decide +kernel, by decide +kernel⟩
abbrev s_pull : Stmt := topS 27
theorem sc_pull : FnScope ["_law_bag", "_law_size", "_law_mix", "_law_cell", "_law_found"] ["_law_bag", "_law_size"] (defScope s_pull) := ⟨rfl, rfl, rfl, by decide +kernel, rfl, by decide +kernel, by decide +kernel⟩
abbrev s_of : Stmt := topS 28
theorem sc_of : FnScope ["_law_bag", "_law_some"] ["_law_bag", "_law_some"] (defScope s_of) := ⟨rfl, rfl, rfl, by decide +kernel, rfl, by decide +kernel, by decide +kernel⟩
abbrev s_roots : Stmt := topS 29
theorem sc_roots : FnScope ["_law_d"] [] (defScope s_roots) := ⟨rfl, rfl, rfl, by decide +kernel, rfl, by decide +kernel, by decide +kernel⟩
abbrev s_a_root : Stmt := topS 30
theorem sc_a_root : FnScope ["_law_bag"] ["_law_bag"] (defScope s_a_root) := ⟨rfl, rfl, rfl, by decide +kernel, rfl, by decide +kernel, by decide +kernel⟩
abbrev s_any_pair : Stmt := topS 31
theorem sc_any_pair : FnScope ["_law_bag", "_law_size"] ["_law_bag"] (defScope s_any_pair) := ⟨rfl, rfl, rfl, by decide +kernel, rfl, by decide +kernel, by decide +kernel⟩
abbrev s_lsign : Stmt := topS 32
theorem sc_lsign : FnScope ["_law_pair", "_law_root", "_law_value"] ["_law_pair", "_law_root"] (defScope s_lsign) := ⟨rfl, rfl, rfl, by decide +kernel, rfl, by decide +kernel, by decide +kernel⟩
abbrev s_a_length : Stmt := topS 33
theorem sc_a_length : FnScope ["_law_bag", "_law_root", "_law_pair"] ["_law_bag", "_law_root"] (defScope s_a_length) := ⟨rfl, rfl, rfl, by decide +kernel, rfl, by decide +kernel, by decide +kernel⟩
abbrev s_a_sheet : Stmt := topS 34
theorem sc_a_sheet : FnScope ["_law_bag", "_law_root", "_law_one"] ["_law_bag", "_law_root"] (defScope s_a_sheet) := ⟨rfl, rfl, rfl, by decide +kernel, rfl, by decide +kernel, by decide +kernel⟩
abbrev s_some_count : Stmt := topS 35
theorem sc_some_count : FnScope ["_law_bag"] ["_law_bag"] (defScope s_some_count) := ⟨rfl, rfl, rfl, by decide +kernel, rfl, by decide +kernel, by decide +kernel⟩
abbrev s_some_rows : Stmt := topS 36
theorem sc_some_rows : FnScope ["_law_bag", "_law_root", "_law_most", "_law_found", "_law_k", "_law_sheet"] ["_law_bag", "_law_root", "_law_most"] (defScope s_some_rows) := ⟨rfl, rfl, rfl, by decide +kernel, rfl, by decide +kernel, by decide +kernel⟩
abbrev s_stock_of : Stmt := topS 37
theorem sc_stock_of : FnScope ["_law_rows", "_law_found", "_law_sheet", "_law_count"] ["_law_rows"] (defScope s_stock_of) := ⟨rfl, rfl, rfl, by decide +kernel, rfl, by decide +kernel, by decide +kernel⟩
abbrev s_mixed : Stmt := topS 38
theorem sc_mixed : FnScope ["_law_bag", "_law_some", "_law_k", "_law_left", "_law_found"] ["_law_bag", "_law_some"] (defScope s_mixed) := ⟨rfl, rfl, rfl, by decide +kernel, rfl, by decide +kernel, by decide +kernel⟩
abbrev s_listed : Stmt := topS 39
theorem sc_listed : FnScope ["_law_stock", "_law_sheet"] ["_law_stock"] (defScope s_listed) := ⟨rfl, rfl, rfl, by decide +kernel, rfl, by decide +kernel, by decide +kernel⟩
abbrev s_heap_of : Stmt := topS 40
theorem sc_heap_of : FnScope ["_law_root", "_law_stock"] ["_law_root", "_law_stock"] (defScope s_heap_of) := ⟨rfl, rfl, rfl, by decide +kernel, rfl, by decide +kernel, by decide +kernel⟩
abbrev s_like : Stmt := topS 41
theorem sc_like : FnScope ["_law_found", "_law_due", "_law_k"] ["_law_found", "_law_due"] (defScope s_like) := ⟨rfl, rfl, rfl, by decide +kernel, rfl, by decide +kernel, by decide +kernel⟩
abbrev s_is_heap : Stmt := topS 42
theorem sc_is_heap : FnScope ["_law_heap", "_law_root", "_law_stock"] ["_law_heap", "_law_root", "_law_stock"] (defScope s_is_heap) := ⟨rfl, rfl, rfl, by decide +kernel, rfl, by decide +kernel, by decide +kernel⟩
abbrev s_field_of : Stmt := topS 43
theorem sc_field_of : FnScope ["_law_e"] ["_law_e"] (defScope s_field_of) := ⟨rfl, rfl, rfl, by decide +kernel, rfl, by decide +kernel, by decide +kernel⟩
abbrev s_try : Stmt := topS 44
theorem sc_try : FnScope ["_law_ask", "_law_e"] ["_law_ask"] (defScope s_try) := ⟨rfl, rfl, rfl, by decide +kernel, rfl, by decide +kernel, by decide +kernel⟩
abbrev s_without : Stmt := topS 45
theorem sc_without : FnScope ["_law_one", "_law_two", "_law_found", "_law_sheet"] ["_law_one", "_law_two"] (defScope s_without) := ⟨rfl, rfl, rfl, by decide +kernel, rfl, by decide +kernel, by decide +kernel⟩
abbrev s_law : Stmt := topS 46
theorem sc_law : FnScope ["_law_script", "_law_bag", "_law_turn", "_law_root", "_law_rows", "_law_lack", "_law_found", "_law_size", "_law_due", "_law_other", "_law_blank", "_law_asks", "_law_bad", "_law_one", "_law_two", "_law_x", "_law_y", "_law_sheet", "_law_ask", "_law_d"] ["_law_script"] (defScope s_law) := ⟨rfl, rfl, rfl, by decide +kernel, rfl, by decide +kernel, by decide +kernel⟩
abbrev i_BadRoot : Stmt := inClass (topS 4) 0
theorem sc_iBadRoot : NScope ["self", "number", "__class__"] ["self", "number"] ["__class__"] (defScope i_BadRoot) := nscope_by (by decide +kernel)
abbrev i_BadCount : Stmt := inClass (topS 5) 0
theorem sc_iBadCount : NScope ["self", "number", "__class__"] ["self", "number"] ["__class__"] (defScope i_BadCount) := nscope_by (by decide +kernel)
abbrev i_BadRow : Stmt := inClass (topS 6) 0
theorem sc_iBadRow : NScope ["self", "at", "__class__"] ["self", "at"] ["__class__"] (defScope i_BadRow) := nscope_by (by decide +kernel)
abbrev i_OtherRoot : Stmt := inClass (topS 7) 0
theorem sc_iOtherRoot : NScope ["self", "__class__"] ["self"] ["__class__"] (defScope i_OtherRoot) := nscope_by (by decide +kernel)
abbrev i_NoSheet : Stmt := inClass (topS 8) 0
theorem sc_iNoSheet : NScope ["self", "sheet", "__class__"] ["self", "sheet"] ["__class__"] (defScope i_NoSheet) := nscope_by (by decide +kernel)
abbrev i_NothingLeft : Stmt := inClass (topS 9) 0
theorem sc_iNothingLeft : NScope ["self", "__class__"] ["self"] ["__class__"] (defScope i_NothingLeft) := nscope_by (by decide +kernel)
/-! ### lists of a known length -/
section
variable {α : Type} {us : List α}
theorem len0 (h : us.length = 0) : us = [] := by cases us with | nil => rfl | cons a r => cases h
theorem lenS {n : Nat} (h : us.length = n + 1) : ∃ a r, us = a :: r ∧ r.length = n := by cases us with | nil => cases h | cons a r => exact ⟨a, r, rfl, Nat.succ.inj h⟩
theorem len1 (h : us.length = 1) : ∃ a, us = [a] := by
  obtain ⟨a, r, rfl, g⟩ := lenS h
  cases len0 g
  exact ⟨_, rfl⟩
theorem len2 (h : us.length = 2) : ∃ a b, us = [a, b] := by
  obtain ⟨a, r, rfl, g⟩ := lenS h
  obtain ⟨b, rfl⟩ := len1 g
  exact ⟨_, _, rfl⟩
theorem len3 (h : us.length = 3) : ∃ a b c, us = [a, b, c] := by
  obtain ⟨a, r, rfl, g⟩ := lenS h
  obtain ⟨b, c, rfl⟩ := len2 g
  exact ⟨_, _, _, rfl⟩
theorem len4 (h : us.length = 4) : ∃ a b c d, us = [a, b, c, d] := by
  obtain ⟨a, r, rfl, g⟩ := lenS h
  obtain ⟨b, c, d, rfl⟩ := len3 g
  exact ⟨_, _, _, _, rfl⟩
end
set_option genInjectivity false in
set_option genSizeOf false in
structure Txt (K : PySem.W.Frag) (mg : Str → Option Value) where
  f_whole_root : Addr
  d_whole_root : FuncData
  F_whole_root : Fun K "whole_root" "whole_root" s_whole_root f_whole_root d_whole_root
  g_whole_root : mg "whole_root" = some (.ref f_whole_root)
  b_whole_root : Binds K d_whole_root ["number"] []
  f_is_root : Addr
  d_is_root : FuncData
  F_is_root : Fun K "is_root" "is_root" s_is_root f_is_root d_is_root
  g_is_root : mg "is_root" = some (.ref f_is_root)
  b_is_root : Binds K d_is_root ["number"] []
  f_check_root : Addr
  d_check_root : FuncData
  F_check_root : Fun K "check_root" "check_root" s_check_root f_check_root d_check_root
  g_check_root : mg "check_root" = some (.ref f_check_root)
  b_check_root : Binds K d_check_root ["root"] []
  f_sign : Addr
  d_sign : FuncData
  F_sign : Fun K "sign" "sign" s_sign f_sign d_sign
  g_sign : mg "sign" = some (.ref f_sign)
  b_sign : Binds K d_sign ["pair", "root"] []
  f_is_length : Addr
  d_is_length : FuncData
  F_is_length : Fun K "is_length" "is_length" s_is_length f_is_length d_is_length
  g_is_length : mg "is_length" = some (.ref f_is_length)
  b_is_length : Binds K d_is_length ["pair", "root"] []
  f_is_sheet : Addr
  d_is_sheet : FuncData
  F_is_sheet : Fun K "is_sheet" "is_sheet" s_is_sheet f_is_sheet d_is_sheet
  g_is_sheet : mg "is_sheet" = some (.ref f_is_sheet)
  b_is_sheet : Binds K d_is_sheet ["sheet", "root"] []
  f_check_rows : Addr
  d_check_rows : FuncData
  F_check_rows : Fun K "check_rows" "check_rows" s_check_rows f_check_rows d_check_rows
  g_check_rows : mg "check_rows" = some (.ref f_check_rows)
  b_check_rows : Binds K d_check_rows ["rows", "root"] []
  f_merged : Addr
  d_merged : FuncData
  F_merged : Fun K "merged" "merged" s_merged f_merged d_merged
  g_merged : mg "merged" = some (.ref f_merged)
  b_merged : Binds K d_merged ["rows"] []
  f_check_same_root : Addr
  d_check_same_root : FuncData
  F_check_same_root : Fun K "check_same_root" "check_same_root" s_check_same_root f_check_same_root d_check_same_root
  g_check_same_root : mg "check_same_root" = some (.ref f_check_same_root)
  b_check_same_root : Binds K d_check_same_root ["one", "other"] []
  C_Heap : Addr
  cl_Heap : Cls K C_Heap
  g_Heap : mg "Heap" = some (.ref C_Heap)
  sf_Heap : PySem.W.selfFirst K C_Heap = true
  nq_Heap : PySem.W.noSeq K C_Heap = true
  n_Heap_held_root : NoAttr K C_Heap "held_root"
  n_Heap_copies : NoAttr K C_Heap "copies"
  mo_Heap : PySem.W.mroIn K C_Heap (.type "object") = some true
  ne_Heap : PySem.W.findIn K (.ref C_Heap) "__ne__" = some (some (.builtin "object.__ne__"))
  ca_Heap : PySem.W.findIn K (.ref C_Heap) "__class__" = some (some (.builtin "object.__class__"))
  x_Heap_rmul : PySem.W.findIn K (.ref C_Heap) "__rmul__" = some none
  i_mul : PySem.W.findIn K (.type "int") "__mul__" = some (some (.builtin "int.__mul__"))
  i_rmul : PySem.W.findIn K (.type "int") "__rmul__" = some (some (.builtin "int.__rmul__"))
  is_Heap : PySem.W.subIn K (.type "int") (.ref C_Heap) = some false
  f_Heap_init : Addr
  d_Heap_init : FuncData
  r0_Heap_init : Addr
  F_Heap_init : FunD K "__init__" "Heap.__init__" (defArgs s_Heap_init) (defBody s_Heap_init) (defScope s_Heap_init) [.ref r0_Heap_init] [] f_Heap_init d_Heap_init
  b_Heap_init : Binds K d_Heap_init ["self", "root", "rows"] []
  b0_Heap_init : Binds K d_Heap_init ["self", "root", "rows"] [.ref r0_Heap_init]
  v0_Heap_init : Vals [.ref r0_Heap_init] [.ref r0_Heap_init]
  z0_Heap_init : Dfl0 K r0_Heap_init
  M_Heap : Mk K C_Heap f_Heap_init
  f_Heap_root : Addr
  d_Heap_root : FuncData
  F_Heap_root : Fun K "root" "Heap.root" s_Heap_root f_Heap_root d_Heap_root
  b_Heap_root : Binds K d_Heap_root ["self"] []
  p_Heap_root : Addr
  pr_Heap_root : PropOf K C_Heap "root" p_Heap_root f_Heap_root
  f_Heap_rows : Addr
  d_Heap_rows : FuncData
  F_Heap_rows : Fun K "rows" "Heap.rows" s_Heap_rows f_Heap_rows d_Heap_rows
  b_Heap_rows : Binds K d_Heap_rows ["self"] []
  m_Heap_rows : Meth K C_Heap "rows" f_Heap_rows
  f_Heap_count : Addr
  d_Heap_count : FuncData
  F_Heap_count : Fun K "count" "Heap.count" s_Heap_count f_Heap_count d_Heap_count
  b_Heap_count : Binds K d_Heap_count ["self", "sheet"] []
  m_Heap_count : Meth K C_Heap "count" f_Heap_count
  f_Heap_add : Addr
  d_Heap_add : FuncData
  F_Heap_add : Fun K "__add__" "Heap.__add__" s_Heap_add f_Heap_add d_Heap_add
  b_Heap_add : Binds K d_Heap_add ["self", "other"] []
  m_Heap_add : Meth K C_Heap "__add__" f_Heap_add
  f_Heap_sub : Addr
  d_Heap_sub : FuncData
  F_Heap_sub : Fun K "__sub__" "Heap.__sub__" s_Heap_sub f_Heap_sub d_Heap_sub
  b_Heap_sub : Binds K d_Heap_sub ["self", "other"] []
  m_Heap_sub : Meth K C_Heap "__sub__" f_Heap_sub
  f_Heap_mul : Addr
  d_Heap_mul : FuncData
  F_Heap_mul : Fun K "__mul__" "Heap.__mul__" s_Heap_mul f_Heap_mul d_Heap_mul
  b_Heap_mul : Binds K d_Heap_mul ["self", "other"] []
  m_Heap_mul : Meth K C_Heap "__mul__" f_Heap_mul
  f_source : Addr
  d_source : FuncData
  F_source : Fun K "_law_source" "_law_source" s_source f_source d_source
  g_source : mg "_law_source" = some (.ref f_source)
  b_source : Binds K d_source ["_law_script"] []
  f_pull : Addr
  d_pull : FuncData
  F_pull : Fun K "_law_pull" "_law_pull" s_pull f_pull d_pull
  g_pull : mg "_law_pull" = some (.ref f_pull)
  b_pull : Binds K d_pull ["_law_bag", "_law_size"] []
  f_of : Addr
  d_of : FuncData
  F_of : Fun K "_law_of" "_law_of" s_of f_of d_of
  g_of : mg "_law_of" = some (.ref f_of)
  b_of : Binds K d_of ["_law_bag", "_law_some"] []
  f_roots : Addr
  d_roots : FuncData
  F_roots : Fun K "_law_roots" "_law_roots" s_roots f_roots d_roots
  g_roots : mg "_law_roots" = some (.ref f_roots)
  b_roots : Binds K d_roots [] []
  f_a_root : Addr
  d_a_root : FuncData
  F_a_root : Fun K "_law_a_root" "_law_a_root" s_a_root f_a_root d_a_root
  g_a_root : mg "_law_a_root" = some (.ref f_a_root)
  b_a_root : Binds K d_a_root ["_law_bag"] []
  f_any_pair : Addr
  d_any_pair : FuncData
  F_any_pair : Fun K "_law_any_pair" "_law_any_pair" s_any_pair f_any_pair d_any_pair
  g_any_pair : mg "_law_any_pair" = some (.ref f_any_pair)
  b_any_pair : Binds K d_any_pair ["_law_bag"] []
  f_lsign : Addr
  d_lsign : FuncData
  F_lsign : Fun K "_law_sign" "_law_sign" s_lsign f_lsign d_lsign
  g_lsign : mg "_law_sign" = some (.ref f_lsign)
  b_lsign : Binds K d_lsign ["_law_pair", "_law_root"] []
  f_a_length : Addr
  d_a_length : FuncData
  F_a_length : Fun K "_law_a_length" "_law_a_length" s_a_length f_a_length d_a_length
  g_a_length : mg "_law_a_length" = some (.ref f_a_length)
  b_a_length : Binds K d_a_length ["_law_bag", "_law_root"] []
  f_a_sheet : Addr
  d_a_sheet : FuncData
  F_a_sheet : Fun K "_law_a_sheet" "_law_a_sheet" s_a_sheet f_a_sheet d_a_sheet
  g_a_sheet : mg "_law_a_sheet" = some (.ref f_a_sheet)
  b_a_sheet : Binds K d_a_sheet ["_law_bag", "_law_root"] []
  f_some_count : Addr
  d_some_count : FuncData
  F_some_count : Fun K "_law_some_count" "_law_some_count" s_some_count f_some_count d_some_count
  g_some_count : mg "_law_some_count" = some (.ref f_some_count)
  b_some_count : Binds K d_some_count ["_law_bag"] []
  f_some_rows : Addr
  d_some_rows : FuncData
  F_some_rows : Fun K "_law_some_rows" "_law_some_rows" s_some_rows f_some_rows d_some_rows
  g_some_rows : mg "_law_some_rows" = some (.ref f_some_rows)
  b_some_rows : Binds K d_some_rows ["_law_bag", "_law_root", "_law_most"] []
  f_stock_of : Addr
  d_stock_of : FuncData
  F_stock_of : Fun K "_law_stock_of" "_law_stock_of" s_stock_of f_stock_of d_stock_of
  g_stock_of : mg "_law_stock_of" = some (.ref f_stock_of)
  b_stock_of : Binds K d_stock_of ["_law_rows"] []
  f_mixed : Addr
  d_mixed : FuncData
  F_mixed : Fun K "_law_mixed" "_law_mixed" s_mixed f_mixed d_mixed
  g_mixed : mg "_law_mixed" = some (.ref f_mixed)
  b_mixed : Binds K d_mixed ["_law_bag", "_law_some"] []
  f_listed : Addr
  d_listed : FuncData
  F_listed : Fun K "_law_listed" "_law_listed" s_listed f_listed d_listed
  g_listed : mg "_law_listed" = some (.ref f_listed)
  b_listed : Binds K d_listed ["_law_stock"] []
  f_heap_of : Addr
  d_heap_of : FuncData
  F_heap_of : Fun K "_law_heap_of" "_law_heap_of" s_heap_of f_heap_of d_heap_of
  g_heap_of : mg "_law_heap_of" = some (.ref f_heap_of)
  b_heap_of : Binds K d_heap_of ["_law_root", "_law_stock"] []
  f_like : Addr
  d_like : FuncData
  F_like : Fun K "_law_like" "_law_like" s_like f_like d_like
  g_like : mg "_law_like" = some (.ref f_like)
  b_like : Binds K d_like ["_law_found", "_law_due"] []
  f_is_heap : Addr
  d_is_heap : FuncData
  F_is_heap : Fun K "_law_is_heap" "_law_is_heap" s_is_heap f_is_heap d_is_heap
  g_is_heap : mg "_law_is_heap" = some (.ref f_is_heap)
  b_is_heap : Binds K d_is_heap ["_law_heap", "_law_root", "_law_stock"] []
  f_field_of : Addr
  d_field_of : FuncData
  F_field_of : Fun K "_law_field_of" "_law_field_of" s_field_of f_field_of d_field_of
  g_field_of : mg "_law_field_of" = some (.ref f_field_of)
  b_field_of : Binds K d_field_of ["_law_e"] []
  f_try : Addr
  d_try : FuncData
  F_try : Fun K "_law_try" "_law_try" s_try f_try d_try
  g_try : mg "_law_try" = some (.ref f_try)
  b_try : Binds K d_try ["_law_ask"] []
  f_without : Addr
  d_without : FuncData
  F_without : Fun K "_law_without" "_law_without" s_without f_without d_without
  g_without : mg "_law_without" = some (.ref f_without)
  b_without : Binds K d_without ["_law_one", "_law_two"] []
  n_ValueError : mg "ValueError" = none
  n_LookupError : mg "LookupError" = none
  n_IndexError : mg "IndexError" = none
  n_enumerate : mg "enumerate" = none
  n_range : mg "range" = none
  n_isinstance : mg "isinstance" = none
  n_sorted : mg "sorted" = none
  n_str : mg "str" = none
  n_sum : mg "sum" = none
  n_list : mg "list" = none
  n_bool : mg "bool" = none
  n_len : mg "len" = none
  n_int : mg "int" = none
  n_tuple : mg "tuple" = none
  n_abs : mg "abs" = none
  n_all : mg "all" = none
  r_GrainError : Addr
  g_GrainError : mg "GrainError" = some (.ref r_GrainError)
  c_GrainError : ∃ cd : ClassData, PySem.W.clsIn K r_GrainError = some cd ∧ cd.name = "GrainError"
  t_GrainError : PySem.W.typeIn K (.ref r_GrainError) = some (.type "type")
  sb_GrainError : PySem.W.subIn K (.ref r_GrainError) (.type "BaseException") = some true
  r_GrainMissing : Addr
  g_GrainMissing : mg "GrainMissing" = some (.ref r_GrainMissing)
  c_GrainMissing : ∃ cd : ClassData, PySem.W.clsIn K r_GrainMissing = some cd ∧ cd.name = "GrainMissing"
  t_GrainMissing : PySem.W.typeIn K (.ref r_GrainMissing) = some (.type "type")
  sb_GrainMissing : PySem.W.subIn K (.ref r_GrainMissing) (.type "BaseException") = some true
  e_BadRoot : Er PySem.Challenge.pw_grainyard_k16_sums_of_heaps K mg "ValueError" "ValueError.__new__" "ValueError.__init__" [.type "ValueError", .type "Exception", .type "BaseException", .type "object"] [.ref r_GrainError] i_BadRoot "BadRoot" "BadRoot.__init__"
  x_BadRoot_word : PySem.W.findIn K (.ref e_BadRoot.C) "word" = some none
  x_BadRoot_number : PySem.W.findIn K (.ref e_BadRoot.C) "number" = some none
  e_BadCount : Er PySem.Challenge.pw_grainyard_k16_sums_of_heaps K mg "ValueError" "ValueError.__new__" "ValueError.__init__" [.type "ValueError", .type "Exception", .type "BaseException", .type "object"] [.ref r_GrainError] i_BadCount "BadCount" "BadCount.__init__"
  x_BadCount_word : PySem.W.findIn K (.ref e_BadCount.C) "word" = some none
  x_BadCount_number : PySem.W.findIn K (.ref e_BadCount.C) "number" = some none
  e_BadRow : Er PySem.Challenge.pw_grainyard_k16_sums_of_heaps K mg "ValueError" "ValueError.__new__" "ValueError.__init__" [.type "ValueError", .type "Exception", .type "BaseException", .type "object"] [.ref r_GrainError] i_BadRow "BadRow" "BadRow.__init__"
  x_BadRow_word : PySem.W.findIn K (.ref e_BadRow.C) "word" = some none
  x_BadRow_at : PySem.W.findIn K (.ref e_BadRow.C) "at" = some none
  e_OtherRoot : Er PySem.Challenge.pw_grainyard_k16_sums_of_heaps K mg "ValueError" "ValueError.__new__" "ValueError.__init__" [.type "ValueError", .type "Exception", .type "BaseException", .type "object"] [.ref r_GrainError] i_OtherRoot "OtherRoot" "OtherRoot.__init__"
  x_OtherRoot_word : PySem.W.findIn K (.ref e_OtherRoot.C) "word" = some none
  e_NoSheet : Er PySem.Challenge.pw_grainyard_k16_sums_of_heaps K mg "LookupError" "LookupError.__new__" "LookupError.__init__" [.type "LookupError", .type "Exception", .type "BaseException", .type "object"] [.ref r_GrainMissing] i_NoSheet "NoSheet" "NoSheet.__init__"
  x_NoSheet_word : PySem.W.findIn K (.ref e_NoSheet.C) "word" = some none
  x_NoSheet_sheet : PySem.W.findIn K (.ref e_NoSheet.C) "sheet" = some none
  e_NothingLeft : Er PySem.Challenge.pw_grainyard_k16_sums_of_heaps K mg "IndexError" "IndexError.__new__" "IndexError.__init__" [.type "IndexError", .type "LookupError", .type "Exception", .type "BaseException", .type "object"] [] i_NothingLeft "NothingLeft" "NothingLeft.__init__"
  x_NothingLeft_word : PySem.W.findIn K (.ref e_NothingLeft.C) "word" = some none
  hn : PySem.W.specialIn K (.builtin "object.__class__") "__get__" = some (some (.builtin "getset_descriptor.__get__"))
  ht : PySem.W.takesIn K (.builtin "object.__class__") = some true
section
variable {base : Heap} {K : PySem.W.Frag} {mg : Str → Option Value} {w : World}
theorem ini_BadRoot (T : Txt K mg) : FnOk PySem.Challenge.pw_grainyard_k16_sums_of_heaps w K mg base CX0 1 T.e_BadRoot.f ((NFI i_BadRoot "BadRoot.__init__" T.e_BadRoot.cc T.e_BadRoot.c).fd T.e_BadRoot.doc T.e_BadRoot.pm T.e_BadRoot.ctv) ["self", "number"] (spIni T.e_BadRoot.C 1 fun ws => [("number", ws.getD 0 .non), ("word", .str "BadRoot")]) := ok_ini1 erb_VE T.e_BadRoot sc_iBadRoot rfl T.x_BadRoot_word T.x_BadRoot_number
theorem bi_BadRoot (T : Txt K mg) : Binds K ((NFI i_BadRoot "BadRoot.__init__" T.e_BadRoot.cc T.e_BadRoot.c).fd T.e_BadRoot.doc T.e_BadRoot.pm T.e_BadRoot.ctv) ["self", "number"] [] := .all fun us hl => match us, hl with | [_, _], _ => rfl
theorem ini_BadCount (T : Txt K mg) : FnOk PySem.Challenge.pw_grainyard_k16_sums_of_heaps w K mg base CX0 1 T.e_BadCount.f ((NFI i_BadCount "BadCount.__init__" T.e_BadCount.cc T.e_BadCount.c).fd T.e_BadCount.doc T.e_BadCount.pm T.e_BadCount.ctv) ["self", "number"] (spIni T.e_BadCount.C 1 fun ws => [("number", ws.getD 0 .non), ("word", .str "BadCount")]) := ok_ini1 erb_VE T.e_BadCount sc_iBadCount rfl T.x_BadCount_word T.x_BadCount_number
theorem bi_BadCount (T : Txt K mg) : Binds K ((NFI i_BadCount "BadCount.__init__" T.e_BadCount.cc T.e_BadCount.c).fd T.e_BadCount.doc T.e_BadCount.pm T.e_BadCount.ctv) ["self", "number"] [] := .all fun us hl => match us, hl with | [_, _], _ => rfl
theorem ini_BadRow (T : Txt K mg) : FnOk PySem.Challenge.pw_grainyard_k16_sums_of_heaps w K mg base CX0 1 T.e_BadRow.f ((NFI i_BadRow "BadRow.__init__" T.e_BadRow.cc T.e_BadRow.c).fd T.e_BadRow.doc T.e_BadRow.pm T.e_BadRow.ctv) ["self", "at"] (spIni T.e_BadRow.C 1 fun ws => [("at", ws.getD 0 .non), ("word", .str "BadRow")]) := ok_ini1 erb_VE T.e_BadRow sc_iBadRow rfl T.x_BadRow_word T.x_BadRow_at
theorem bi_BadRow (T : Txt K mg) : Binds K ((NFI i_BadRow "BadRow.__init__" T.e_BadRow.cc T.e_BadRow.c).fd T.e_BadRow.doc T.e_BadRow.pm T.e_BadRow.ctv) ["self", "at"] [] := .all fun us hl => match us, hl with | [_, _], _ => rfl
theorem ini_OtherRoot (T : Txt K mg) : FnOk PySem.Challenge.pw_grainyard_k16_sums_of_heaps w K mg base CX0 1 T.e_OtherRoot.f ((NFI i_OtherRoot "OtherRoot.__init__" T.e_OtherRoot.cc T.e_OtherRoot.c).fd T.e_OtherRoot.doc T.e_OtherRoot.pm T.e_OtherRoot.ctv) ["self"] (spIni T.e_OtherRoot.C 0 fun _ => [("word", .str "OtherRoot")]) := ok_ini0 erb_VE T.e_OtherRoot sc_iOtherRoot rfl T.x_OtherRoot_word
theorem bi_OtherRoot (T : Txt K mg) : Binds K ((NFI i_OtherRoot "OtherRoot.__init__" T.e_OtherRoot.cc T.e_OtherRoot.c).fd T.e_OtherRoot.doc T.e_OtherRoot.pm T.e_OtherRoot.ctv) ["self"] [] := .all fun us hl => match us, hl with | [_], _ => rfl
theorem ini_NoSheet (T : Txt K mg) : FnOk PySem.Challenge.pw_grainyard_k16_sums_of_heaps w K mg base CX0 1 T.e_NoSheet.f ((NFI i_NoSheet "NoSheet.__init__" T.e_NoSheet.cc T.e_NoSheet.c).fd T.e_NoSheet.doc T.e_NoSheet.pm T.e_NoSheet.ctv) ["self", "sheet"] (spIni T.e_NoSheet.C 1 fun ws => [("sheet", ws.getD 0 .non), ("word", .str "NoSheet")]) := ok_ini1 erb_LE T.e_NoSheet sc_iNoSheet rfl T.x_NoSheet_word T.x_NoSheet_sheet
theorem bi_NoSheet (T : Txt K mg) : Binds K ((NFI i_NoSheet "NoSheet.__init__" T.e_NoSheet.cc T.e_NoSheet.c).fd T.e_NoSheet.doc T.e_NoSheet.pm T.e_NoSheet.ctv) ["self", "sheet"] [] := .all fun us hl => match us, hl with | [_, _], _ => rfl
theorem ini_NothingLeft (T : Txt K mg) : FnOk PySem.Challenge.pw_grainyard_k16_sums_of_heaps w K mg base CX0 1 T.e_NothingLeft.f ((NFI i_NothingLeft "NothingLeft.__init__" T.e_NothingLeft.cc T.e_NothingLeft.c).fd T.e_NothingLeft.doc T.e_NothingLeft.pm T.e_NothingLeft.ctv) ["self"] (spIni T.e_NothingLeft.C 0 fun _ => [("word", .str "NothingLeft")]) := ok_ini0 erb_IE T.e_NothingLeft sc_iNothingLeft rfl T.x_NothingLeft_word
theorem bi_NothingLeft (T : Txt K mg) : Binds K ((NFI i_NothingLeft "NothingLeft.__init__" T.e_NothingLeft.cc T.e_NothingLeft.c).fd T.e_NothingLeft.doc T.e_NothingLeft.pm T.e_NothingLeft.ctv) ["self"] [] := .all fun us hl => match us, hl with | [_], _ => rfl
end
/-! ### single reads, as lemmas: smaller terms than a course of pairs -/
section
variable {K : PySem.W.Frag} {i : Nat} {p : Addr} {xs : List V} {k : Int} {v c : V} {b : Bool} {σ : List (Option V)} {H : Hp} {Q : VK} {R : Bool → Hp → Prop} {t u : Value}
theorem use_ix (h1 : σ[i]? = some (some (.ref p))) (h2 : H p = some (.tup xs)) (h3 : atI xs k = some v) (q : Q v H) : tOp (rIxT K) (tVar i) (tC (.int k)) σ H Q := ⟨_, h1, p, xs, k, v, rfl, rfl, SqT.of h2, h3, q⟩
theorem use_ixL (h1 : σ[i]? = some (some (.ref p))) (h2 : H p = some (.lst xs)) (h3 : atI xs k = some v) (q : Q v H) : tOp (rIxL K) (tVar i) (tC (.int k)) σ H Q := ⟨_, h1, p, xs, k, v, rfl, rfl, SqL.of h2, h3, q⟩
theorem use_eqc (h1 : σ[i]? = some (some v)) (h2 : scal v c = true) (h3 : V.bl (decide (v = c)) = .bl b) (q : R b H) : tTest (tOp rEq (tVar i) (tC c)) σ H R := ⟨_, h1, h2, b, h3, q⟩
theorem use_isi {s : String} (h1 : σ[i]? = some (some v)) (h2 : TyX K H v t) (h3 : PySem.W.kitOne K t (.type s) = some b) (q : Q (.bl b) H) : tCB (rIsi K) (tCons (tVar i) (tCons (tC (.ty s)) tNil)) σ H Q := ⟨_, h1, v, _, t, _, b, rfl, ClsV.ty _, h2, h3, q⟩
end
/-! ### heaps, and the bag that the draws change -/
def Keep (b : Addr) (H H' : Hp) : Prop := ∀ a o, a ≠ b → H a = some o → H' a = some o
theorem Keep.refl {b : Addr} (H : Hp) : Keep b H H := fun _ _ _ e => e
theorem Keep.trans {b : Addr} {H H1 H2 : Hp} (x : Keep b H H1) (y : Keep b H1 H2) : Keep b H H2 := fun a o n e => y a o n (x a o n e)
theorem keep_put {b : Addr} {H : Hp} {o : HO} : Keep b H (upd H b o) := fun a u n e => (upd_ne n).trans e
theorem keep_new {b p : Addr} {H : Hp} {o : HO} (hp : H p = none) : Keep b H (upd H p o) := fun a u _ e => (upd_ne (ne_of_none e hp)).trans e
theorem same_new {p : Addr} {H : Hp} {o : HO} (hp : H p = none) : Same H (upd H p o) := fun a u e => (upd_ne (ne_of_none e hp)).trans e
theorem keep_of {b : Addr} {H H' : Hp} (s : Same H H') : Keep b H H' := fun a o _ e => s a o e
theorem Same.keep {b : Addr} {H H1 H2 : Hp} (s : Same H H1) (k : Keep b H1 H2) (hb : H b = none) : Same H H2 := fun a o e => k a o (ne_of_none e hb) (s a o e)
structure BagAt (H : Hp) (b s : Addr) (ns : List Int) (i j m c : Int) : Prop where
  hb : H b = some (.lst [.ref s, .int i, .int j, .int m, .int c])
  hs : H s = some (.lst (ns.map V.int))
  i0 : 0 ≤ i
  i1 : i ≤ (ns.length : Int)
  m0 : 0 ≤ m
  m1 : m < 2147483399
def Bag (H : Hp) (b sb : Addr) : Prop := ∃ (ns : List Int) (i j m c : Int), BagAt H b sb ns i j m c
theorem BagAt.ne {H : Hp} {b s : Addr} {ns : List Int} {i j m c : Int} (B : BagAt H b s ns i j m c) : s ≠ b := ne_of B.hs B.hb (by
  intro e
  injection e with e
  cases ns with
  | nil => simp at e
  | cons x r => simp at e)
theorem BagAt.put {H : Hp} {b s : Addr} {ns : List Int} {i j m c : Int} (B : BagAt H b s ns i j m c) {i' j' m' c' : Int} (h0 : 0 ≤ i') (h1 : i' ≤ (ns.length : Int)) (h2 : 0 ≤ m') (h3 : m' < 2147483399) :
    BagAt (upd H b (.lst [.ref s, .int i', .int j', .int m', .int c'])) b s ns i' j' m' c' := ⟨upd_same, (upd_ne B.ne).trans B.hs, h0, h1, h2, h3⟩
theorem BagAt.same {H H' : Hp} {b s : Addr} {ns : List Int} {i j m c : Int} (B : BagAt H b s ns i j m c) (e : Same H H') : BagAt H' b s ns i j m c := ⟨e _ _ B.hb, e _ _ B.hs, B.i0, B.i1, B.m0, B.m1⟩
theorem Bag.same {H H' : Hp} {b sb : Addr} (B : Bag H b sb) (e : Same H H') : Bag H' b sb := by
  obtain ⟨ns, i, j, m, c, B⟩ := B
  exact ⟨ns, i, j, m, c, B.same e⟩
theorem Bag.new {H : Hp} {b sb p : Addr} {o : HO} (B : Bag H b sb) (hp : H p = none) : Bag (upd H p o) b sb := B.same (same_new hp)
theorem Bag.ne {H : Hp} {b sb p : Addr} (B : Bag H b sb) (hp : H p = none) : p ≠ b := by
  obtain ⟨ns, i, j, m, c, B⟩ := B
  exact (ne_of_none B.hb hp).symm
theorem Bag.ne2 {H : Hp} {b sb p : Addr} (B : Bag H b sb) (hp : H p = none) : p ≠ sb := by
  obtain ⟨ns, i, j, m, c, B⟩ := B
  exact (ne_of_none B.hs hp).symm
theorem Bag.tup {H : Hp} {b sb p : Addr} {xs : List V} (B : Bag H b sb) (hp : H p = some (.tup xs)) : p ≠ b := by
  obtain ⟨ns, i, j, m, c, B⟩ := B
  exact ne_of hp B.hb (by intro z; cases z)
theorem Bag.put {H : Hp} {b sb l : Addr} {o : HO} (B : Bag H b sb) (h1 : l ≠ b) (h2 : l ≠ sb) : Bag (upd H l o) b sb := by
  obtain ⟨ns, i, j, m, c, B⟩ := B
  exact ⟨ns, i, j, m, c, (upd_ne h1.symm).trans B.hb, (upd_ne h2.symm).trans B.hs, B.i0, B.i1, B.m0, B.m1⟩
theorem Keep.list {K : PySem.W.Frag} {H H' : Hp} {b p : Addr} {xs : List V} (k : Keep b H H') (hp : p ≠ b) (h : H p = some (.lst xs)) : SqL K H' p xs := SqL.of (k _ _ hp h)
theorem at_some {α : Type} {xs : List α} {i : Int} (h0 : 0 ≤ i) (h1 : i < (xs.length : Int)) : ∃ v, xs[i.toNat]? = some v ∧ atI xs i = some v := by
  obtain ⟨n, rfl⟩ := Int.eq_ofNat_of_zero_le h0
  have hl : n < xs.length := by omega
  exact ⟨xs[n], by simp [hl], atI_nat (by simp [hl])⟩
theorem at_ex {ns : List Int} {i : Int} (h0 : 0 ≤ i) (h1 : i < (ns.length : Int)) : ∃ z, atI (ns.map V.int) i = some (.int z) := by
  obtain ⟨n, rfl⟩ := Int.eq_ofNat_of_zero_le h0
  have hl : n < ns.length := by omega
  exact ⟨ns[n], atI_nat (by simp [hl])⟩
/-! ### f(k = v, ..): keywords alone -/
section
variable {X : Cx}
theorem pe_kwOnly {CX : CXT} {k : Nat} {f : Addr} {fd : FuncData} {ps ks : List Str} {sp : Sp} {E : XK} {x : Str} {p pos : Pos} {kws : List Keyword} {tk : TA} {g : List Value → List Value → List Value} {gV : List V → List V → List V}
    (F : FnOk X.prog X.w X.K X.mg X.base CX k f fd ps sp) (hr : Room k X.A) (hg : Gl X x) (hm : X.mg x = some (.ref f))
    (hk : PySem.W.keepIn X.K (.ref f) = true) (hb : KBn X.K fd ps 0 ks g gV) (hx : Passes CX X E) (hkw : PK X kws tk)
    (hall : (backToKw pos (keywordEach kws X.env)).all (·.1.isSome) = true := by rfl)
    (hks : (backToKw pos (keywordEach kws X.env)).filterMap (·.1) = ks := by rfl)
    (hdb : (x == ("__debug__" : Str)) = false := by decide)
    (hpl : ((backTo pos (starEach [] X.env)).any (·.1) || (backToKw pos (keywordEach kws X.env)).any (·.1.isNone)) = false := by rfl) :
    PE X (.Call (.Name x p) [] kws pos) (fun σ H Q => tk σ H fun zs H2 => zs.length = ks.length ∧ sp (gV [] zs) H2 Q E) := by
  refine ⟨fun pins s σ H Q I h => wpAny_Call_Name_kw (ld_glob I hg hm ?_ hdb)⟩
  refine PySem.W.callWith_KW0 (h₀ := X.base) I.ok.mod.kin hk hall ?_ hpl
  refine thn (hkw.run pos pins s σ H _ I h) fun ws s2 ⟨zs, H2, I2, rz, l2, q2⟩ => ⟨I2.kIn, ?_⟩
  rw [hks]
  exact run_fnN (us := []) (vs := []) F hr hb hx I2 .nil rz rfl l2 q2
end
/-! ### dicts whose keys are sheets -/
abbrev Sh := Int × Int × Int × Int
def shK (x : Sh) : NestedKey := .tup [.tup [.num x.1, .num x.2.1], .tup [.num x.2.2.1, .num x.2.2.2]]
theorem shK_inj {x y : Sh} (h : shK x = shK y) : x = y := by
  obtain ⟨a, b, c, e⟩ := x
  obtain ⟨a', b', c', e'⟩ := y
  simp only [shK, NestedKey.tup.injEq, List.cons.injEq, NestedKey.num.injEq, and_true] at h
  obtain ⟨⟨rfl, rfl⟩, rfl, rfl⟩ := h
  rfl
theorem shK_depth (x : Sh) : (shK x).depth ≤ 8 := by
  simp [shK, NestedKey.depth, NestedKey.depthAll]
/-- the sheet x, as a tuple of two tuples at p -/
def ShAt (H : Hp) (p : Addr) (x : Sh) : Prop := ∃ u v : Addr, H p = some (.tup [.ref u, .ref v]) ∧ H u = some (.tup [.int x.1, .int x.2.1]) ∧ H v = some (.tup [.int x.2.2.1, .int x.2.2.2])
theorem ShAt.mono {H H' : Hp} (k : ∀ p xs, H p = some (.tup xs) → H' p = some (.tup xs)) {p : Addr} {x : Sh} (h : ShAt H p x) : ShAt H' p x := by
  obtain ⟨u, v, h1, h2, h3⟩ := h
  exact ⟨u, v, k _ _ h1, k _ _ h2, k _ _ h3⟩
theorem ShAt.same {H H' : Hp} (s : Same H H') {p : Addr} {x : Sh} (h : ShAt H p x) : ShAt H' p x := h.mono fun p xs z => s p _ z
/-- the entries of such a dict, in order: the sheet, where it stands, its number -/
abbrev DEs := List (Sh × Addr × Int)
def DRel (p : Sh × Addr × Int) (q : NestedKey × Addr × Value) : Prop := q.1 = shK p.1 ∧ q.2.1 = p.2.1 ∧ RelV (.int p.2.2) q.2.2
def DsH (P : Program) (w : World) (d : Addr) (es : DEs) (h : Heap) : Prop := (d == sysModules) = false ∧ es.length ≤ sizeLine ∧ ∃ xs : List (NestedKey × Addr × Value), Paired DRel es xs ∧
  ∃ o en ep, h.get? d = some o ∧ o.ExactDict ∧ o.data = .dict en ep ∧ en.toList = xs.map (entryOfKey (nestedKind P w)) ∧ (xs.map (·.1)).Nodup
def DS (P : Program) (w : World) (d : Addr) (es : DEs) : HO := .ext (DsH P w d es)
structure DAt (P : Program) (w : World) (H : Hp) (d : Addr) (es : DEs) : Prop where
  hd : H d = some (DS P w d es)
  ks : ∀ x ∈ es, ShAt H x.2.1 x.1
/-- as it may be read: also while a loop walks it -/
structure DRd (P : Program) (w : World) (H : Hp) (d : Addr) (es : DEs) : Prop where
  hd : Rd H d (DS P w d es)
  ks : ∀ x ∈ es, ShAt H x.2.1 x.1
theorem DAt.rd {P : Program} {w : World} {H : Hp} {d : Addr} {es : DEs} (D : DAt P w H d es) : DRd P w H d es := ⟨.inl D.hd, D.ks⟩
section
variable {P : Program} {w : World} {H : Hp} {h : Heap} {d : Addr} {es : DEs}
theorem DsH.stay {h' : Heap} (z : DsH P w d es h) (k : ∀ o, h.get? d = some o → h'.get? d = some o) : DsH P w d es h' := by
  obtain ⟨z1, z2, xs, r, o, en, ep, ho, z3⟩ := z
  exact ⟨z1, z2, xs, r, o, en, ep, k o ho, z3⟩
theorem ds_obj {H' : Hp} (z : DsH P w d es h) : ObjOk P w H' h d (DS P w d es) := by
  refine ⟨z, ?_, fun h1 h2 z1 k => z1.stay k⟩
  obtain ⟨_, _, _, _, o, _, _, ho, _⟩ := z
  exact ⟨o, ho⟩
theorem ints_at (ok : HOk P w H h) {a : Addr} {x y : Int} (e : H a = some (.tup [.int x, .int y])) : NestedIs h (.tup [.num x, .num y]) (.ref a) := by
  obtain ⟨_, its, r, o, ho, hc, n, hdat⟩ := ok a _ e
  cases r with
  | cons r1 t =>
    cases t with
    | cons r2 t =>
      cases t
      obtain ⟨t1, rfl⟩ := r1
      obtain ⟨t2, rfl⟩ := r2
      exact .tup ho hc hdat (.cons (.int x t1) (.cons (.int y t2) .nil))
theorem sh_key (ok : HOk P w H h) {p : Addr} {x : Sh} (e : ShAt H p x) : (nestedKind P w).is h (shK x) p := by
  obtain ⟨u, v, h1, h2, h3⟩ := e
  obtain ⟨_, its, r, o, ho, hc, n, hdat⟩ := ok p _ h1
  cases r with
  | cons r1 t =>
    cases t with
    | cons r2 t =>
      cases t
      cases r1
      cases r2
      exact ⟨.tup ho hc hdat (.cons (ints_at ok h2) (.cons (ints_at ok h3) .nil)), shK_depth x⟩
theorem Paired.getR {α β : Type} {F : α → β → Prop} : ∀ {l₁ : List α} {l₂ : List β}, Paired F l₁ l₂ → ∀ {b : β}, b ∈ l₂ → ∃ a ∈ l₁, F a b
  | _, _, .nil, _, hb => by cases hb
  | _, _, .cons r t, b, hb => by
    rcases List.mem_cons.mp hb with e | e
    · exact ⟨_, List.mem_cons_self, e ▸ r⟩
    · obtain ⟨a, ha, f⟩ := Paired.getR t e
      exact ⟨a, List.mem_cons_of_mem _ ha, f⟩
theorem ds_of (ok : HOk P w H h) (D : DRd P w H d es) : (d == sysModules) = false ∧ es.length ≤ sizeLine ∧ ∃ xs, Paired DRel es xs ∧ h.DictOfH (nestedKind P w) d xs := by
  obtain ⟨z1, z2, xs, r, o, en, ep, ho, h1, h2, h3, h4⟩ := (D.hd.ok ok).1
  refine ⟨z1, z2, xs, r, o, en, ep, ho, h1, h2, h3, fun y hy => ?_, h4⟩
  obtain ⟨e, he, f1, f2, _⟩ := Paired.getR r hy
  rw [f1, f2]
  exact sh_key ok (D.ks e he)
/-- the number of a sheet -/
def valD (es : DEs) (x : Sh) : Option Int := (es.find? fun e => decide (e.1 = x)).map (·.2.2)
def putD (es : DEs) (x : Sh) (p : Addr) (n : Int) : DEs := if (valD es x).isSome then es.map (fun e => if e.1 = x then (e.1, e.2.1, n) else e) else es ++ [(x, p, n)]
def dropD (es : DEs) (x : Sh) : DEs := es.filter fun e => decide (e.1 ≠ x)
theorem drel_val {xs : List (NestedKey × Addr × Value)} (r : Paired DRel es xs) (x : Sh) : RelO ((valD es x).map V.int) ((atKey xs (shK x)).map (·.2)) := by
  induction r with
  | nil => exact trivial
  | @cons p q l1 l2 h t ih =>
    obtain ⟨h1, h2, h3⟩ := h
    by_cases e : p.1 = x
    · have e2 : q.1 = shK x := by rw [h1, e]
      simp only [valD, atKey, List.find?_cons, e, e2, decide_true, Option.map_some]
      exact h3
    · have e2 : ¬ q.1 = shK x := fun z => e (shK_inj (h1.symm.trans z))
      simpa only [valD, atKey, List.find?_cons, e, e2, decide_false] using ih
theorem drel_map {xs : List (NestedKey × Addr × Value)} (r : Paired DRel es xs) (x : Sh) {n : Int} {v : Value} (rv : RelV (.int n) v) : Paired DRel (es.map fun e => if e.1 = x then (e.1, e.2.1, n) else e) (xs.map (putAt (shK x) v)) := by
  induction r with
  | nil => exact .nil
  | @cons p q l1 l2 h t ih =>
    obtain ⟨h1, h2, h3⟩ := h
    refine .cons ?_ ih
    by_cases e : p.1 = x
    · have e2 : q.1 = shK x := by rw [h1, e]
      show DRel (if p.1 = x then (p.1, p.2.1, n) else p) _
      rw [if_pos e, putAt, if_pos e2]
      exact ⟨h1, h2, rv⟩
    · have e2 : ¬ q.1 = shK x := fun z => e (shK_inj (h1.symm.trans z))
      show DRel (if p.1 = x then (p.1, p.2.1, n) else p) _
      rw [if_neg e, putAt, if_neg e2]
      exact ⟨h1, h2, h3⟩
theorem Paired.snoc {α β : Type} {F : α → β → Prop} {a : α} {b : β} (f : F a b) : ∀ {l₁ : List α} {l₂ : List β}, Paired F l₁ l₂ → Paired F (l₁ ++ [a]) (l₂ ++ [b]) := by
  intro l₁ l₂ h
  induction h with
  | nil => exact .cons f .nil
  | cons r t ih => exact .cons r ih
theorem drel_put {xs : List (NestedKey × Addr × Value)} (r : Paired DRel es xs) (x : Sh) (p : Addr) {n : Int} {v : Value} (rv : RelV (.int n) v) : Paired DRel (putD es x p n) (storedH xs (shK x) p v) := by
  have e := (drel_val r x).isSome_eq
  rw [Option.isSome_map, Option.isSome_map] at e
  unfold putD storedH
  rw [e]
  split
  · exact drel_map r x rv
  · exact Paired.snoc ⟨rfl, rfl, rv⟩ r
theorem drel_drop {xs : List (NestedKey × Addr × Value)} (r : Paired DRel es xs) (x : Sh) : Paired DRel (dropD es x) (withoutH xs (shK x)) := by
  induction r with
  | nil => exact .nil
  | @cons p q l1 l2 h t ih =>
    obtain ⟨h1, h2, h3⟩ := h
    by_cases e : p.1 = x
    · have e2 : q.1 = shK x := by rw [h1, e]
      simpa [dropD, withoutH, List.filter_cons, e, e2] using ih
    · have e2 : ¬ q.1 = shK x := fun z => e (shK_inj (h1.symm.trans z))
      simpa [dropD, withoutH, List.filter_cons, e, e2] using Paired.cons (F := DRel) ⟨h1, h2, h3⟩ ih
theorem putD_len (es : DEs) (x : Sh) (p : Addr) (n : Int) : (putD es x p n).length ≤ es.length + 1 := by
  unfold putD
  split <;> simp
theorem putD_mem {x : Sh} {p : Addr} {n : Int} {y : Sh × Addr × Int} (h : y ∈ putD es x p n) : (y.1 = x ∧ y.2.1 = p) ∨ ∃ z ∈ es, z.1 = y.1 ∧ z.2.1 = y.2.1 := by
  unfold putD at h
  split at h
  · obtain ⟨z, hz, rfl⟩ := List.mem_map.mp h
    refine .inr ⟨z, hz, ?_⟩
    split <;> exact ⟨rfl, rfl⟩
  · rcases List.mem_append.mp h with h | h
    · exact .inr ⟨y, h, rfl, rfl⟩
    · rw [List.mem_singleton.mp h]
      exact .inl ⟨rfl, rfl⟩
theorem dropD_mem {x : Sh} {y : Sh × Addr × Int} (h : y ∈ dropD es x) : y ∈ es := (List.mem_filter.mp h).1
theorem tup_ext {l : Addr} {φ : Heap → Prop} {o : HO} (hl : H l = some (.ext φ)) (p : Addr) (xs : List V) (e : H p = some (.tup xs)) : (upd H l o) p = some (.tup xs) := (upd_ne (ne_of e hl (by intro z; cases z))).trans e
theorem DAt.same {H' : Hp} (D : DAt P w H d es) (s : Same H H') : DAt P w H' d es := ⟨s _ _ D.hd, fun x hx => (D.ks x hx).same s⟩
theorem DAt.put {x : Sh} {p : Addr} {n : Int} (D : DAt P w H d es) (hp : ShAt H p x) : DAt P w (upd H d (DS P w d (putD es x p n))) d (putD es x p n) := by
  refine ⟨upd_same, fun y hy => ?_⟩
  refine ShAt.mono (tup_ext D.hd) ?_
  rcases putD_mem hy with ⟨e1, e2⟩ | ⟨z, hz, e1, e2⟩
  · rw [e1, e2]
    exact hp
  · rw [← e1, ← e2]
    exact D.ks z hz
theorem DAt.drop {x : Sh} (D : DAt P w H d es) : DAt P w (upd H d (DS P w d (dropD es x))) d (dropD es x) := ⟨upd_same, fun y hy => (D.ks y (dropD_mem hy)).mono (tup_ext D.hd)⟩
end
/-! the operations -/
section
variable {X : Cx} {pins : List (Addr × Obj)} {σ : L2.St} {H : Hp} {s : Shared} {d p : Addr} {es : DEs} {x : Sh} {A : Around} {E : Value → Shared → Prop}
theorem ds_getItem {n : Int} {Q : Value → Shared → Prop} (hu : A.units + 9 < cLine) (I : Inv X pins σ H s) (D : DRd X.prog X.w H d es) (hp : ShAt H p x) (hv : valD es x = some n) (q : ∀ t s', Inv X pins σ H s' → Q (.int n t) s') :
    wpAny (model X.prog X.w) A (getItem (.ref d) (.ref p)) Q E s := by
  obtain ⟨_, _, xs, r, dd⟩ := ds_of I.hok D
  have rel := drel_val r x
  rw [hv] at rel
  obtain ⟨w', hw, rw'⟩ := RelO.some_of (v := V.int n) rel
  obtain ⟨y, hy, hy2⟩ := Option.map_eq_some_iff.mp hw
  refine wpAny_getItem_heap (show A.in1.units + 8 < cLine from hu) (sh_key I.hok hp) dd hy ?_
  rw [hy2]
  obtain ⟨t, rfl⟩ := rw'
  exact q t _ (I.tok _)
theorem ds_in {Q : Value → Shared → Prop} (hu : A.units + 9 < cLine) (I : Inv X pins σ H s) (D : DRd X.prog X.w H d es) (hp : ShAt H p x) (q : ∀ s', Inv X pins σ H s' → Q (.bool (valD es x).isSome) s') :
    wpAny (model X.prog X.w) A (compareOp .In (.ref p) (.ref d)) Q E s := by
  obtain ⟨hs, _, xs, r, dd⟩ := ds_of I.hok D
  refine wpAny_in_heap (show A.in1.units + 8 < cLine from hu) (sh_key I.hok hp) hs dd ?_
  have e := (drel_val r x).isSome_eq
  rw [Option.isSome_map, Option.isSome_map] at e
  rw [← e]
  exact q _ (I.tok _)
theorem ds_getOr {n : Int} {r' : Value} {Q : Value → Shared → Prop} (hu : A.units + 9 < cLine) (I : Inv X pins σ H s) (D : DRd X.prog X.w H d es) (hp : ShAt H p x) (rn : RelV (.int n) r') (q : ∀ t s', Inv X pins σ H s' → Q (.int ((valD es x).getD n) t) s') :
    wpAny (model X.prog X.w) A (call (.builtin "dict.get") [.ref d, .ref p, r']) Q E s := by
  obtain ⟨hs, _, xs, r, dd⟩ := ds_of I.hok D
  refine call_meetsIn PySem.F.slot_dict_get dd.typeIs PySem.F.entry_dict_get (PySem.F.args_dict_get_3 _ _ _) (meetsH_dict_get_default (nestedKind X.prog X.w) d p hs r') ⟨show A.in1.units + 8 < cLine from hu, shK x, xs, sh_key I.hok hp, dd, ?_⟩
  have rel := (drel_val r x).getD rn
  have e : ((valD es x).map V.int).getD (.int n) = .int ((valD es x).getD n) := by cases valD es x <;> rfl
  rw [e] at rel
  obtain ⟨t, et⟩ := rel
  rw [et]
  exact q t _ (I.tok _)
theorem ds_setItem {n : Int} {v : Value} {Q : Unit → Shared → Prop} (hu : A.units + 9 < cLine) (I : Inv X pins σ H s) (D : DAt X.prog X.w H d es) (hp : ShAt H p x) (rv : RelV (.int n) v) (hl : es.length < sizeLine)
    (q : ∀ s', Inv X pins σ (upd H d (DS X.prog X.w d (putD es x p n))) s' → Q () s') : wpAny (model X.prog X.w) A (setItem (.ref d) (.ref p) v) Q E s := by
  obtain ⟨hs, hz, xs, r, dd⟩ := ds_of I.hok D.rd
  have hz' : xs.length ≤ sizeLine := by rw [← Paired.length r]; exact hz
  refine wpAny_setItem_heap (hsz := hz') (show A.in1.units + 8 < cLine from hu) (sh_key I.hok hp) dd fun h' dd' hsb => q _ ?_
  obtain ⟨o, en, ep, h1, h2, h3, h4, _, h5⟩ := dd'
  refine d_write I (by rw [D.hd]; exact True.intro) hsb ⟨o, h1⟩ (ds_obj ⟨hs, ?_, _, drel_put r x p rv, o, en, ep, h1, h2, h3, h4, h5⟩)
  have := putD_len es x p n
  omega
theorem ds_del {Q : Unit → Shared → Prop} {n : Int} (hu : A.units + 9 < cLine) (I : Inv X pins σ H s) (D : DAt X.prog X.w H d es) (hp : ShAt H p x) (hv : valD es x = some n)
    (q : ∀ s', Inv X pins σ (upd H d (DS X.prog X.w d (dropD es x))) s' → Q () s') : wpAny (model X.prog X.w) A (delItem (.ref d) (.ref p)) Q E s := by
  obtain ⟨hs, hz, xs, r, dd⟩ := ds_of I.hok D.rd
  have hz' : xs.length ≤ sizeLine := by rw [← Paired.length r]; exact hz
  have rel := drel_val r x
  rw [hv] at rel
  obtain ⟨w', hw, rw'⟩ := RelO.some_of (v := V.int n) rel
  obtain ⟨y, hy, hy2⟩ := Option.map_eq_some_iff.mp hw
  refine wpAny_delItem_heap (hsz := hz') (show A.in1.units + 8 < cLine from hu) (sh_key I.hok hp) hs dd hy fun h' dd' hsb => q _ ?_
  obtain ⟨o, en, ep, h1, h2, h3, h4, _, h5⟩ := dd'
  refine d_write I (by rw [D.hd]; exact True.intro) hsb ⟨o, h1⟩ (ds_obj ⟨hs, ?_, _, drel_drop r x, o, en, ep, h1, h2, h3, h4, h5⟩)
  exact Nat.le_trans (List.length_filter_le _ _) hz
end
/-! as terms -/
section
variable {X : Cx} {pos pos' apos cpos tpos : Pos} {o i e f value : Expr} {td ty tx tv : TE}
theorem pe_dnewS : PE X (.Dict [] [] pos) (fun _ H Q => ∀ p, H p = none → Q (.ref p) (upd H p (DS X.prog X.w p []))) := ⟨fun pins s σ H Q I h => by
  refine wpAny_Dict_empty ⟨.ref s.heap.objs.size, _, I.laid (a := s.heap.objs.size) (o := DS X.prog X.w s.heap.objs.size []) (t' := s.toks) (fun _ _ q => Heap.get?_push_of_some _ q) (Nat.le_refl _) (ds_obj ?_), rfl, h _ (I.hok.fresh (Nat.le_refl _))⟩
  exact ⟨beq_eq_false_iff_ne.mpr (Ne.symm (Nat.ne_of_lt I.big)), Nat.zero_le _, [], .nil, _, #[], 0, Heap.get?_push_size _ rfl, ⟨rfl, rfl, rfl⟩, rfl, rfl, List.nodup_nil⟩⟩
def tSGet (P : Program) (w : World) (td ty : TE) : TE := fun σ H Q => td σ H fun v H1 => ty σ H1 fun y H2 => ∃ d p es x n, v = .ref d ∧ y = .ref p ∧ DRd P w H2 d es ∧ ShAt H2 p x ∧ valD es x = some n ∧ Q (.int n) H2
theorem ds_dict {pins : List (Addr × Obj)} {σ : L2.St} {H : Hp} {s : Shared} {d : Addr} {es : DEs} (I : Inv X pins σ H s) (D : DRd X.prog X.w H d es) : s.TypeIs (.ref d) "dict" ∧ (∀ b, Value.ref d = .ref b → ∃ ob, s.heap.get? b = some ob ∧ ob.dict = none) := by
  obtain ⟨_, _, xs, _, dd⟩ := ds_of I.hok D
  refine ⟨dd.typeIs, fun b z => ?_⟩
  cases z
  obtain ⟨ob, _, _, h1, h2, _⟩ := dd
  exact ⟨ob, h1, h2.2.1⟩
end
/-! ### dicts of sheets: in, d[k], d[k] = v, del d[k], d.get(k, n) -/
section
variable {X : Cx} {pos pos' apos cpos tpos : Pos} {o i e f value : Expr} {td ty tx tv : TE}
def rInDS (P : Program) (w : World) (neg : Bool) : R2 := fun y v H Q => ∃ p d es x, y = .ref p ∧ v = .ref d ∧ DRd P w H d es ∧ ShAt H p x ∧ Q (.bl ((valD es x).isSome != neg)) H
theorem op_inDS (hu : X.A.units + 64 < cLine) : OpR X (compareOp .In) (rInDS X.prog X.w false) := by
  intro pins s σ H y v y' v' Q I ry rv q
  obtain ⟨p, d, es, x, rfl, rfl, D, hp, q⟩ := q
  cases ry
  cases rv
  refine ds_in (by omega) I D hp fun s' I' => ⟨.bl (valD es x).isSome, H, I', rfl, ?_⟩
  rw [show (valD es x).isSome = ((valD es x).isSome != false) by simp]
  exact q
theorem op_notInDS (hu : X.A.units + 64 < cLine) : OpR X (compareOp .NotIn) (rInDS X.prog X.w true) := by
  intro pins s σ H y v y' v' Q I ry rv q
  obtain ⟨p, d, es, x, rfl, rfl, D, hp, q⟩ := q
  cases ry
  cases rv
  obtain ⟨hs, _, xs, r, dd⟩ := ds_of I.hok D
  refine wpAny_notIn_heap (show X.A.in1.units + 8 < cLine from by show X.A.units + 1 + 8 < cLine; omega) (sh_key I.hok hp) hs dd ?_
  have z := (drel_val r x).isSome_eq
  rw [Option.isSome_map, Option.isSome_map] at z
  rw [← z]
  refine ⟨.bl (!(valD es x).isSome), H, I.tok _, rfl, ?_⟩
  rw [show (!(valD es x).isSome) = ((valD es x).isSome != true) by simp]
  exact q
theorem pe_sget (hu : X.A.units + 64 < cLine) (ho : PE X o td) (hi : PE X i ty) (hs : NoSl i) : PE X (.Subscript o i pos) (tSGet X.prog X.w td ty) := by
  refine ⟨fun pins s σ H Q I q => ?_⟩
  refine subD_of PySem.F.slot_dict_getitem.lookup hs (thn (ho.run pins s σ H _ I q) fun u s1 ⟨v, H1, I1, rv, q1⟩ => thn (hi.run pins s1 σ H1 _ I1 q1) fun iv s2 zz => ?_)
  obtain ⟨y, H2, I2, ry, d, p, es, x, n, e1, e2, D, hp, hv, q2⟩ := zz
  subst e1 e2
  cases rv
  cases ry
  exact ⟨(ds_dict I2 D).1, ds_getItem (by omega) I2 D hp hv fun t s3 I3 => ⟨.int n, H2, I3, ⟨t, rfl⟩, q2⟩⟩
def sSPut (P : Program) (w : World) (td ty tv : TE) : TS := fun D σ H => tv σ H fun v H1 => td σ H1 fun v2 H2 => ty σ H2 fun y H3 => ∃ d p es x n, v = .int n ∧ v2 = .ref d ∧ y = .ref p ∧ DAt P w H3 d es ∧ ShAt H3 p x ∧ es.length < sizeLine ∧ D.nx σ (upd H3 d (DS P w d (putD es x p n)))
theorem ps_sput (hu : X.A.units + 64 < cLine) (ho : PE X o td) (hi : PE X i ty) (hv : PE X value tv) (hs : swapsWith value (some (.Subscript o i pos')) pos.line X.env = pure false) : PS X (.Assign [.Subscript o i pos'] value pos) (sSPut X.prog X.w td ty tv) := by
  refine ⟨fun pins s σ H D I q => ?_⟩
  refine wpAny_Assign_Subscript (thn (hv.run pins s σ H _ I q) fun r s1 ⟨v, H1, I1, rv, q1⟩ => thn (ho.run pins s1 σ H1 _ I1 q1) fun u s2 ⟨v2, H2, I2, rv2, q2⟩ => thn (hi.run pins s2 σ H2 _ I2 q2) fun iv s3 zz => ?_) hs
  obtain ⟨y, H3, I3, ry, d, p, es, x, n, e1, e2, e3, DA, hp, hl, q3⟩ := zz
  subst e1 e2 e3
  cases rv2
  cases ry
  exact ds_setItem (by omega) I3 DA hp rv hl fun s4 I4 => ⟨σ, _, I4, q3⟩
def sSDel (P : Program) (w : World) (td ty : TE) : TS := fun D σ H => td σ H fun v2 H2 => ty σ H2 fun y H3 => ∃ d p es x n, v2 = .ref d ∧ y = .ref p ∧ DAt P w H3 d es ∧ ShAt H3 p x ∧ valD es x = some n ∧ D.nx σ (upd H3 d (DS P w d (dropD es x)))
theorem ps_sdel (hu : X.A.units + 64 < cLine) (ho : PE X o td) (hi : PE X i ty) : PS X (.Delete [.Subscript o i tpos] pos) (sSDel X.prog X.w td ty) := by
  refine ⟨fun pins s σ H D I q => ?_⟩
  refine wpAny_Delete (wpAny_deleteEach_cons (wpAny_delete_Subscript (thn (ho.run pins s σ H _ I q) fun u s1 ⟨v2, H1, I1, rv2, q1⟩ => thn (hi.run pins s1 σ H1 _ I1 q1) fun iv s2 zz => ?_)))
  obtain ⟨y, H2, I2, ry, d, p, es, x, n, e2, e3, DA, hp, hv, q2⟩ := zz
  subst e2 e3
  cases rv2
  cases ry
  exact ds_del (by omega) I2 DA hp hv fun s3 I3 => wpAny_deleteEach_nil ⟨σ, _, I3, q2⟩
def sSAug (P : Program) (w : World) (td ty tv : TE) (rd : V → V → Hp → VK → Prop) : TS := fun D σ H => td σ H fun v2 H1 => ty σ H1 fun y H2 => ∃ d p es x n, v2 = .ref d ∧ y = .ref p ∧ DAt P w H2 d es ∧ ShAt H2 p x ∧ valD es x = some n ∧
  tv σ H2 fun y2 H3 => rd (.int n) y2 H3 fun z H4 => ∃ es2 m, z = .int m ∧ DAt P w H4 d es2 ∧ ShAt H4 p x ∧ es2.length < sizeLine ∧ D.nx σ (upd H4 d (DS P w d (putD es2 x p m)))
theorem ps_saug {op : Operator} {rd : V → V → Hp → VK → Prop} (hu : X.A.units + 64 < cLine) (ho : PE X o td) (hi : PE X i ty) (hv : PE X value tv) (hop : InOp X op rd)
    (ha : ∀ ov iv new, augStore i ov iv new = (do holding [new, ov, iv] (setItem ov iv new); release [new, ov, iv] []; pure .next)) : PS X (.AugAssign (.Subscript o i tpos) op value pos) (sSAug X.prog X.w td ty tv rd) := by
  refine ⟨fun pins s σ H D I q => ?_⟩
  refine wpAny_AugAssign_SubscriptAny (thn (ho.run pins s σ H _ I q) fun u s1 ⟨v2, H1, I1, rv2, q1⟩ => thn (hi.run pins s1 σ H1 _ I1 q1) fun iv s2 zz => ?_) ha
  obtain ⟨y, H2, I2, ry, d, p, es, x, n, e2, e3, DA, hp, hval, q2⟩ := zz
  subst e2 e3
  cases rv2
  cases ry
  refine ds_getItem (by omega) I2 DA.rd hp hval fun t s3 I3 => thn (hv.run pins s3 σ H2 _ I3 q2) fun w2 s4 ⟨y2, H3, I4, ry2, q3⟩ => ?_
  refine thn (hop pins s4 σ H3 (.int n) y2 (.int n t) w2 _ I4 ⟨t, rfl⟩ ry2 q3) fun w3 s5 zz => ?_
  obtain ⟨z, H4, I5, rz, es2, m, ez, DA2, hp2, hl, q4⟩ := zz
  subst ez
  exact ds_setItem (by omega) I5 DA2 hp2 rz hl fun s6 I6 => ⟨σ, _, I6, q4⟩
def tSGet2 (P : Program) (w : World) (td ty tx : TE) : TE := fun σ H Q => td σ H fun v H1 => ∃ d es, v = .ref d ∧ DRd P w H1 d es ∧ ty σ H1 fun y H2 => tx σ H2 fun z H3 => ∃ p x n es3, y = .ref p ∧ z = .int n ∧ DRd P w H3 d es3 ∧ ShAt H3 p x ∧ Q (.int ((valD es3 x).getD n)) H3
theorem pe_sget2 (hu : X.A.units + 64 < cLine) (ho : PE X o td) (he : PE X e ty) (hf : PE X f tx) (m : M2 X o "get" apos e f cpos) : PE X (.Call (.Attribute o "get" apos) [e, f] [] cpos) (tSGet2 X.prog X.w td ty tx) := by
  refine ⟨fun pins s σ H Q I q => ?_⟩
  refine wpAny_Call_method m.base m.few m.line PySem.F.plainAttrs_dict PySem.F.slot_dict_get PySem.F.type_dict_get (thn (ho.run pins s σ H _ I q) fun u s1 zz => ?_)
  obtain ⟨v, H1, I1, rv, d, es, ev, DA, q1⟩ := zz
  subst ev
  cases rv
  obtain ⟨t1, t2⟩ := ds_dict I1 DA
  refine ⟨t1, t2, ?_⟩
  rw [m.trees]
  refine Calls.callWith_builtin rfl (Calls.evalArgs_plain (Calls.spliced_cons (thn (he.run pins s1 σ H1 _ I1 q1) fun iv s2 ⟨y, H2, I2, ry, q2⟩ => ?_)))
  refine Calls.spliced_cons (thn (hf.run pins s2 σ H2 _ I2 q2) fun fv s3 ⟨z, H3, I3, rz, p, x, n, es3, ey, ez, DA3, hp, q3⟩ => Calls.spliced_nil ?_)
  subst ey ez
  cases ry
  exact ds_getOr (by omega) I3 DA3 hp rz fun t s4 I4 => ⟨.int _, H3, I4, ⟨t, rfl⟩, q3⟩
end
/-! ### many new objects at once -/
def addAll (H : Hp) : List (Addr × HO) → Hp
  | [] => H
  | z :: zs => addAll (upd H z.1 z.2) zs
theorem addAll_other {a : Addr} : ∀ {zs : List (Addr × HO)} {H : Hp}, (∀ z ∈ zs, z.1 ≠ a) → addAll H zs a = H a
  | [], _, _ => rfl
  | z :: zs, H, h => by
    show addAll (upd H z.1 z.2) zs a = H a
    rw [addAll_other fun y hy => h y (List.mem_cons_of_mem _ hy), upd_ne (Ne.symm (h z List.mem_cons_self))]
theorem addAll_at {a : Addr} {o : HO} : ∀ {zs : List (Addr × HO)} {H : Hp}, (zs.map (·.1)).Nodup → (a, o) ∈ zs → addAll H zs a = some o
  | [], _, _, h => by cases h
  | z :: zs, H, n, h => by
    rw [List.map_cons, List.nodup_cons] at n
    show addAll (upd H z.1 z.2) zs a = some o
    rcases List.mem_cons.mp h with e | e
    · rw [← e, addAll_other fun y hy z' => n.1 (List.mem_map.mpr ⟨y, hy, by rw [z', ← e]⟩), upd_same]
    · exact addAll_at n.2 e
theorem addAll_mem {a : Addr} {o : HO} : ∀ {zs : List (Addr × HO)} {H : Hp}, addAll H zs a = some o → (a, o) ∈ zs ∨ H a = some o
  | [], _, h => .inr h
  | z :: zs, H, h => by
    rcases addAll_mem (zs := zs) (H := upd H z.1 z.2) h with e | e
    · exact .inl (List.mem_cons_of_mem _ e)
    · by_cases ha : a = z.1
      · subst ha
        rw [upd_same] at e
        cases e
        exact .inl List.mem_cons_self
      · rw [upd_ne ha] at e
        exact .inr e
theorem addAll_same {zs : List (Addr × HO)} {H : Hp} (n : ∀ z ∈ zs, H z.1 = none) : Same H (addAll H zs) := fun a o e => (addAll_other fun z hz => (ne_of_none e (n z hz)).symm).trans e
section
variable {X : Cx} {pins : List (Addr × Obj)} {σ : L2.St} {H : Hp} {s : Shared}
theorem Inv.lays {h' : Heap} {t' : Nat} {zs : List (Addr × HO)} (I : Inv X pins σ H s) (k : ∀ b u, s.heap.get? b = some u → h'.get? b = some u) (hp : ∀ z ∈ zs, s.heap.objs.size ≤ z.1)
    (new : ∀ z ∈ zs, ObjOk X.prog X.w (addAll H zs) h' z.1 z.2) : Inv X pins σ (addAll H zs) { s with heap := h', toks := t' } := by
  have hn : ∀ z ∈ zs, H z.1 = none := fun z hz => I.hok.fresh (hp z hz)
  have sm := addAll_same hn
  refine I.call (ch := []) (g' := s.gens) (d' := s.drawn) ⟨fun b u q _ _ _ => k b u q, fun b u q _ _ _ => ⟨u.slots, k b u q⟩, fun b u q n _ => ?_, fun b u q _ => ⟨u, k b u q⟩, fun b xs q => sm _ _ q, fun b u v q => sm _ _ q, fun b ps q => ⟨#[], by rw [sm _ _ q]; simp⟩⟩ (fun b o q => ?_) I.bare (fun _ z => nomatch z)
  · rw [addAll_other fun z hz e => ?_]
    · exact n
    · have y := hp z hz
      rw [e] at y
      exact absurd (Nat.lt_of_lt_of_le (Heap.lt_size q) y) (Nat.lt_irrefl _)
  · rcases addAll_mem q with z | z
    · exact new _ z
    · exact (I.hok b o z).stay (fun c v _ y => k c v y) (fun c y => sm _ _ y) fun c xs y => sm _ _ y
end
/-! ### dicts of sheets: items, keys, values as lists; sorted -/
theorem Paired.getL {α β : Type} {F : α → β → Prop} : ∀ {l₁ : List α} {l₂ : List β}, Paired F l₁ l₂ → ∀ {j : Nat} {a : α}, l₁[j]? = some a → ∃ b, l₂[j]? = some b ∧ F a b := by
  intro l₁ l₂ h
  induction h with
  | nil =>
    intro j a h
    simp at h
  | cons r t ih =>
    intro j a h
    cases j with
    | zero =>
      cases h
      exact ⟨_, rfl, r⟩
    | succ j => exact ih (j := j) (by simpa using h)
theorem Paired.byIx {α β : Type} {F : α → β → Prop} : ∀ {l₁ : List α} {l₂ : List β}, l₁.length = l₂.length → (∀ (j : Nat) (a : α) (b : β), l₁[j]? = some a → l₂[j]? = some b → F a b) → Paired F l₁ l₂
  | [], [], _, _ => .nil
  | a :: l₁, b :: l₂, h, f => .cons (f 0 a b rfl rfl) (Paired.byIx (by simpa using h) fun j x y h1 h2 => f (j + 1) x y (by simpa using h1) (by simpa using h2))
  | [], _ :: _, h, _ => by simp at h
  | _ :: _, [], h, _ => by simp at h
section
variable {P : Program} {w : World} {es : DEs}
theorem ds_ent {xs : List (NestedKey × Addr × Value)} {en : Array DictEntry} (he : en.toList = xs.map (entryOfKey (nestedKind P w))) (r : Paired DRel es xs) {j : Nat} {e : Sh × Addr × Int} (h : es[j]? = some e) :
    ∃ hs v, en[j]? = some ⟨hs, .ref e.2.1, v⟩ ∧ RelV (.int e.2.2) v := by
  obtain ⟨y, hy, h1, h2, h3⟩ := Paired.getL r h
  refine ⟨(nestedKind P w).hash y.1, y.2.2, ?_, h3⟩
  rw [entry_at he j, hy, ← h2]
  rfl
theorem ds_size {xs : List (NestedKey × Addr × Value)} {en : Array DictEntry} (he : en.toList = xs.map (entryOfKey (nestedKind P w))) (r : Paired DRel es xs) : en.size = es.length := (size_of_entries he).trans (Paired.length r).symm
end
section
variable {X : Cx}
def rItemsDS (P : Program) (w : World) : V → List V → Hp → VK → Prop := fun x xs H Q => ∃ d es, x = .ref d ∧ xs = [] ∧ DAt P w H d es ∧ ∀ p, H p = none → Q (.ref p) (upd H p (DX.itemsO p d))
theorem mt_itemsDS : MtR X "dict.items" (rItemsDS X.prog X.w) := by
  intro pins s σ H x xs v us Q I rx rxs q
  obtain ⟨d, es, rfl, rfl, D, q⟩ := q
  cases rx
  cases rxs
  obtain ⟨hs, _, ys, r, o, en, ep, ho, hx, hdat, _⟩ := (I.hok d _ D.hd).1
  refine DT.callItems (es := en) (ep := ep) hs ⟨o, ho, hx, hdat⟩ ?_
  exact ⟨.ref s.heap.objs.size, upd H s.heap.objs.size (DX.itemsO s.heap.objs.size d), I.laid (t' := s.toks) (fun b u z => Heap.get?_push_of_some _ z) (Nat.le_refl _) (DX.itemsO_ok (Heap.get?_push_size _ rfl)), rfl, q _ (I.hok.fresh (Nat.le_refl _))⟩
/-- rows: a list of tuples of a sheet and its number -/
def RowsAt (H : Hp) (as : List Addr) (es : DEs) : Prop := Paired (fun a (e : Sh × Addr × Int) => H a = some (.tup [.ref e.2.1, .int e.2.2])) as es
theorem RowsAt.mono {H H' : Hp} {as : List Addr} {es : DEs} (h : RowsAt H as es) (k : ∀ p xs, H p = some (.tup xs) → H' p = some (.tup xs)) : RowsAt H' as es := Paired.mapP h fun a e z => k _ _ z
def rListItems (P : Program) (w : World) : List V → Hp → VK → Prop := fun vs H Q => ∃ p d es, vs = [.ref p] ∧ H p = some (DX.itemsO p d) ∧ DAt P w H d es ∧
  ∀ l as H', H l = none → Same H H' → H' l = some (.lst (as.map V.ref)) → RowsAt H' as es → Q (.ref l) H'
theorem call_list_itemsDS (hc : X.calm = true) : CallR X (.type "list") (rListItems X.prog X.w) := by
  intro pins s σ H vs us Q I r q
  obtain ⟨p, d, es, rfl, hp, D, q⟩ := q
  obtain ⟨u, rfl, rx⟩ := r.one
  cases rx
  obtain ⟨hs, hz, ys, rel, o, en, ep, ho, hx, hdat, he, _⟩ := (I.hok d _ D.hd).1
  have view : s.heap.IsItemsView p d := (I.hok p _ hp).1
  have hsz := ds_size he rel
  refine PySem.W.dil_call (es := en) (ep := ep) (I.ok.hd hc) view ⟨o, ho, hx, hdat⟩ (by omega) fun h' tk acc c as hk hS hl hG hacc => ?_
  have hal : as.length = es.length := by omega
  have ab : ∀ a ∈ as, s.heap.objs.size < a := hG.above
  have nd : as.Nodup := hG.rise.imp fun h => Nat.ne_of_lt h
  have hin : ∀ z ∈ (s.heap.objs.size, HO.lst (as.map V.ref)) :: (as.zip es).map (fun z => (z.1, HO.tup [.ref z.2.2.1, .int z.2.2.2])), s.heap.objs.size ≤ z.1 := by
    intro z hz
    rcases List.mem_cons.mp hz with e | e
    · rw [e]
      exact Nat.le_refl _
    · obtain ⟨y, hy, rfl⟩ := List.mem_map.mp e
      exact Nat.le_of_lt (ab _ (List.of_mem_zip hy).1)
  have hm : ((as.zip es).map (fun z : Addr × Sh × Addr × Int => (z.1, HO.tup [.ref z.2.2.1, .int z.2.2.2]))).map (·.1) = as := by
    rw [List.map_map]
    show (as.zip es).map (fun z => z.1) = as
    exact List.map_fst_zip (by omega)
  have hnd : (((s.heap.objs.size, HO.lst (as.map V.ref)) :: (as.zip es).map (fun z => (z.1, HO.tup [.ref z.2.2.1, .int z.2.2.2]))).map (·.1)).Nodup := by
    rw [List.map_cons, hm, List.nodup_cons]
    exact ⟨fun z => Nat.lt_irrefl _ (ab _ z), nd⟩
  have J := Inv.lays (t' := tk) I hk hin fun z hz => by
    rcases List.mem_cons.mp hz with e | e
    · rw [e]
      refine ⟨by rw [List.length_map]; omega, acc.toList, c, ?_, by rw [Array.toArray_toList]; exact hS⟩
      rw [hacc]
      exact vals_refs as
    · obtain ⟨y, hy, rfl⟩ := List.mem_map.mp e
      obtain ⟨j, hj⟩ := List.mem_iff_getElem?.mp hy
      rw [List.getElem?_zip_eq_some] at hj
      obtain ⟨hlt, hpair⟩ := hG.pairs j _ hj.1
      obtain ⟨hsh, v, hv, rv⟩ := ds_ent he rel hj.2
      have e1 : en[j] = ⟨hsh, .ref y.2.2.1, v⟩ := by
        rw [Array.getElem?_eq_getElem hlt] at hv
        exact Option.some.inj hv
      rw [e1] at hpair
      exact ⟨by show 2 ≤ sizeLine; decide, [.ref y.2.2.1, v], .cons rfl (.cons rv .nil), _, hpair, rfl, _, rfl⟩
  have fr := fun z hz => I.hok.fresh (hin z hz)
  refine ⟨.ref s.heap.objs.size, _, J, rfl, q _ as _ (I.hok.fresh (Nat.le_refl _)) (addAll_same fr) (addAll_at hnd List.mem_cons_self) ?_⟩
  refine Paired.byIx hal fun j a e h1 h2 => addAll_at hnd (List.mem_cons_of_mem _ (List.mem_map.mpr ⟨(a, e), ?_, rfl⟩))
  exact List.mem_of_getElem? (List.getElem?_zip_eq_some.mpr ⟨h1, h2⟩)
theorem refs_by {ys : List (NestedKey × Addr × Value)} {en : Array DictEntry} {es : DEs} {acc : Array Value} (he : en.toList = ys.map (entryOfKey (nestedKind X.prog X.w))) (rel : Paired DRel es ys)
    (hl : acc.size = en.size) (hv : ∀ (j : Nat) (v : Value), acc[j]? = some v → ∃ e : DictEntry, en[j]? = some e ∧ v = e.key) : acc.toList = (es.map fun e => e.2.1).map Value.ref := by
  have hs := ds_size he rel
  apply List.ext_getElem?
  intro j
  rw [List.getElem?_map, List.getElem?_map, Array.getElem?_toList]
  cases hj : acc[j]? with
  | none =>
    have : acc.size ≤ j := by simpa using hj
    rw [List.getElem?_eq_none (by omega)]
    rfl
  | some v =>
    obtain ⟨e, h1, rfl⟩ := hv j v hj
    have : j < acc.size := by
      rcases Nat.lt_or_ge j acc.size with z | z
      · exact z
      · rw [Array.getElem?_eq_none z] at hj
        cases hj
    obtain ⟨e2, h2⟩ : ∃ e2, es[j]? = some e2 := ⟨es[j]'(by omega), List.getElem?_eq_getElem (by omega)⟩
    obtain ⟨hsh, v, h3, _⟩ := ds_ent he rel h2
    rw [h1] at h3
    rw [h2, Option.some.inj h3]
    rfl
/-- list(d) -/
def rListKeys (P : Program) (w : World) : List V → Hp → VK → Prop := fun vs H Q => ∃ d es, vs = [.ref d] ∧ DAt P w H d es ∧ ∀ p, H p = none → Q (.ref p) (upd H p (.lst (es.map fun e => V.ref e.2.1)))
theorem call_list_DS (hc : X.calm = true) : CallR X (.type "list") (rListKeys X.prog X.w) := by
  intro pins s σ H vs us Q I r q
  obtain ⟨d, es, rfl, D, q⟩ := q
  obtain ⟨u, rfl, rx⟩ := r.one
  cases rx
  obtain ⟨hs, hz, ys, rel, o, en, ep, ho, hx, hdat, he, _⟩ := (I.hok d _ D.hd).1
  have hsz := ds_size he rel
  refine PySem.W.kdl_call (kdl_raw hs hx hdat) (I.ok.hd hc) ho (by omega) fun h' tk acc c kp e it => ?_
  have ea := refs_by (X := X) he rel it.1 fun j v hv => it.2 j v hv
  refine ⟨.ref s.heap.objs.size, _, I.laid (t' := tk) (o := .lst (es.map fun e => V.ref e.2.1)) kp (Nat.le_refl _) ?_, rfl, q _ (I.hok.fresh (Nat.le_refl _))⟩
  refine ⟨by rw [List.length_map]; exact hz, acc.toList, c, ?_, by rw [Array.toArray_toList]; exact e⟩
  rw [ea, show (es.map fun e => V.ref e.2.1) = (es.map fun e => e.2.1).map V.ref by rw [List.map_map]; rfl]
  exact vals_refs _
end
/-! the order of sheets -/
def encS (x : Sh) : PyData := .tuple [.tuple [.int x.1, .int x.2.1], .tuple [.int x.2.2.1, .int x.2.2.2]]
def ltS (x y : Sh) : Prop := x.1 < y.1 ∨ (x.1 = y.1 ∧ (x.2.1 < y.2.1 ∨ (x.2.1 = y.2.1 ∧ (x.2.2.1 < y.2.2.1 ∨ (x.2.2.1 = y.2.2.1 ∧ x.2.2.2 < y.2.2.2)))))
instance (x y : Sh) : Decidable (ltS x y) := by unfold ltS; infer_instance
def leS (x y : Sh) : Bool := !decide (ltS y x)
theorem lt_encS (x y : Sh) : PySem.W.dataLt (encS x) (encS y) = decide (ltS x y) := by
  unfold encS
  rw [PySem.W.dataLt_pair (by simp [PySem.W.alike, PySem.W.alikeAll]) (by simp [PySem.W.alike, PySem.W.alikeAll]), PySem.W.dataLt_ii, PySem.W.dataLt_ii]
  simp only [PyData.eqv, PyData.eqvAll, Bool.and_true, Bool.and_eq_true, beq_iff_eq]
  obtain ⟨a, b, c, e⟩ := x
  obtain ⟨a', b', c', e'⟩ := y
  dsimp only
  rw [Bool.eq_iff_iff, decide_eq_true_iff]
  unfold ltS
  dsimp only
  by_cases h1 : a = a' ∧ b = b'
  · rw [if_pos h1]
    by_cases h2 : c = c' ∧ e = e'
    · rw [if_pos h2]
      constructor
      · intro z
        cases z
      · omega
    · rw [if_neg h2, decide_eq_true_iff]
      omega
  · rw [if_neg h1, decide_eq_true_iff]
    omega
theorem le_encS {β : Type} (f : β → Sh) : PySem.W.dataLe false (fun b => encS (f b)) = fun a b => leS (f a) (f b) := by
  funext a b
  show (!PySem.W.dataLt (encS (f b)) (encS (f a))) = _
  rw [lt_encS]
  rfl
theorem lx_tr {a b c : Int} {p q r : Prop} (f : p → q → r) (h1 : a < b ∨ (a = b ∧ p)) (h2 : b < c ∨ (b = c ∧ q)) : a < c ∨ (a = c ∧ r) := by
  rcases h1 with h1 | ⟨rfl, h1⟩
  · rcases h2 with h2 | ⟨rfl, h2⟩
    · exact .inl (Int.lt_trans h1 h2)
    · exact .inl h1
  · rcases h2 with h2 | ⟨rfl, h2⟩
    · exact .inl h2
    · exact .inr ⟨rfl, f h1 h2⟩
theorem lx_tri (a b : Int) {p q e : Prop} (h : p ∨ e ∨ q) : (a < b ∨ (a = b ∧ p)) ∨ (a = b ∧ e) ∨ (b < a ∨ (b = a ∧ q)) := by
  rcases Int.lt_trichotomy a b with l | rfl | l
  · exact .inl (.inl l)
  · rcases h with h | h | h
    · exact .inl (.inr ⟨rfl, h⟩)
    · exact .inr (.inl ⟨rfl, h⟩)
    · exact .inr (.inr (.inr ⟨rfl, h⟩))
  · exact .inr (.inr (.inl l))
theorem ltS_go {x y z : Sh} (h1 : ltS x y) (h2 : ltS y z) : ltS x z := lx_tr (lx_tr (lx_tr Int.lt_trans)) h1 h2
theorem ltS_tri (x y : Sh) : ltS x y ∨ x = y ∨ ltS y x := by
  rcases lx_tri x.1 y.1 (lx_tri x.2.1 y.2.1 (lx_tri x.2.2.1 y.2.2.1 (Int.lt_trichotomy x.2.2.2 y.2.2.2))) with h | ⟨h1, h2, h3, h4⟩ | h
  · exact .inl h
  · exact .inr (.inl (Prod.ext h1 (Prod.ext h2 (Prod.ext h3 h4))))
  · exact .inr (.inr h)
theorem leS_iff {x y : Sh} : leS x y = true ↔ ¬ ltS y x := by
  unfold leS
  rw [Bool.not_eq_true', decide_eq_false_iff_not]
theorem leS_trans (x y z : Sh) (h1 : leS x y = true) (h2 : leS y z = true) : leS x z = true := by
  rw [leS_iff] at h1 h2 ⊢
  intro h
  rcases ltS_tri x y with k | rfl | k
  · exact h2 (ltS_go h k)
  · exact h2 h
  · exact h1 k
theorem leS_antisymm {x y : Sh} (h1 : leS x y = true) (h2 : leS y x = true) : x = y := by
  rw [leS_iff] at h1 h2
  rcases ltS_tri x y with k | e | k
  · exact absurd k h2
  · exact e
  · exact absurd k h1
theorem leS_total (x y : Sh) : (leS x y || leS y x) = true := by
  rw [Bool.or_eq_true, leS_iff, leS_iff]
  by_cases k : ltS y x
  · refine .inr fun h => ?_
    have a := ltS_go h k
    unfold ltS at a
    omega
  · exact .inl k
section
variable {X : Cx}
theorem sh_reads {P : Program} {w : World} {H : Hp} {h : Heap} (ok : HOk P w H h) {p : Addr} {x : Sh} (e : ShAt H p x) : Reads h (.ref p) (encS x) [] := by
  have two : ∀ {a : Addr} {y z : Int}, H a = some (.tup [.int y, .int z]) → Reads h (.ref a) (.tuple [.int y, .int z]) [] := by
    intro a y z e
    obtain ⟨_, its, r, o, ho, hc, n, hdat⟩ := ok a _ e
    cases r with
    | cons r1 t =>
      cases t with
      | cons r2 t =>
        cases t
        obtain ⟨t1, rfl⟩ := r1
        obtain ⟨t2, rfl⟩ := r2
        exact Reads.tuple ho hc hdat (.cons (as := []) (bs := []) (.int y t1) (.cons (as := []) (bs := []) (.int z t2) .nil))
  obtain ⟨u, v, h1, h2, h3⟩ := e
  obtain ⟨_, its, r, o, ho, hc, n, hdat⟩ := ok p _ h1
  cases r with
  | cons r1 t =>
    cases t with
    | cons r2 t =>
      cases t
      cases r1
      cases r2
      exact Reads.tuple ho hc hdat (.cons (as := []) (bs := []) (two h2) (.cons (as := []) (bs := []) (two h3) .nil))
theorem each_refs {β : Type} {f : β → Addr} : ∀ {vs : List Value} {bs : List β}, PySem.W.EachIs (fun v b => v = Value.ref (f b)) vs bs → vs = bs.map fun b => Value.ref (f b) := by
  intro vs bs h
  induction h with
  | nil => rfl
  | cons h t ih => rw [List.map_cons, ← ih, h]
theorem each_of {β : Type} {F : Value → β → Prop} {f : β → Addr} : ∀ {bs : List β}, (∀ b ∈ bs, F (.ref (f b)) b) → PySem.W.EachIs F (bs.map fun b => Value.ref (f b)) bs
  | [], _ => .nil
  | b :: bs, h => .cons (h b List.mem_cons_self) (each_of fun c hc => h c (List.mem_cons_of_mem _ hc))
/-- what sorting gives, behind the gathering of the items -/
theorem sort_tail {pins : List (Addr × Obj)} {σ : L2.St} {H : Hp} {s : Shared} {Q : VK} (hu : X.A.units + 64 < cLine) (I : Inv X pins σ H s) {bs : List (Sh × Addr)} (hz : bs.length ≤ sizeLine) (hk : ∀ b ∈ bs, ShAt H b.2 b.1)
    (q : ∀ p, H p = none → Q (.ref p) (upd H p (.lst ((bs.mergeSort fun a b => leS a.1 b.1).map fun b => V.ref b.2)))) {h' : Heap} {tk : Nat} (hk' : ∀ b u, s.heap.get? b = some u → h'.get? b = some u) :
    wpAny (model X.prog X.w) X.A.in1 (call (.builtin "list.sort") [.ref h'.objs.size]) (fun _ s' => EP X pins σ Q (.ref h'.objs.size) s') X.xe { s with heap := h'.push (PyProof.Rows.seqObj "list" (bs.map fun b => Value.ref b.2).toArray 0), toks := tk } := by
  have I1 : Inv X pins σ H { s with heap := h', toks := tk } := I.kept hk'
  have hoL : (h'.push (PyProof.Rows.seqObj "list" (bs.map fun b => Value.ref b.2).toArray 0)).get? h'.objs.size = some (PyProof.Rows.seqObj "list" (bs.map fun b => Value.ref b.2).toArray 0) := Heap.get?_push_size _ rfl
  refine PySem.W.list_sort_data (enc := fun b : Sh × Addr => encS b.1) (R := fun v b => v = Value.ref b.2) hoL (each_of fun b hb => rfl) (each_of fun b hb => ⟨[], ?_, by simp⟩) (PySem.W.AllAlike.of fun _ _ => by simp [PySem.W.alike, PySem.W.alikeAll, encS]) (PySem.W.Sortable.tuples fun _ => ⟨_, _, rfl⟩) hz (fun b _ => ?_) fun out hlen eo => ?_
  · exact PyProof.Rows.Reads.keeps (fun c u e => Heap.get?_push_of_some _ e) (sh_reads I1.hok (hk b hb))
  · have : (encS b.1).depth = 2 := by simp [encS, PyData.depth, PyData.depthAll]
    show X.A.units + 1 + 1 + _ < cLine
    omega
  · rw [le_encS (fun b : Sh × Addr => b.1)] at eo
    have eo := each_refs eo
    obtain ⟨e', he'⟩ := PyProof.Rows.sortedHeap_at (vs := bs.map fun b => Value.ref b.2) (out := out.toArray) hoL
    refine ⟨.ref h'.objs.size, _, I1.laid (t' := tk) (o := .lst ((bs.mergeSort fun a b => leS a.1 b.1).map fun b => V.ref b.2)) (fun b u e => ?_) (Nat.le_refl _) ⟨?_, out, e', ?_, he'⟩, rfl, q _ (I1.hok.fresh (Nat.le_refl _))⟩
    · have hb : b < h'.objs.size := Heap.lt_size e
      rw [PyProof.Rows.sortedHeap_old (Nat.ne_of_lt hb) (by rw [Heap.size_push]; exact Nat.lt_succ_of_lt hb)]
      exact Heap.get?_push_of_some _ e
    · rw [List.length_map, List.length_mergeSort]
      exact hz
    · rw [eo, show ((bs.mergeSort fun a b => leS a.1 b.1).map fun b => V.ref b.2) = ((bs.mergeSort fun a b => leS a.1 b.1).map (·.2)).map V.ref by rw [List.map_map]; rfl, show ((bs.mergeSort fun a b => leS a.1 b.1).map fun b => Value.ref b.2) = ((bs.mergeSort fun a b => leS a.1 b.1).map (·.2)).map Value.ref by rw [List.map_map]; rfl]
      exact vals_refs _
/-- sorted(d) -/
def rSortedDS (P : Program) (w : World) : List V → Hp → VK → Prop := fun vs H Q => ∃ d es, vs = [.ref d] ∧ DAt P w H d es ∧ ∀ p, H p = none → Q (.ref p) (upd H p (.lst (((es.map fun e => (e.1, e.2.1)).mergeSort fun a b => leS a.1 b.1).map fun b => V.ref b.2)))
theorem cr_sortedDS (hc : X.calm = true) (hu : X.A.units + 64 < cLine) : CallR X (.builtin "sorted") (rSortedDS X.prog X.w) := by
  intro pins s σ H vs us Q I r q
  obtain ⟨d, es, rfl, D, q⟩ := q
  obtain ⟨u, rfl, rx⟩ := r.one
  cases rx
  obtain ⟨hs, hz, ys, rel, o, en, ep, ho, hx, hdat, he, _⟩ := (I.hok d _ D.hd).1
  have hsz := ds_size he rel
  refine Calls.call_function_entry PyProof.Rows.kind_sorted PyProof.Rows.plain_sorted PyProof.Rows.entry_sorted (PyProof.Rows.args_sorted1 _) ?_
  unfold Builtin.«sorted»
  refine wpAny_bind (m := checkCount "sorted" 1 1 _) (wpAny_pure ?_)
  refine wpAny_bind (PySem.W.kdu_collect (A := X.A.in1) (kdl_raw hs hx hdat) (I.ok.hd hc) ho (by omega) fun h' tk acc kp it => ?_)
  have ea := refs_by (X := X) he rel it.1 fun j v hv => it.2 j v hv
  have eb : acc.toList = (es.map fun e => (e.1, e.2.1)).map fun b => Value.ref b.2 := by rw [ea, List.map_map, List.map_map]; rfl
  refine wpAny_bind (wpAny_newList ?_ (by rw [ea, List.length_map, List.length_map]; exact hz))
  rw [eb]
  refine wpAny_bind (wpAny_holding (wpAny_mono (sort_tail hu I (bs := es.map fun e => (e.1, e.2.1)) (by rw [List.length_map]; exact hz) (fun b hb => ?_) q (tk := tk) kp) (fun v s' z => wpAny_pure ⟨_, rfl, z⟩) fun _ _ z => z))
  obtain ⟨e, he2, rfl⟩ := List.mem_map.mp hb
  exact D.ks e he2
end
/-! ### {sheet: number for .. in ..}
The course (block, loop, turn) is that of the library's rule for dicts of plain keys, HandS.DictComp; the statement is for dicts of sheets, without tests, and the turn is a lemma of its own. -/
section
variable {X : Cx} {pins : List (Addr × Obj)} {σ : L2.St} {H : Hp} {s : Shared} {d p : Addr} {es : DEs} {x : Sh} {E : Value → Shared → Prop}
theorem ds_dictSet {n : Int} {v : Value} {Q : Unit → Shared → Prop} (hu : X.A.units + 64 < cLine) (I : Inv X pins σ H s) (D : DAt X.prog X.w H d es) (hp : ShAt H p x) (rv : RelV (.int n) v) (hl : es.length < sizeLine)
    (q : ∀ s', Inv X pins σ (upd H d (DS X.prog X.w d (putD es x p n))) s' → Q () s') : wpAny (model X.prog X.w) X.A (dictSet d (.ref p) v) Q E s := by
  obtain ⟨hs, hz, ys, r, dd⟩ := ds_of I.hok D.rd
  have room : (nestedKind X.prog X.w).room X.A := by
    show X.A.units + 8 < cLine
    omega
  refine wpAny_dictSet_heap (hsz := by rw [← Paired.length r]; exact hz) room (sh_key I.hok hp) dd fun h' dd' sb => q _ ?_
  obtain ⟨o, en, ep, k1, k2, k3, k4, _, k5⟩ := dd'
  have few := putD_len es x p n
  exact d_write I (by rw [D.hd]; exact True.intro) sb ⟨o, k1⟩ (ds_obj ⟨hs, by omega, _, drel_put r x p rv, o, en, ep, k1, k2, k3, k4, k5⟩)
end
/-- what one turn is asked: the target, the key, the value, then the dict with it -/
def TurnS (P : Program) (w : World) (g : TG) (tk tv : TE) (vs : List Nat) (σ : L2.St) (D : Addr) (N : Hp → Prop) (x : V) (H : Hp) : Prop :=
  g x (wipe σ vs) H fun τ G => wipe τ vs = wipe σ vs ∧ tk τ G fun y G1 => tv τ G1 fun z G2 => ∃ p k n es, y = .ref p ∧ z = .int n ∧ DAt P w G2 D es ∧ ShAt G2 p k ∧ es.length < sizeLine ∧ N (upd G2 D (DS P w D (putD es k p n)))
def tDcS (P : Program) (w : World) (wi : TI) (g : TG) (tk tv : TE) (vs : List Nat) : TE := fun σ H Q => wi σ H fun J G => ∀ D, G D = none → ∃ W : Nat → Nat → Hp → Prop, (∃ m, W 0 m (upd G D (DS P w D []))) ∧
  ∀ i m G1, W i m G1 → (J.stop i G1 ∧ Q (.ref D) G1) ∨ (J.go i G1 ∧ ∀ x G2, J.yld i G1 x G2 → TurnS P w g tk tv vs σ D (fun G3 => ∃ m', m' < m ∧ W (i + 1) m' G3) x G2)
/-- the iterators of a block, where nothing else is tracked at them -/
def Idle (Y : Cx) (fp : List Addr) : Prop := ∀ {τ : L2.St} {G : Hp} {s : Shared}, Inv Y [] τ G s → (∀ b ∈ fp, G b = none) → ∀ b ∈ fp, FpOk Y [] G b
section
variable {Y : Cx} {tg kx vx : Expr} {g : TG} {tk tv : TE} {J : It} {fp : List Addr} {it D : Addr} {tn : Nat → Heap → Prop} {vs : List Nat} {σ : L2.St} {N : Hp → Prop}
/-- a turn's end: the state of the next one -/
def Next (Y : Cx) (fp : List Addr) (tn : Nat → Heap → Prop) (τ : L2.St) (j : Nat) (N : Hp → Prop) (s : Shared) : Prop := ∃ G, Inv Y [] τ G s ∧ tn j s.heap ∧ (∀ b ∈ fp, G b = none) ∧ N G
theorem turn_ends {j : Nat} {h0 : Heap} {τ : L2.St} {G : Hp} {s : Shared} (T : Turn Y.prog Y.w Y.K tg J fp it tn) (st : tn j h0) (I : Inv Y ([] ++ pinsAt fp h0) τ G s) (hw : wipe τ vs = wipe σ vs) (n : N G) : Next Y fp tn (wipe σ vs) j N s := by
  have held : ∀ b ∈ fp, ∀ o, h0.get? b = some o → s.heap.get? b = some o ∧ G b = none := by
    intro b hb o e
    have z := I.pin (b, o) (List.mem_append_right _ (List.mem_append_right _ (mem_pinsAt hb e)))
    exact ⟨z.1, z.2.1⟩
  have len : (wipe σ vs).length = τ.length := by
    rw [← hw]
    exact wipe_length τ vs
  refine ⟨G, I.unpinned.weak len fun k v e => ?_, T.keep _ _ _ st fun b hb o e => (held b hb o e).1, fun b hb => ?_, n⟩
  · rw [← hw] at e
    exact (wipe_some e).1
  · obtain ⟨o, e, _⟩ := T.obj _ _ st b hb
    exact (held b hb o e).2
theorem turn_goes {i : Nat} {G : Hp} {s : Shared} (T : Turn Y.prog Y.w Y.K tg J fp it tn) (hc : Y.calm = true) (hu : Y.A.units + 64 < cLine) (hx : Y.xe = fun _ _ => False) (idle : Idle Y fp) (pg : PG Y tg g) (pk : PE Y kx tk) (pv : PE Y vx tv)
    (I : Inv Y [] (wipe σ vs) G s) (st : tn i s.heap) (nf : ∀ b ∈ fp, G b = none) (go : J.go i G) (turn : ∀ x G2, J.yld i G x G2 → TurnS Y.prog Y.w g tk tv vs σ D N x G2) :
    wpAny (model Y.prog Y.w) Y.A (pyNext (.ref it)) (fun r s1 => ∃ u, r = some u ∧ wpAny (model Y.prog Y.w) Y.A (letOwnedTupleGo tg (.ref it) u) (fun _ s2 => wpAny (model Y.prog Y.w) Y.A (assign tg Y.env u) (fun _ s3 =>
      wpAny (model Y.prog Y.w) Y.A (eval kx Y.env) (fun a s4 => wpAny (model Y.prog Y.w) Y.A (eval vx Y.env) (fun b s5 => wpAny (model Y.prog Y.w) Y.A (dictSet D a b) (fun _ s6 => Next Y fp tn (wipe σ vs) (i + 1) N s6) Y.xe s5) Y.xe s4) Y.xe s3) Y.xe s2) Y.xe s1) Y.xe s := by
  refine thn (T.item Y rfl rfl rfl hc i [] s _ G Y.xe I (idle I nf) st go) fun r s1 ⟨u, hr, h1⟩ => ⟨u, hr, thn h1 fun _ s2 zz => ?_⟩
  obtain ⟨x, G2, I2, ru, yl, st2, nf2⟩ := zz
  have I2p := I2.pinned (idle I2 nf2) (T.obj _ _ st2)
  refine thn (pg.run _ s2 _ G2 x u _ I2p ru (turn x G2 yl)) fun _ s3 ⟨τ, G3, I3, hw, q3⟩ => ?_
  refine thn (pk.run _ s3 τ G3 _ I3 q3) fun a s4 ⟨y, G4, I4, ry, q4⟩ => thn (pv.run _ s4 τ G4 _ I4 q4) fun b s5 zz => ?_
  obtain ⟨z, G5, I5, rz, p, k, n, es, ey, ez, DA, hp, hl, q5⟩ := zz
  subst ey ez
  cases ry
  exact ds_dictSet hu I5 DA hp rz hl fun s6 I6 => turn_ends T st2 I6 hw q5
end
section
variable {X : Cx}
theorem blk_idle {s0 : Shared} {G0 : Hp} {scope : Scope} {ce : Env} {fp : List Addr} : Idle (X.blk s0 G0 scope ce fp) fp := by
  intro τ G s I nf b hb
  have own := I.ok.exf b hb
  exact ⟨nf b hb, own.1, I.ok.exfs b hb, .inl hb, fun y c e => own.2 y c e, fun q hq => by cases hq⟩
theorem pe_dcS {kx vx tg iter : Expr} {scope : Scope} {own : List (Str × Nat)} {pos : Pos} {wi : TI} {g : TG} {tk tv : TE} (hc : X.calm = true) (hu : X.A.units + 64 < cLine) (hN : X.N.Nodup) (hi : PI X tg iter wi) (ok : BlkOk X.N X.env.scope scope own)
    (hg : ∀ (s : Shared) (G : Hp) (C : Addr) (cl : List (Str × Addr)) (fp : List Addr), PG (X.blk s G scope (compEnvC scope cl C X.env) fp) tg g) (hk : ∀ (s : Shared) (G : Hp) (C : Addr) (cl : List (Str × Addr)) (fp : List Addr), PE (X.blk s G scope (compEnvC scope cl C X.env) fp) kx tk)
    (hv : ∀ (s : Shared) (G : Hp) (C : Addr) (cl : List (Str × Addr)) (fp : List Addr), PE (X.blk s G scope (compEnvC scope cl C X.env) fp) vx tv) (hf : ∀ y, foldedSetIterable iter X.env y = pure y := by intro _; rfl) :
    PE X (.DictComp kx vx [⟨tg, iter, [], 0⟩] scope pos) (tDcS X.prog X.w wi g tk tv (own.map (·.2))) := by
  refine ⟨fun pins s σ H Q I h => ?_⟩
  rw [arm_eval_DictComp]
  have cells : ∀ y ∈ scope.names, y.2 = .free → ∃ c, X.env.cells.lookup y.1 = some c := fun y hy e => (ok.free y hy e).elim (fun z => I.ok.has _ (.inl z)) fun z => I.ok.has _ (.inr z)
  refine wpAny_comprehension_free (use := none) rfl hf (closure_ok cells) ok.kind (fun y hy e => (ok.uniq y hy).trans (congrArg some e)) (thn (hi.run pins s σ H _ I h) fun _ s1 h1 => thn h1 fun _ s2 h2 => ?_)
  obtain ⟨it, fp, tn, J, G, rfl, I2, T, st, fpo, q⟩ := h2
  refine wpAny_newObj_type (newEnv_comp ?_)
  -- the new dict, tracked
  obtain ⟨W, ⟨m0, w0⟩, turn⟩ := q s2.heap.objs.size (I2.hok.fresh (Nat.le_refl _))
  have I3 : Inv X pins σ (upd G s2.heap.objs.size (DS X.prog X.w s2.heap.objs.size [])) { s2 with heap := s2.heap.push { cls := .type "dict", data := .dict #[] } } := by
    refine I2.laid (t' := s2.toks) (fun _ _ e => Heap.get?_push_of_some _ e) (Nat.le_refl _) (ds_obj ⟨?_, Nat.zero_le _, [], .nil, _, #[], 0, Heap.get?_push_size _ rfl, ⟨rfl, rfl, rfl⟩, rfl, rfl, List.nodup_nil⟩)
    exact beq_eq_false_iff_ne.mpr (Nat.ne_of_gt I2.big)
  have low : ∀ b ∈ fp, b < s2.heap.objs.size := fun b hb => let ⟨_, e, _⟩ := T.obj _ _ st b hb; Heap.lt_size e
  have st3 : tn 0 (s2.heap.push { cls := .type "dict", data := .dict #[] }) := T.keep _ _ _ st fun _ _ _ e => Heap.get?_push_of_some _ e
  generalize hD : s2.heap.objs.size = D at I3 w0 turn low ⊢
  have fp3 : ∀ b ∈ fp, FpOk X pins (upd G D (DS X.prog X.w D [])) b := fun b hb => ⟨(upd_ne (Nat.ne_of_lt (low b hb))).trans (fpo b hb).1, (fpo b hb).2⟩
  generalize upd G D (DS X.prog X.w D []) = G3 at I3 w0 fp3
  have big : D < (s2.heap.push { cls := .type "dict", data := .dict #[] }).objs.size := by
    rw [Heap.size_push, hD]
    exact Nat.lt_succ_self _
  generalize hs3 : ({ s2 with heap := s2.heap.push { cls := .type "dict", data := .dict #[] } } : Shared) = s3 at I3 ⊢
  have st3 : tn 0 s3.heap := by rw [← hs3]; exact st3
  have big : D < s3.heap.objs.size := by rw [← hs3]; exact big
  have I4 := block_start I3 ok hN fun b hb => ⟨fp3 b hb, Nat.lt_trans (low b hb) big⟩
  have pg := hg s3 G3 s3.heap.objs.size (cellsFrom (s3.heap.objs.size + 1) scope.names (cloFrom X.env.cells scope.names [])) fp
  have pk := hk s3 G3 s3.heap.objs.size (cellsFrom (s3.heap.objs.size + 1) scope.names (cloFrom X.env.cells scope.names [])) fp
  have pv := hv s3 G3 s3.heap.objs.size (cellsFrom (s3.heap.objs.size + 1) scope.names (cloFrom X.env.cells scope.names [])) fp
  have st4 : tn 0 (pushCells (s3.heap.push { cls := .type "dict", data := .dict #[] }) scope.names) := T.keep _ _ _ st3 fun _ _ _ e => pushCells_keeps _ _ _ _ (Heap.get?_push_of_some _ e)
  have locs : (compEnvC scope (cellsFrom (s3.heap.objs.size + 1) scope.names (cloFrom X.env.cells scope.names [])) s3.heap.objs.size X.env).locals = s3.heap.objs.size := rfl
  show codeAny (model X.prog X.w) X.A (.compStart _ 0 (.ref it) (.ref D) (compEnvC scope (cellsFrom (s3.heap.objs.size + 1) scope.names (cloFrom X.env.cells scope.names [])) s3.heap.objs.size X.env)) (compPost (model X.prog X.w) X.A X.xe none (EP X pins σ Q) (.ref D) s3.heap.objs.size) _
  generalize compEnvC scope (cellsFrom (s3.heap.objs.size + 1) scope.names (cloFrom X.env.cells scope.names [])) s3.heap.objs.size X.env = ce at I4 pg pk pv locs ⊢
  -- the loop
  have goes : codeAny (model X.prog X.w) X.A (.compLoop (.DictComp kx vx [⟨tg, iter, [], 0⟩] scope pos) 0 (.ref it) (.ref D) ce) (compPost (model X.prog X.w) X.A X.xe none (EP X pins σ Q) (.ref D) s3.heap.objs.size) { s3 with heap := pushCells (s3.heap.push { cls := .type "dict", data := .dict #[] }) scope.names } := by
    refine compLoop_anyD (fun n s' => ∃ i, Next (X.blk s3 G3 scope ce fp) fp tn (wipe σ (own.map (·.2))) i (W i n) s') ?_ m0 ⟨0, G3, I4, st4, fun b hb => (fp3 b hb).1, w0⟩
    rintro n s5 ⟨i, G5, I5, st5, nf5, w5⟩
    rcases turn i n G5 w5 with ⟨stop, fin⟩ | ⟨go, step⟩
    · refine thnF (T.done (X.blk s3 G3 scope ce fp) rfl rfl rfl hc i [] s5 _ G5 (fun _ _ => False) I5 (blk_idle I5 nf5) st5 stop) fun r s6 ⟨hr, I6⟩ => ?_
      subst hr
      have back : Inv X pins σ G5 s6 := I3.call' (ch := fp) I6.os I6.base I6.hok I6.bare fun b hb => by
        obtain ⟨_, f1, _, f3, f4, f5⟩ := fp3 b hb
        exact ⟨f3, f1, f4, f5⟩
      have free : G5 s3.heap.objs.size = none := by
        rw [← locs]
        exact I6.free
      obtain ⟨mm, ns, _⟩ := I6.loc
      have ns : s6.heap.Ns s3.heap.objs.size mm := by
        rw [← locs]
        exact ns
      obtain ⟨f0, f1, _, f3, f4, f5⟩ := I3.fpOk (H' := G5) (Nat.le_refl _) free
      exact ⟨mm, ns, fun h' sb => ⟨.ref D, G5, back.turned (t' := s6.toks) (fun b o hb e => (sb.2 b hb).trans e) f0 f1 f3 f4 f5, rfl, fin⟩⟩
    · refine thnF (turn_goes (Y := X.blk s3 G3 scope ce fp) (N := fun G => ∃ m', m' < n ∧ W (i + 1) m' G) T hc hu rfl blk_idle pg pk pv I5 st5 nf5 go step) fun r s6 ⟨u, hr, h6⟩ => ?_
      subst hr
      refine thnF h6 fun _ s7 h7 => thnF h7 fun _ s8 h8 => ?_
      refine wpAny_pure ?_
      rw [if_pos rfl]
      refine thnF h8 fun a s9 h9 => thnF h9 fun b s10 h10 => thnF h10 fun _ s11 ⟨G', I', st', nf', m', hm, w'⟩ => ⟨m', hm, i + 1, G', I', st', nf', w'⟩
  exact codeAny_compStart_dict goes (T.self X.A 0 _ _ _ st4 goes)
end
/-! ### entries: what is put, sums, the sorted ones -/
def keysD (es : DEs) : List Sh := es.map (·.1)
theorem valD_cons (e : Sh × Addr × Int) (es : DEs) (y : Sh) : valD (e :: es) y = if e.1 = y then some e.2.2 else valD es y := by
  unfold valD
  by_cases h : e.1 = y
  · simp [List.find?_cons, h]
  · simp [List.find?_cons, h]
theorem valD_none {es : DEs} {y : Sh} : valD es y = none ↔ y ∉ keysD es := by
  induction es with
  | nil => simp [valD, keysD]
  | cons e es ih =>
    rw [valD_cons]
    show _ ↔ y ∉ e.1 :: keysD es
    rw [List.mem_cons, not_or, ← ih]
    by_cases h : e.1 = y
    · simp [h]
    · rw [if_neg h]
      exact ⟨fun z => ⟨fun q => h q.symm, z⟩, fun z => z.2⟩
theorem valD_mem {es : DEs} (n : (keysD es).Nodup) : ∀ {e : Sh × Addr × Int}, e ∈ es → valD es e.1 = some e.2.2 := by
  induction es with
  | nil => intro e h; cases h
  | cons f es ih =>
    intro e h
    have n' : f.1 ∉ keysD es ∧ (keysD es).Nodup := List.nodup_cons.mp n
    rw [valD_cons]
    rcases List.mem_cons.mp h with rfl | h
    · rw [if_pos rfl]
    · rw [if_neg fun z => n'.1 (by rw [z]; exact List.mem_map.mpr ⟨e, h, rfl⟩)]
      exact ih n'.2 h
theorem valD_some {es : DEs} {y : Sh} {n : Int} (h : valD es y = some n) : ∃ e ∈ es, e.1 = y ∧ e.2.2 = n := by
  induction es with
  | nil => cases h
  | cons e es ih =>
    rw [valD_cons] at h
    by_cases z : e.1 = y
    · rw [if_pos z] at h
      exact ⟨e, List.mem_cons_self, z, Option.some.inj h⟩
    · rw [if_neg z] at h
      obtain ⟨f, hf, r⟩ := ih h
      exact ⟨f, List.mem_cons_of_mem _ hf, r⟩
theorem keysD_put (es : DEs) (x : Sh) (p : Addr) (n : Int) : keysD (putD es x p n) = if (valD es x).isSome then keysD es else keysD es ++ [x] := by
  unfold putD
  split
  · unfold keysD
    rw [List.map_map]
    refine List.map_congr_left fun e _ => ?_
    show (if e.1 = x then (e.1, e.2.1, n) else e).1 = e.1
    split <;> rfl
  · unfold keysD
    rw [List.map_append]
    rfl
theorem put_nodup {es : DEs} (h : (keysD es).Nodup) (x : Sh) (p : Addr) (n : Int) : (keysD (putD es x p n)).Nodup := by
  rw [keysD_put]
  cases e : valD es x with
  | some v => exact h
  | none =>
    have := valD_none.mp e
    show (keysD es ++ [x]).Nodup
    rw [List.nodup_append]
    refine ⟨h, by simp, fun a ha b hb => ?_⟩
    rw [List.mem_singleton.mp hb]
    intro z
    rw [z] at ha
    exact this ha
theorem valD_repl (x y : Sh) (n : Int) : ∀ es : DEs, valD (es.map fun e => if e.1 = x then (e.1, e.2.1, n) else e) y = if y = x then (valD es x).map (fun _ => n) else valD es y
  | [] => by simp [valD]
  | e :: es => by
    rw [List.map_cons, valD_cons, valD_repl x y n es, valD_cons, valD_cons]
    by_cases h1 : e.1 = x
    · by_cases h2 : y = x
      · simp [h1, h2]
      · have h3 : ¬ x = y := fun z => h2 z.symm
        simp [h1, h2, h3]
    · by_cases h2 : y = x
      · subst h2
        simp [h1]
      · simp [h1, h2]
theorem valD_app (es fs : DEs) (y : Sh) : valD (es ++ fs) y = (valD es y).or (valD fs y) := by
  induction es with
  | nil => rfl
  | cons e es ih =>
    rw [List.cons_append, valD_cons, valD_cons, ih]
    split <;> rfl
theorem valD_put (es : DEs) (x : Sh) (p : Addr) (n : Int) (y : Sh) : valD (putD es x p n) y = if y = x then some n else valD es y := by
  unfold putD
  cases e : valD es x with
  | some v =>
    rw [if_pos (show (some v : Option Int).isSome = true from rfl), valD_repl, e]
    rfl
  | none =>
    rw [if_neg (show ¬ (none : Option Int).isSome = true by simp), valD_app, valD_cons]
    by_cases h : y = x
    · subst h
      rw [e, if_pos rfl, if_pos rfl]
      rfl
    · rw [if_neg h, if_neg fun z => h z.symm]
      show (valD es y).or none = _
      simp
/-- the sum of a measure, each times its number -/
def wsum (φ : Sh → Int) (es : DEs) : Int := (es.map fun e => e.2.2 * φ e.1).sum
theorem wsum_cons (φ : Sh → Int) (e : Sh × Addr × Int) (es : DEs) : wsum φ (e :: es) = e.2.2 * φ e.1 + wsum φ es := by
  unfold wsum
  rw [List.map_cons, List.sum_cons]
theorem wsum_app (φ : Sh → Int) : ∀ es fs : DEs, wsum φ (es ++ fs) = wsum φ es + wsum φ fs
  | [], fs => by simp [wsum]
  | e :: es, fs => by
    rw [List.cons_append, wsum_cons, wsum_cons, wsum_app φ es fs]
    omega
theorem wsum_perm {φ : Sh → Int} {es fs : DEs} (h : es.Perm fs) : wsum φ es = wsum φ fs := by
  induction h with
  | nil => rfl
  | cons x _ ih => rw [wsum_cons, wsum_cons, ih]
  | swap x y l => rw [wsum_cons, wsum_cons, wsum_cons, wsum_cons]; omega
  | trans _ _ a b => exact a.trans b
theorem wsum_repl {φ : Sh → Int} {x : Sh} {n v : Int} : ∀ {es : DEs}, (keysD es).Nodup → valD es x = some v → wsum φ (es.map fun e => if e.1 = x then (e.1, e.2.1, n) else e) = wsum φ es + (n - v) * φ x
  | [], _, h => by cases h
  | e :: es, nd, h => by
    have nd' : e.1 ∉ keysD es ∧ (keysD es).Nodup := List.nodup_cons.mp nd
    rw [List.map_cons, wsum_cons, wsum_cons]
    rw [valD_cons] at h
    by_cases z : e.1 = x
    · rw [if_pos z] at h
      have h := Option.some.inj h
      have stay : (es.map fun f => if f.1 = x then (f.1, f.2.1, n) else f) = es := by
        rw [List.map_congr_left (g := id) fun f hf => ?_, List.map_id]
        show (if f.1 = x then (f.1, f.2.1, n) else f) = f
        rw [if_neg fun q => nd'.1 (List.mem_map.mpr ⟨f, hf, q.trans z.symm⟩)]
      rw [stay, if_pos z]
      show n * φ e.1 + _ = _
      rw [z, h]
      grind
    · rw [if_neg z] at h
      rw [wsum_repl nd'.2 h, if_neg z]
      omega
theorem wsum_put {φ : Sh → Int} {es : DEs} (nd : (keysD es).Nodup) (x : Sh) (p : Addr) (c : Int) : wsum φ (putD es x p ((valD es x).getD 0 + c)) = wsum φ es + c * φ x := by
  unfold putD
  cases e : valD es x with
  | some v =>
    rw [if_pos (show (some v : Option Int).isSome = true from rfl), wsum_repl nd e]
    show _ + (v + c - v) * φ x = _
    rw [show v + c - v = c by omega]
  | none =>
    rw [if_neg (show ¬ (none : Option Int).isSome = true by simp), wsum_app, wsum_cons]
    show _ + ((0 + c) * φ x + 0) = _
    rw [Int.zero_add, Int.add_zero]
/-- the entries in ascending order -/
def sortK (es : DEs) : List (Sh × Addr) := (es.map fun e => (e.1, e.2.1)).mergeSort fun a b => leS a.1 b.1
def sortE (es : DEs) : DEs := (sortK es).map fun b => (b.1, b.2, (valD es b.1).getD 0)
theorem sortK_perm (es : DEs) : (sortK es).Perm (es.map fun e => (e.1, e.2.1)) := List.mergeSort_perm _ _
theorem sortE_perm {es : DEs} (nd : (keysD es).Nodup) : (sortE es).Perm es := by
  refine ((sortK_perm es).map _).trans ?_
  rw [List.map_map, List.map_congr_left (g := id) fun e he => ?_, List.map_id]
  show (e.1, e.2.1, (valD es e.1).getD 0) = e
  rw [valD_mem nd he]
  rfl
theorem keys_perm {es fs : DEs} (h : es.Perm fs) : (keysD es).Perm (keysD fs) := h.map _
theorem sortE_keys {es : DEs} (nd : (keysD es).Nodup) : (keysD (sortE es)).Nodup := (keys_perm (sortE_perm nd)).nodup_iff.mpr nd
theorem ltS_of {x y : Sh} (h : leS x y = true) (n : x ≠ y) : ltS x y := by
  by_cases z : ltS x y
  · exact z
  · refine absurd (leS_antisymm h ?_) n
    unfold leS
    rw [decide_eq_false z]
    rfl
theorem sortE_up {es : DEs} (nd : (keysD es).Nodup) : (sortE es).Pairwise fun a b => ltS a.1 b.1 := by
  have h1 : (sortK es).Pairwise fun a b => leS a.1 b.1 = true := List.pairwise_mergeSort (fun a b c => leS_trans a.1 b.1 c.1) (fun a b => leS_total a.1 b.1) _
  have h2 : ((sortK es).map (·.1)).Nodup := by
    have := sortE_keys nd
    unfold keysD sortE at this
    rw [List.map_map] at this
    exact this
  have h3 : (sortK es).Pairwise fun a b => a.1 ≠ b.1 := List.pairwise_map.mp h2
  unfold sortE
  rw [List.pairwise_map]
  exact (h1.and h3).imp fun h => ltS_of h.1 h.2
theorem valD_perm {es fs : DEs} (nd : (keysD es).Nodup) (h : es.Perm fs) (y : Sh) : valD es y = valD fs y := by
  have nd' : (keysD fs).Nodup := (keys_perm h).nodup_iff.mp nd
  cases e : valD es y with
  | some n =>
    obtain ⟨f, hf, rfl, rfl⟩ := valD_some e
    exact (valD_mem nd' (h.mem_iff.mp hf)).symm
  | none =>
    refine (valD_none.mpr fun z => valD_none.mp e ?_).symm
    exact (keys_perm h).mem_iff.mpr z
/-! ### for sheet in d, while d is locked -/
def ItS (P : Program) (w : World) (d : Addr) (o : Obj) (es : DEs) : It where
  go := fun i H => DRd P w H d es ∧ H d = some (.frz o (DS P w d es)) ∧ i < es.length
  yld := fun i H x H' => H' = H ∧ ∃ e, es[i]? = some e ∧ x = .ref e.2.1
  stop := fun i H => H d = some (.frz o (DS P w d es)) ∧ es.length ≤ i
/-- what the lock tells: the very object, and its entries -/
theorem locked {P : Program} {w : World} {H : Hp} {h : Heap} {d : Addr} {o : Obj} {es : DEs} (ok : HOk P w H h) (e : H d = some (.frz o (DS P w d es))) :
    (d == sysModules) = false ∧ h.get? d = some o ∧ o.ExactDict ∧ ∃ en ep, o.data = .dict en ep ∧ en.size = es.length ∧ ∀ (j : Nat) (x : Sh × Addr × Int), es[j]? = some x → ∃ z : DictEntry, en[j]? = some z ∧ z.key = .ref x.2.1 := by
  obtain ⟨ho, ⟨lo, _, xs, r, o', en, ep, ho', hx, hdat, he, _⟩, _⟩ := ok d _ e
  obtain rfl : o = o' := Option.some.inj (ho.symm.trans ho')
  refine ⟨lo, ho, hx, en, ep, hdat, ds_size he r, fun j x hj => ?_⟩
  obtain ⟨hs, v, hz, _⟩ := ds_ent he r hj
  exact ⟨_, hz, rfl⟩
section
variable {X : Cx}
theorem turnDS {P : Program} {w : World} {K : PySem.W.Frag} {tg : Expr} {d it : Addr} {o : Obj} {es : DEs} {en : Array DictEntry} {ep : Nat} (ne : it ≠ d) (hdat : o.data = .dict en ep) (hsz : en.size = es.length)
    (hk : ∀ (j : Nat) (x : Sh × Addr × Int), es[j]? = some x → ∃ z : DictEntry, en[j]? = some z ∧ z.key = .ref x.2.1) : Turn P w K tg (ItS P w d o es) [it] it (fun i h => h.IsKeyIter it d i en.size ep) where
  mem := List.mem_cons_self
  obj := fun i h st b hb => by
    rw [List.mem_singleton.mp hb]
    obtain ⟨oi, e, _, dd⟩ := st
    exact ⟨oi, e, fun v z => by rw [dd] at z; cases z⟩
  keep := fun i h h' st k => st.at fun oi e => k it List.mem_cons_self oi e
  self := fun A i s Q E st q => wpAny_pyIter_keyiter st q
  item := by
    intro Y hP hw hK hc i pins s σ H E I hf st go
    subst hP hw hK
    obtain ⟨D, hd, hi⟩ := go
    obtain ⟨x, hx⟩ : ∃ x, es[i]? = some x := ⟨es[i], List.getElem?_eq_getElem hi⟩
    obtain ⟨z, hz, hkey⟩ := hk i x hx
    have od := (locked I.hok hd).2.1
    refine next_key_item st od hdat rfl hz fun h' st' sb => ⟨_, rfl, ?_⟩
    obtain ⟨f0, f1, _, f3, f4, f5⟩ := hf it List.mem_cons_self
    have I' : Inv Y pins σ H { s with heap := h' } := I.turned (t' := s.toks) (fun b ob hb e => (sb.2 b hb).trans e) f0 f1 f3 f4 f5
    obtain ⟨oi, e, ci, di⟩ := id st'
    refine go_of (s := { s with heap := h' }) e ci di (by decide) ⟨.ref x.2.1, H, I', hkey, ⟨rfl, x, hx, rfl⟩, st', fun b hb => ?_⟩
    rw [List.mem_singleton.mp hb]
    exact f0
  done := by
    intro Y hP hw hK hc i pins s σ H E I hf st stop
    subst hP hw hK
    have od := (locked I.hok stop.1).2.1
    have hge := stop.2
    refine next_key_end (I.ok.hd hc) st od hdat rfl (by omega) fun h' sb => ⟨rfl, ?_⟩
    obtain ⟨f0, f1, _, f3, f4, f5⟩ := hf it List.mem_cons_self
    exact I.turned (t' := s.toks) (fun b ob hb e => sb b ob hb e) f0 f1 f3 f4 f5
def iKeysDS (P : Program) (w : World) (td : TE) : TI := fun σ H R => td σ H fun v G => ∃ d o es, v = .ref d ∧ G d = some (.frz o (DS P w d es)) ∧ R (ItS P w d o es) G
theorem pi_keysDS {tg e : Expr} {td : TE} (he : PE X e td) : PI X tg e (iKeysDS X.prog X.w td) := by
  refine ⟨fun pins s σ H R I h => thn (he.run pins s σ H _ I h) fun u s1 ⟨v, G, I1, rv, d, o, es, ev, hd, q⟩ => ?_⟩
  subst ev
  cases rv
  obtain ⟨lo, ho, hx, en, ep, hdat, hsz, hk⟩ := locked I1.hok hd
  refine iter_keys lo ho hx hdat ?_
  have ne : s1.heap.objs.size ≠ d := Nat.ne_of_gt (Heap.lt_size ho)
  refine ⟨s1.heap.objs.size, [s1.heap.objs.size], _, _, G, rfl, I1.kept (t' := s1.toks) fun b ob z => Heap.get?_push_of_some _ z, turnDS ne hdat hsz hk, ⟨_, Heap.get?_push_size _ rfl, rfl, rfl⟩, fun b hb => ?_, q⟩
  rw [List.mem_singleton.mp hb]
  exact I1.fpOk (Nat.le_refl _) (I1.hok.fresh (Nat.le_refl _))
/-- a for over it -/
theorem for_keysDS {P : Program} {w : World} {d : Addr} {o : Obj} {es : DEs} {g : TG} {tb : TS} {D : Ends} {σ : L2.St} {H : Hp} (Pv : Nat → L2.St → Hp → Prop) (h0 : Pv 0 σ H) (hl : ∀ i τ G, i ≤ es.length → Pv i τ G → G d = some (.frz o (DS P w d es)) ∧ ∀ x ∈ es, ShAt G x.2.1 x.1)
    (turn : ∀ i x τ G, es[i]? = some x → Pv i τ G → g (.ref x.2.1) τ G fun τ2 G2 => tb { D with nx := Pv (i + 1), ct := Pv (i + 1), bk := D.nx } τ2 G2) (fin : ∀ τ G, Pv es.length τ G → D.nx τ G) :
    ∃ W : Nat → Nat → L2.St → Hp → Prop, (∃ m, W 0 m σ H) ∧ ∀ i m τ G, W i m τ G → ((ItS P w d o es).stop i G ∧ D.nx τ G) ∨ ((ItS P w d o es).go i G ∧ ∃ N : L2.St → Hp → Prop, (∀ τ' G', N τ' G' → ∃ m', m' < m ∧ W (i + 1) m' τ' G') ∧
      ∀ x G', (ItS P w d o es).yld i G x G' → g x τ G' fun τ2 G2 => tb { D with nx := N, ct := N, bk := D.nx } τ2 G2) := by
  refine ⟨fun i m τ G => m = es.length - i ∧ i ≤ es.length ∧ Pv i τ G, ⟨_, rfl, Nat.zero_le _, h0⟩, ?_⟩
  rintro i m τ G ⟨rfl, hi, pv⟩
  obtain ⟨hd, ks⟩ := hl i τ G hi pv
  rcases Nat.lt_or_ge i es.length with lt | ge
  · refine .inr ⟨⟨⟨.inr ⟨o, hd⟩, ks⟩, hd, lt⟩, Pv (i + 1), fun τ' G' z => ⟨_, Nat.sub_lt_sub_left lt (Nat.lt_succ_self i), rfl, lt, z⟩, ?_⟩
    rintro x G' ⟨rfl, e, he, rfl⟩
    exact turn i e τ _ he pv
  · obtain rfl : i = es.length := Nat.le_antisymm hi ge
    exact .inl ⟨⟨hd, Nat.le_refl _⟩, fin τ G pv⟩
/-- sorted(xs), a list of sheets -/
def rSortedLS : List V → Hp → VK → Prop := fun vs H Q => ∃ (a : Addr) (bs : List (Sh × Addr)), vs = [.ref a] ∧ H a = some (.lst (bs.map fun b : Sh × Addr => V.ref b.2)) ∧ (∀ b ∈ bs, ShAt H b.2 b.1) ∧ ∀ p, H p = none → Q (.ref p) (upd H p (.lst ((bs.mergeSort fun a b => leS a.1 b.1).map fun b => V.ref b.2)))
theorem cr_sortedLS (hu : X.A.units + 64 < cLine) : CallR X (.builtin "sorted") rSortedLS := by
  intro pins s σ H vs us Q I r q
  obtain ⟨a, bs, rfl, ha, hk, q⟩ := q
  obtain ⟨u, rfl, rx⟩ := r.one
  cases rx
  obtain ⟨hz, its, c, rv, ho⟩ := I.hok a _ ha
  rw [List.length_map] at hz
  have ei : its = bs.map fun b => Value.ref b.2 := by
    have e : ((bs.map fun b : Sh × Addr => b.2).map V.ref) = bs.map fun b => V.ref b.2 := by rw [List.map_map]; rfl
    rw [← e] at rv
    rw [refs_at rv, List.map_map]
    rfl
  subst ei
  have hl : s.heap.IsList a (bs.map fun b => Value.ref b.2).toArray := PySem.IsL.isList ho
  refine PySem.W.sorted_data (enc := fun b : Sh × Addr => encS b.1) (R := fun v b => v = Value.ref b.2) hl (each_of fun b hb => rfl) (each_of fun b hb => ⟨[], sh_reads I.hok (hk b hb)⟩) (PySem.W.AllAlike.of fun _ _ => by simp [PySem.W.alike, PySem.W.alikeAll, encS]) (PySem.W.Sortable.tuples fun _ => ⟨_, _, rfl⟩) hz (fun b _ => ?_) fun out hlen eo => ?_
  · have : (encS b.1).depth = 2 := by simp [encS, PyData.depth, PyData.depthAll]
    omega
  · rw [le_encS (fun b : Sh × Addr => b.1)] at eo
    have eo := each_refs eo
    obtain ⟨c', hat⟩ := PyProof.Rows.sortedAll_at s.heap (bs.map fun b => Value.ref b.2) out.toArray
    refine ⟨.ref (s.heap.objs.size + 1), _, I.laid (t' := s.toks) (o := .lst ((bs.mergeSort fun a b => leS a.1 b.1).map fun b => V.ref b.2)) ?_ (Nat.le_succ _) ?_, rfl, q _ (I.hok.fresh (Nat.le_succ _))⟩
    · intro b u e
      exact PyProof.Rows.sortedAll_old e
    · refine ⟨by rw [List.length_map, List.length_mergeSort]; exact hz, out, c', ?_, hat⟩
      rw [eo, show ((bs.mergeSort fun a b => leS a.1 b.1).map fun b => V.ref b.2) = ((bs.mergeSort fun a b => leS a.1 b.1).map (·.2)).map V.ref by rw [List.map_map]; rfl, show ((bs.mergeSort fun a b => leS a.1 b.1).map fun b => Value.ref b.2) = ((bs.mergeSort fun a b => leS a.1 b.1).map (·.2)).map Value.ref by rw [List.map_map]; rfl]
      exact vals_refs _
end
/-- a comprehension of sheets over a list that stays -/
theorem dcS_list {P : Program} {w : World} {K : PySem.W.Frag} {a : Addr} {xs : List V} {g : TG} {tk tv : TE} {vs : List Nat} {σ : L2.St} {D : Addr} {G0 : Hp} {Qd : Hp → Prop} (Pv : Nat → Hp → Prop) (h0 : Pv 0 G0) (hl : ∀ i G, i ≤ xs.length → Pv i G → SqL K G a xs)
    (turn : ∀ i x G, xs[i]? = some x → Pv i G → TurnS P w g tk tv vs σ D (Pv (i + 1)) x G) (fin : ∀ G, Pv xs.length G → Qd G) (mono : ∀ (N N' : Hp → Prop) x G, (∀ G', N G' → N' G') → TurnS P w g tk tv vs σ D N x G → TurnS P w g tk tv vs σ D N' x G) :
    ∃ W : Nat → Nat → Hp → Prop, (∃ m, W 0 m G0) ∧ ∀ i m G, W i m G → ((Itl K a).stop i G ∧ Qd G) ∨ ((Itl K a).go i G ∧ ∀ x G2, (Itl K a).yld i G x G2 → TurnS P w g tk tv vs σ D (fun G3 => ∃ m', m' < m ∧ W (i + 1) m' G3) x G2) := by
  refine ⟨fun i m G => m = xs.length - i ∧ i ≤ xs.length ∧ Pv i G, ⟨_, rfl, Nat.zero_le _, h0⟩, ?_⟩
  rintro i m G ⟨rfl, hi, pv⟩
  have sq := hl i G hi pv
  rcases Nat.lt_or_ge i xs.length with lt | ge
  · refine .inr ⟨⟨xs, xs[i], sq, List.getElem?_eq_getElem lt⟩, ?_⟩
    rintro x G2 ⟨rfl, at_⟩
    exact mono _ _ _ _ (fun G' z => ⟨_, Nat.sub_lt_sub_left lt (Nat.lt_succ_self i), rfl, lt, z⟩) (turn i x _ (at_ xs sq) pv)
  · obtain rfl : i = xs.length := Nat.le_antisymm hi ge
    exact .inl ⟨⟨xs, sq, Nat.le_refl _⟩, fin G pv⟩
/-! ### enumerate of an empty tuple; a walk of one kind or another -/
section
variable {X : Cx}
/-- enumerate(v), where iter(v) is told by B -/
theorem enum_new {P : Program} {w : World} {A : Around} {E : Value → Shared → Prop} {s : Shared} {v : Value} {Q : Fin → Shared → Prop} (h : wpAny (model P w) A (pyIter v) (fun it s1 => wpAny (model P w) A (newObj (.type "enumerate") (.fields #[.none, .bool false, it, rawInt 0, .none, .none])) (fun e s2 => Q (.done (.ret e)) s2) E s1) E s) :
    wpAny (model P w) A (Builtin.«enumerate.__new__» ⟨[.type "enumerate", v], []⟩) Q E s := by
  have cls : Builtin.SmallTypes.newClass "enumerate" ⟨[.type "enumerate", v], []⟩ = pure (.type "enumerate", [v]) := by
    simp only [Builtin.SmallTypes.newClass, PySem.sub_enumerate]
    rfl
  unfold Builtin.«enumerate.__new__»
  refine wpAny_bind (wpAny_of_eq cls ?_)
  show wpAny _ _ (Builtin.SmallTypes.calledThroughType (.type "enumerate") >>= _) _ _ _
  refine wpAny_bind (wpAny_bind (wpAny_stack_any fun st => wpAny_pure ?_))
  dsimp only
  split <;> try split
  all_goals
    refine wpAny_bind (wpAny_of_eq (a := (v, none)) rfl ?_)
    refine wpAny_bind (wpAny_mono h (fun it s1 h1 => ?_) fun _ _ z => z)
    exact wpAny_bind (wpAny_mono h1 (fun e s2 h2 => wpAny_pure h2) fun _ _ z => z)
/-- nothing to draw -/
def ItN (K : PySem.W.Frag) (a : Addr) : It where
  go := fun _ _ => False
  yld := fun _ _ _ _ => False
  stop := fun _ H => SqT K H a []
theorem turnN {P : Program} {w : World} {K : PySem.W.Frag} {tg : Expr} {a e it : Addr} (na : a ≠ it) : Turn P w K tg (ItN K a) [e, it] e (fun i h => i = 0 ∧ IsEnum h e it 0 .none ∧ h.IsTupleIter it a 0) where
  mem := List.mem_cons_self
  obj := by
    rintro i h ⟨_, he, oi, h1, _, h3⟩ b hb
    rcases List.mem_cons.mp hb with rfl | hb
    · exact ⟨_, he, fun _ z => nomatch z⟩
    · rw [List.mem_singleton.mp hb]
      exact ⟨oi, h1, fun _ z => by rw [h3] at z; cases z⟩
  keep := fun i h h' st k => ⟨st.1, k e List.mem_cons_self _ st.2.1, st.2.2.at fun o z => k it (List.mem_cons_of_mem _ List.mem_cons_self) o z⟩
  item := fun _ _ _ _ _ _ _ _ _ _ _ _ _ _ go => go.elim
  done := by
    intro Y hP hw hK hc i pins s σ H E I hf st stop
    subst hP hw hK
    obtain ⟨rfl, he, hi⟩ := st
    obtain ⟨its, rv, p, _⟩ := I.tuple stop
    cases rv
    obtain ⟨f0, f1, _, f3, f4, f5⟩ := hf it (List.mem_cons_of_mem _ List.mem_cons_self)
    exact wpAny_pyNext_enum_endD (Draws.tuple (A := Y.A.in1) (I.ok.hd hc) it a na #[]) he ⟨hi, p⟩ fun h' eb => ⟨rfl, I.turned (t' := s.toks) (fun b o hb z => eb b o hb z) f0 f1 f3 f4 f5⟩
  self := fun A i s Q E st q => wpAny_pyIter_enum st.2.1 q
def iEnumN (K : PySem.W.Frag) (ta : TA) : TI := fun σ H R => ta σ H fun vs G => ∃ a, vs = [.ref a] ∧ SqT K G a [] ∧ R (ItN K a) G
theorem pi_enumN {e : Expr} {ta : TA} {p pos : Pos} {tg : Expr} (hg : Gl X "enumerate") (hm : X.mg "enumerate" = none) (ha : PA X [e] ta) (hs : starEach [e] X.env = [(false, eval e X.env)] := by rfl) : PI X tg (.Call (.Name "enumerate" p) [e] [] pos) (iEnumN X.K ta) := by
  refine ⟨fun pins s σ H R I h => Call_ (ld_blt I hg hm boot_enumerate (PyProof.Rows.callWith_type1 (thn (ha.run pos pins s σ H _ I h) ?_) hs rfl))⟩
  rintro us s1 ⟨vs, G, I1, r, a, rfl, sq, q⟩
  obtain ⟨u, rfl, ru⟩ := r.one
  cases ru
  obtain ⟨its, rv, tp, _⟩ := I1.tuple sq
  cases rv
  have la : a < s1.heap.objs.size := let ⟨_, z, _⟩ := tp; Heap.lt_size z
  refine callType_new (S := fun A R s => s.heap.IsTuple a #[] ∧ R (.ok (.ret (.ref (s.heap.objs.size + 1)))) { s with heap := (s.heap.push { cls := .type "tuple_iterator", data := .fields #[.ref a, .int 0 0] }).push { cls := .type "enumerate", data := .fields #[.none, .bool false, .ref s.heap.objs.size, rawInt 0, .none, .none] } })
    F.called_enumerate (by decide) (F.typeCall_enumerate_1 _) (F.newCall_enumerate_1 _) (fun obj => F.args_object_init_2 obj _) F.entry_enumerate_new (.of_wp fun P w A R s z => enum_new (wpAny_pyIter_tuple z.1 (wpAny_newObj_type ⟨_, rfl, ?_⟩))) ⟨tp, ?_⟩
  · have := z.2
    rwa [← Heap.size_push] at this
  have he : IsEnum ((s1.heap.push { cls := .type "tuple_iterator", data := .fields #[.ref a, .int 0 0] }).push { cls := .type "enumerate", data := .fields #[.none, .bool false, .ref s1.heap.objs.size, rawInt 0, .none, .none] }) (s1.heap.objs.size + 1) s1.heap.objs.size 0 .none := by
    have z := Heap.get?_push_size (s1.heap.push { cls := .type "tuple_iterator", data := .fields #[.ref a, .int 0 0] }) (o := { cls := .type "enumerate", data := .fields #[.none, .bool false, .ref s1.heap.objs.size, rawInt 0, .none, .none] }) rfl
    rwa [Heap.size_push] at z
  refine ⟨⟨_, he, rfl⟩, wpAny_pyIter_enum he ⟨s1.heap.objs.size + 1, [s1.heap.objs.size + 1, s1.heap.objs.size], _, _, G, rfl, I1.kept (t' := s1.toks) fun b o z => Heap.get?_push_of_some _ (Heap.get?_push_of_some _ z), turnN (Nat.ne_of_lt la), ⟨rfl, he, _, Heap.get?_push_of_some _ (Heap.get?_push_size _ rfl), rfl, rfl⟩, fun b hb => ?_, q⟩⟩
  have le : s1.heap.objs.size ≤ b := by
    rcases List.mem_cons.mp hb with rfl | hb
    · exact Nat.le_succ _
    · rw [List.mem_singleton.mp hb]
      exact Nat.le_refl _
  exact I1.fpOk le (I1.hok.fresh le)
theorem PI.or {tg e : Expr} {a b : TI} (h1 : PI X tg e a) (h2 : PI X tg e b) : PI X tg e (fun σ H R => a σ H R ∨ b σ H R) := ⟨fun pins s σ H R I h => h.elim (h1.run pins s σ H R I) (h2.run pins s σ H R I)⟩
end
/-! ### enumerate of a tuple -/
def ItU (K : PySem.W.Frag) (a : Addr) : It where
  go := fun i H => ∃ (xs : List V) (x : V), SqT K H a xs ∧ xs[i]? = some x
  yld := fun i H v H' => ∃ T x, v = .ref T ∧ H T = none ∧ H' = upd H T (.tup [.int (i : Nat), x]) ∧ ∀ xs, SqT K H a xs → xs[i]? = some x
  stop := fun i H => ∃ xs : List V, SqT K H a xs ∧ xs.length = i
section
variable {X : Cx}
theorem turnU {P : Program} {w : World} {K : PySem.W.Frag} {elts : List Expr} {kk : Nat} {tpos : Pos} {a e it : Addr} (ne : e ≠ it) (na : a ≠ it) (nb : a ≠ e) : Turn P w K (.Tuple elts kk tpos) (ItU K a) [e, it] e (fun i h => (∃ old, IsEnum h e it ((i : Nat) : Int) old) ∧ h.IsTupleIter it a i) where
  mem := List.mem_cons_self
  obj := by
    rintro i h ⟨⟨old, he⟩, oi, h1, _, h3⟩ b hb
    rcases List.mem_cons.mp hb with rfl | hb
    · exact ⟨_, he, fun _ z => nomatch z⟩
    · rw [List.mem_singleton.mp hb]
      exact ⟨oi, h1, fun _ z => by rw [h3] at z; cases z⟩
  keep := by
    rintro i h h' ⟨⟨old, he⟩, hi⟩ k
    exact ⟨⟨old, k e List.mem_cons_self _ he⟩, hi.at fun o z => k it (List.mem_cons_of_mem _ List.mem_cons_self) o z⟩
  self := by
    rintro A i s Q E ⟨⟨old, he⟩, _⟩ q
    exact wpAny_pyIter_enum he q
  item := by
    intro Y hP hw hK hc i pins s σ H E I hf st go
    subst hP hw hK
    obtain ⟨⟨old, he⟩, hi⟩ := st
    obtain ⟨xs, x, sq, hx⟩ := go
    obtain ⟨its, rv, tp, _⟩ := I.tuple sq
    obtain ⟨u, hu, ru⟩ := rv.get hx
    have lt : i < its.toArray.size := by
      rw [List.size_toArray]
      exact (List.getElem?_eq_some_iff.mp hu).1
    refine wpAny_pyNext_enum_itemD (Draws.tuple (A := Y.A.in1) (I.ok.hd hc) it a na its.toArray) he ⟨hi, tp⟩ lt ne (by simp [ne, nb.symm]) ?_
    intro y h' tk hy out st' hT hsz hk
    obtain rfl : u = y := by
      have : its.toArray[i]? = some u := by simpa using hu
      exact Option.some.inj (this.symm.trans hy)
    refine ⟨_, rfl, wpAny_letOwnedTupleGo_enum (s := { s with heap := h', toks := tk + 1 }) out ?_⟩
    intro h2 he2 sb
    have low : e < s.heap.objs.size := Heap.lt_size he
    have tup2 : h2.get? s.heap.objs.size = some { cls := .type "tuple", data := .seq #[.int i tk, u] } := (sb.2 _ (Nat.ne_of_gt low)).trans hT
    have new : ObjOk Y.prog Y.w (upd H s.heap.objs.size (.tup [.int (i : Nat), x])) h2 s.heap.objs.size (.tup [.int (i : Nat), x]) := ⟨by show 2 ≤ sizeLine; decide, _, .cons ⟨_, rfl⟩ (.cons ru .nil), ⟨_, tup2, rfl, _, rfl⟩⟩
    have stay : ∀ b ob, b ∉ [e, it] → s.heap.get? b = some ob → h2.get? b = some ob := by
      intro b ob hb z
      rw [List.mem_cons, List.mem_singleton, not_or] at hb
      exact (sb.2 b hb.1).trans (hk b ob hb.1 hb.2 z)
    refine ⟨.ref s.heap.objs.size, _, I.turnedNew stay hf (Nat.le_refl _) new, rfl, ⟨_, x, rfl, I.hok.fresh (Nat.le_refl _), rfl, fun ys hys => by rw [I.tuple_inj hys sq]; exact hx⟩, ⟨⟨u, ?_⟩, st'.1.at fun o z => (sb.2 it ne.symm).trans z⟩, fun b hb => ?_⟩
    · rw [Int.natCast_add]
      exact he2
    · have lb : b < s.heap.objs.size := by
        rcases List.mem_cons.mp hb with rfl | hb
        · exact low
        · rw [List.mem_singleton.mp hb]
          obtain ⟨_, z, _⟩ := hi
          exact Heap.lt_size z
      rw [upd_ne (Nat.ne_of_lt lb)]
      exact (hf b hb).1
  done := by
    intro Y hP hw hK hc i pins s σ H E I hf st stop
    subst hP hw hK
    obtain ⟨⟨old, he⟩, hi⟩ := st
    obtain ⟨xs, sq, hx⟩ := stop
    obtain ⟨its, rv, tp, _⟩ := I.tuple sq
    obtain ⟨f0, f1, _, f3, f4, f5⟩ := hf it (List.mem_cons_of_mem _ List.mem_cons_self)
    have here : i = its.toArray.size := by
      rw [List.size_toArray, ← rv.length]
      exact hx.symm
    refine wpAny_pyNext_enum_endD (Draws.tuple (A := Y.A.in1) (I.ok.hd hc) it a na its.toArray) he ⟨by rw [← here]; exact hi, tp⟩ fun h' eb => ⟨rfl, ?_⟩
    exact I.turned (t' := s.toks) (fun b o hb z => eb b o hb z) f0 f1 f3 f4 f5
def iEnumT (K : PySem.W.Frag) (ta : TA) : TI := fun σ H R => ta σ H fun vs G => ∃ a xs, vs = [.ref a] ∧ SqT K G a xs ∧ R (ItU K a) G
theorem pi_enumT {e : Expr} {ta : TA} {p pos tpos : Pos} {elts : List Expr} {kk : Nat} (hg : Gl X "enumerate") (hm : X.mg "enumerate" = none) (ha : PA X [e] ta) (hs : starEach [e] X.env = [(false, eval e X.env)] := by rfl) : PI X (.Tuple elts kk tpos) (.Call (.Name "enumerate" p) [e] [] pos) (iEnumT X.K ta) := by
  refine ⟨fun pins s σ H R I h => Call_ (ld_blt I hg hm boot_enumerate (PyProof.Rows.callWith_type1 (thn (ha.run pos pins s σ H _ I h) ?_) hs rfl))⟩
  rintro us s1 ⟨vs, G, I1, r, a, xs, rfl, sq, q⟩
  obtain ⟨u, rfl, ru⟩ := r.one
  cases ru
  obtain ⟨its, rv, tp, _⟩ := I1.tuple sq
  have la : a < s1.heap.objs.size := let ⟨_, z, _⟩ := tp; Heap.lt_size z
  have tp' : s1.heap.IsTuple a its.toArray := tp
  refine callType_new (S := fun A R s => s.heap.IsTuple a its.toArray ∧ R (.ok (.ret (.ref (s.heap.objs.size + 1)))) { s with heap := (s.heap.push { cls := .type "tuple_iterator", data := .fields #[.ref a, .int 0 0] }).push { cls := .type "enumerate", data := .fields #[.none, .bool false, .ref s.heap.objs.size, rawInt 0, .none, .none] } })
    F.called_enumerate (by decide) (F.typeCall_enumerate_1 _) (F.newCall_enumerate_1 _) (fun obj => F.args_object_init_2 obj _) F.entry_enumerate_new (.of_wp fun P w A R s z => enum_new (wpAny_pyIter_tuple z.1 (wpAny_newObj_type ⟨_, rfl, ?_⟩))) ⟨tp', ?_⟩
  · have := z.2
    rwa [← Heap.size_push] at this
  have he : IsEnum ((s1.heap.push { cls := .type "tuple_iterator", data := .fields #[.ref a, .int 0 0] }).push { cls := .type "enumerate", data := .fields #[.none, .bool false, .ref s1.heap.objs.size, rawInt 0, .none, .none] }) (s1.heap.objs.size + 1) s1.heap.objs.size ((0 : Nat) : Int) .none := by
    have z := Heap.get?_push_size (s1.heap.push { cls := .type "tuple_iterator", data := .fields #[.ref a, .int 0 0] }) (o := { cls := .type "enumerate", data := .fields #[.none, .bool false, .ref s1.heap.objs.size, rawInt 0, .none, .none] }) rfl
    rwa [Heap.size_push] at z
  have hit : ((s1.heap.push { cls := .type "tuple_iterator", data := .fields #[.ref a, .int 0 0] }).push { cls := .type "enumerate", data := .fields #[.none, .bool false, .ref s1.heap.objs.size, rawInt 0, .none, .none] }).IsTupleIter s1.heap.objs.size a 0 := ⟨_, Heap.get?_push_of_some _ (Heap.get?_push_size _ rfl), rfl, rfl⟩
  refine ⟨⟨_, he, rfl⟩, wpAny_pyIter_enum he ⟨s1.heap.objs.size + 1, [s1.heap.objs.size + 1, s1.heap.objs.size], _, _, G, rfl, I1.kept (t' := s1.toks) fun b o z => Heap.get?_push_of_some _ (Heap.get?_push_of_some _ z), turnU (Nat.succ_ne_self _) (Nat.ne_of_lt la) (Nat.ne_of_lt (Nat.lt_succ_of_lt la)), ⟨⟨.none, he⟩, hit⟩, fun b hb => ?_, q⟩⟩
  have le : s1.heap.objs.size ≤ b := by
    rcases List.mem_cons.mp hb with rfl | hb
    · exact Nat.le_succ _
    · rw [List.mem_singleton.mp hb]
      exact Nat.le_refl _
  exact I1.fpOk le (I1.hok.fresh le)
end
/-- a for over it, where the tuple stays -/
theorem for_enumT {K : PySem.W.Frag} {a : Addr} {xs : List V} {g : TG} {tb : TS} {D : Ends} {σ : L2.St} {H : Hp} (Pv : Nat → L2.St → Hp → Prop) (h0 : Pv 0 σ H) (hl : ∀ i τ G, i ≤ xs.length → Pv i τ G → SqT K G a xs)
    (turn : ∀ i x τ G T, xs[i]? = some x → Pv i τ G → G T = none → g (.ref T) τ (upd G T (.tup [.int (i : Nat), x])) fun τ2 G2 => tb { D with nx := Pv (i + 1), ct := Pv (i + 1), bk := D.nx } τ2 G2) (fin : ∀ τ G, Pv xs.length τ G → D.nx τ G) :
    ∃ W : Nat → Nat → L2.St → Hp → Prop, (∃ m, W 0 m σ H) ∧ ∀ i m τ G, W i m τ G → ((ItU K a).stop i G ∧ D.nx τ G) ∨ ((ItU K a).go i G ∧ ∃ N : L2.St → Hp → Prop, (∀ τ' G', N τ' G' → ∃ m', m' < m ∧ W (i + 1) m' τ' G') ∧
      ∀ x G', (ItU K a).yld i G x G' → g x τ G' fun τ2 G2 => tb { D with nx := N, ct := N, bk := D.nx } τ2 G2) := by
  refine ⟨fun i m τ G => i + m = xs.length ∧ Pv i τ G, ⟨xs.length, Nat.zero_add _, h0⟩, ?_⟩
  rintro i m τ G ⟨hm, pv⟩
  have sq := hl i τ G (by omega) pv
  rcases Nat.eq_zero_or_pos m with rfl | hp
  · obtain rfl : i = xs.length := hm
    exact .inl ⟨⟨xs, sq, rfl⟩, fin τ G pv⟩
  · have lt : i < xs.length := by omega
    refine .inr ⟨⟨xs, xs[i], sq, List.getElem?_eq_getElem lt⟩, Pv (i + 1), fun τ' G' z => ⟨m - 1, by omega, by omega, z⟩, ?_⟩
    rintro x G' ⟨T, y, rfl, hT, rfl, at_⟩
    exact turn i y τ G T (at_ xs sq) pv hT
/-! ### rows put together -/
theorem putD_new {es : DEs} {x : Sh} {p : Addr} {n : Int} (h : valD es x = none) : putD es x p n = es ++ [(x, p, n)] := by
  unfold putD
  rw [h]
  rfl
theorem take_put {fs : DEs} (nd : (keysD fs).Nodup) {i : Nat} {e : Sh × Addr × Int} (he : fs[i]? = some e) : putD (fs.take i) e.1 e.2.1 e.2.2 = fs.take (i + 1) := by
  have hn : valD (fs.take i) e.1 = none := by
    refine valD_none.mpr fun z => ?_
    obtain ⟨f, hf, hfe⟩ := List.mem_map.mp z
    obtain ⟨j, hj⟩ := List.mem_iff_getElem?.mp hf
    have hji : j < i := by
      rcases Nat.lt_or_ge j i with l | l
      · exact l
      · rw [List.getElem?_eq_none (by rw [List.length_take]; omega)] at hj
        cases hj
    rw [List.getElem?_take_of_lt hji] at hj
    have k1 : (keysD fs)[j]? = some e.1 := by
      unfold keysD
      rw [List.getElem?_map, hj, ← hfe]
      rfl
    have k2 : (keysD fs)[i]? = some e.1 := by
      unfold keysD
      rw [List.getElem?_map, he]
      rfl
    obtain ⟨l1, g1⟩ := List.getElem?_eq_some_iff.mp k1
    have := (List.getElem?_inj l1 nd).mp (k1.trans k2.symm)
    omega
  rw [putD_new hn, List.take_add_one, he]
  rfl
theorem putD_in {es : DEs} {x : Sh} {p : Addr} {n : Int} {y : Sh × Addr × Int} (h : y ∈ putD es x p n) : (y.1 = x ∧ y.2.2 = n) ∨ y ∈ es := by
  unfold putD at h
  split at h
  · obtain ⟨z, hz, rfl⟩ := List.mem_map.mp h
    split
    · rename_i e
      exact .inl ⟨e, rfl⟩
    · exact .inr hz
  · rcases List.mem_append.mp h with h | h
    · exact .inr h
    · rw [List.mem_singleton.mp h]
      exact .inl ⟨rfl, rfl⟩
def addE (acc : DEs) (e : Sh × Addr × Int) : DEs := putD acc e.1 e.2.1 ((valD acc e.1).getD 0 + e.2.2)
def mergeTo (es : DEs) (i : Nat) : DEs := (es.take i).foldl addE []
def mergeD (es : DEs) : DEs := es.foldl addE []
theorem mergeTo_all (es : DEs) : mergeTo es es.length = mergeD es := by
  unfold mergeTo mergeD
  rw [List.take_length]
theorem mergeTo_succ {es : DEs} {i : Nat} {e : Sh × Addr × Int} (he : es[i]? = some e) : mergeTo es (i + 1) = addE (mergeTo es i) e := by
  unfold mergeTo
  rw [List.take_add_one, he, List.foldl_append]
  rfl
theorem fold_nodup : ∀ (es acc : DEs), (keysD acc).Nodup → (keysD (es.foldl addE acc)).Nodup
  | [], _, h => h
  | e :: es, acc, h => fold_nodup es (addE acc e) (put_nodup h _ _ _)
theorem merge_nodup (es : DEs) : (keysD (mergeD es)).Nodup := fold_nodup es [] List.nodup_nil
theorem fold_wsum (φ : Sh → Int) : ∀ (es acc : DEs), (keysD acc).Nodup → wsum φ (es.foldl addE acc) = wsum φ acc + wsum φ es
  | [], acc, h => by
    show wsum φ acc = wsum φ acc + 0
    omega
  | e :: es, acc, h => by
    rw [List.foldl_cons, fold_wsum φ es (addE acc e) (put_nodup h _ _ _), wsum_cons]
    unfold addE
    rw [wsum_put h]
    omega
theorem merge_wsum (φ : Sh → Int) (es : DEs) : wsum φ (mergeD es) = wsum φ es := by
  unfold mergeD
  rw [fold_wsum φ es [] List.nodup_nil]
  show 0 + wsum φ es = _
  omega
theorem fold_len : ∀ (es acc : DEs), (es.foldl addE acc).length ≤ acc.length + es.length
  | [], acc => by simp
  | e :: es, acc => by
    have h1 := fold_len es (addE acc e)
    have h2 : (addE acc e).length ≤ acc.length + 1 := putD_len _ _ _ _
    rw [List.foldl_cons, List.length_cons]
    omega
theorem mergeTo_len (es : DEs) (i : Nat) : (mergeTo es i).length ≤ i := by
  have h1 := fold_len (es.take i) []
  have h2 : (es.take i).length ≤ i := by
    rw [List.length_take]
    omega
  unfold mergeTo
  simp only [List.length_nil] at h1
  omega
theorem merge_len (es : DEs) : (mergeD es).length ≤ es.length := by
  have := fold_len es []
  simpa [mergeD] using this
/-- each number from 1 to M, each sheet by S -/
def Within (S : Sh → Prop) (M : Int) (es : DEs) : Prop := ∀ e ∈ es, S e.1 ∧ 1 ≤ e.2.2 ∧ e.2.2 ≤ M
theorem Within.up {S : Sh → Prop} {M N : Int} {es : DEs} (h : Within S M es) (l : M ≤ N) : Within S N es := fun e he => ⟨(h e he).1, (h e he).2.1, Int.le_trans (h e he).2.2 l⟩
theorem Within.perm {S : Sh → Prop} {M : Int} {es fs : DEs} (h : Within S M es) (p : fs.Perm es) : Within S M fs := fun e he => h e (p.mem_iff.mp he)
theorem fold_within {S : Sh → Prop} {M : Int} (hM : 0 ≤ M) : ∀ (es acc : DEs) (N : Int), 0 ≤ N → Within S N acc → Within S M es → Within S (N + es.length * M) (es.foldl addE acc)
  | [], acc, N, hN, ha, _ => by simpa using ha
  | e :: es, acc, N, hN, ha, he => by
    have h1 : Within S (N + M) (addE acc e) := by
      intro y hy
      rcases putD_in hy with ⟨e1, e2⟩ | z
      · obtain ⟨s1, s2, s3⟩ := he e List.mem_cons_self
        have hv : 0 ≤ (valD acc e.1).getD 0 ∧ (valD acc e.1).getD 0 ≤ N := by
          cases hv : valD acc e.1 with
          | none => exact ⟨Int.le_refl _, hN⟩
          | some v =>
            obtain ⟨f, hf, _, rfl⟩ := valD_some hv
            have := ha f hf
            exact ⟨by show 0 ≤ f.2.2; omega, this.2.2⟩
        rw [e1, e2]
        exact ⟨s1, by omega, by omega⟩
      · have := ha y z
        exact ⟨this.1, this.2.1, by omega⟩
    have h2 := fold_within hM es (addE acc e) (N + M) (by omega) h1 fun y hy => he y (List.mem_cons_of_mem _ hy)
    rw [List.foldl_cons, List.length_cons]
    refine h2.up (Int.le_of_eq ?_)
    have : ((es.length + 1 : Nat) : Int) * M = es.length * M + M := by
      rw [Int.natCast_add, Int.add_mul]
      simp
    omega
theorem merge_within {S : Sh → Prop} {M : Int} {es : DEs} (hM : 0 ≤ M) (h : Within S M es) : Within S (es.length * M) (mergeD es) := by
  have := fold_within hM es [] 0 (Int.le_refl _) (fun e he => by cases he) h
  rwa [Int.zero_add] at this
/-! ### d == e, for dicts of sheets -/
def eqE (fs : DEs) (e : Sh × Addr × Int) : Bool := decide (valD fs e.1 = some e.2.2)
def eqD (es fs : DEs) : Bool := decide (es.length = fs.length) && es.all (eqE fs)
theorem drel_keys {fs : DEs} {ys : List (NestedKey × Addr × Value)} (r : Paired DRel fs ys) : ys.map (·.1) = fs.map fun f => shK f.1 := by
  induction r with
  | nil => rfl
  | cons h _ ih => rw [List.map_cons, List.map_cons, ih, h.1]
theorem drel_nodup {fs : DEs} {ys : List (NestedKey × Addr × Value)} (r : Paired DRel fs ys) (n : (ys.map (·.1)).Nodup) : (keysD fs).Nodup := by
  rw [drel_keys r] at n
  exact List.pairwise_map.mpr ((List.pairwise_map.mp n).imp fun ne z => ne (congrArg shK z))
section
variable {X : Cx} {pins : List (Addr × Obj)} {σ : L2.St} {H : Hp} {s : Shared} {a b : Addr} {es fs : DEs} {A : Around} {E : Value → Shared → Prop}
/-- one entry, looked up in the other dict -/
theorem ds_hit {e : Sh × Addr × Int} {v : Value} {ob : Obj} {eb : Array DictEntry} {pb : Nat} {ys : List (NestedKey × Addr × Value)} {Q : Bool → Shared → Prop} (hu : A.units + 8 < cLine) (I : Inv X pins σ H s) (he : ShAt H e.2.1 e.1) (rv : RelV (.int e.2.2) v)
    (ry : Paired DRel fs ys) (hb : s.heap.get? b = some ob) (db : ob.data = .dict eb pb) (tb : eb.toList = ys.map (entryOfKey (nestedKind X.prog X.w))) (kb : ∀ y ∈ ys, (nestedKind X.prog X.w).is s.heap y.1 y.2.1) (nb : (ys.map (·.1)).Nodup) (q : Q (eqE fs e) s) :
    wpAny (model X.prog X.w) A (do
      let some j ← dictFind b (.ref e.2.1) ((nestedKind X.prog X.w).hash (shK e.1)) | pure false
      let some f := (← dictEntries b)[j]? | unsupported "internal:dict-equal"
      holding [f.val] (eqBool v f.val)) Q E s := by
  refine wpAny_bind (wpAny_dictFind_heap (show A.units + 8 < cLine from hu) (sh_key I.hok he) hb db tb kb nb (fun no => ?_) fun j p hj => ?_)
  · have vn : valD fs e.1 = none := by
      cases z : valD fs e.1 with
      | none => rfl
      | some n =>
        obtain ⟨f, hf, f1, _⟩ := valD_some z
        obtain ⟨i, hi⟩ := List.mem_iff_getElem?.mp hf
        obtain ⟨y, hy, y1, _⟩ := Paired.getL ry hi
        refine absurd hy (fun hy => no i y.2 ?_)
        rw [hy, ← f1, ← y1]
    refine wpAny_pure ?_
    unfold eqE at q
    rwa [vn, decide_eq_false (by simp)] at q
  · obtain ⟨f, hf, f1, f2, f3⟩ := Paired.getR ry (List.mem_of_getElem? hj)
    have fe : f.1 = e.1 := shK_inj f1.symm
    have vs : valD fs e.1 = some f.2.2 := by
      rw [← fe]
      exact valD_mem (drel_nodup ry nb) hf
    have at_ : eb[j]? = some ⟨(nestedKind X.prog X.w).hash (shK e.1), .ref p.1, p.2⟩ := by
      rw [entry_at tb j, hj]
      rfl
    refine wpAny_bind (wpAny_dictEntries hb db ?_)
    simp only [at_]
    obtain ⟨t1, rfl⟩ := rv
    obtain ⟨t2, e2⟩ := f3
    replace e2 : p.2 = .int f.2.2 t2 := e2
    rw [e2]
    refine wpAny_holding (wpAny_eqBool_int ?_)
    unfold eqE at q
    rw [vs] at q
    have : (e.2.2 == f.2.2) = decide (some f.2.2 = some e.2.2) := by
      by_cases z : e.2.2 = f.2.2
      · rw [z]
        simp
      · rw [beq_eq_false_iff_ne.mpr z, decide_eq_false fun w => z (Option.some.inj w).symm]
    rwa [this]
theorem ds_samePairs {nm : String} {Q : Bool → Shared → Prop} (hu : A.units + 8 < cLine) (I : Inv X pins σ H s) (D : DRd X.prog X.w H a es) (F : DRd X.prog X.w H b fs) (q : Q (eqD es fs) s) : wpAny (model X.prog X.w) A (Builtin.Dict.samePairs nm a b) Q E s := by
  obtain ⟨la, _, xs, rx, oa, ea, pa, ha, _, da, ta, _, _⟩ := ds_of I.hok D
  obtain ⟨lb, _, ys, ry, ob, eb, pb, hb, _, db, tb, kb, nb⟩ := ds_of I.hok F
  have sa : ea.size = es.length := ds_size ta rx
  have sb : eb.size = fs.length := ds_size tb ry
  have sh : ∀ d, (d == sysModules) = false → Builtin.Dict.showsAll d = pure () := by
    intro d z
    unfold Builtin.Dict.showsAll
    rw [z]
    rfl
  unfold Builtin.Dict.samePairs
  refine wpAny_bind (wpAny_of_eq (sh a la) (wpAny_bind (wpAny_of_eq (sh b lb) ?_)))
  refine wpAny_bind (wpAny_dictEntries ha da (wpAny_bind (wpAny_dictEntries hb db ?_)))
  unfold eqD at q
  rw [sa, sb]
  by_cases hz : es.length = fs.length
  · rw [decide_eq_true hz, Bool.true_and] at q
    rw [if_neg (by rw [hz]; simp)]
    refine wpAny_bind (wpAny_dictEpoch ha da ?_)
    refine wpAny_bind ?_
    rw [Std.Legacy.Range.forIn_eq_forIn_range']
    refine wpAny_forIn_list _ (fun rest st s' => s' = s ∧ st = (none, ()) ∧ ∃ i, rest = List.range' i rest.length ∧ i + rest.length = es.length ∧ es.all (eqE fs) = (es.drop i).all (eqE fs)) _ ?_ ?_ _ _ ⟨rfl, rfl, 0, ?_, ?_, ?_⟩
    · rintro x rest st s' ⟨rfl, rfl, i, hr, hn, hall⟩
      rw [List.length_cons] at hr hn
      rw [List.range'_succ] at hr
      obtain ⟨rfl, hr⟩ := List.cons.inj hr
      obtain ⟨e, he⟩ : ∃ e, es[x]? = some e := ⟨es[x]'(by omega), List.getElem?_eq_getElem (by omega)⟩
      obtain ⟨y, hy, y1, y2, y3⟩ := Paired.getL rx he
      have at_ : ea[x]? = some ⟨(nestedKind X.prog X.w).hash (shK e.1), .ref e.2.1, y.2.2⟩ := by
        rw [entry_at ta x, hy, ← y1, ← y2]
        rfl
      have dr : (es.drop x).all (eqE fs) = (eqE fs e && (es.drop (x + 1)).all (eqE fs)) := by
        rw [List.drop_eq_getElem?_toList_append, he]
        rfl
      refine wpAny_bind (wpAny_dictEntries ha da ?_)
      simp only [at_]
      refine wpAny_bind (wpAny_holding (ds_hit hu I (D.ks e (List.mem_of_getElem? he)) y3 ry hb db tb kb nb ?_))
      cases hq : eqE fs e with
      | false =>
        rw [hall, dr, hq, Bool.false_and] at q
        exact wpAny_pure (wpAny_pure q)
      | true =>
        rw [if_neg (by decide)]
        refine wpAny_bind (wpAny_dictEpoch ha da ?_)
        rw [if_neg (by simp)]
        refine wpAny_pure ⟨rfl, rfl, x + 1, hr, by omega, ?_⟩
        rw [hall, dr, hq, Bool.true_and]
    · rintro st s' ⟨rfl, rfl, i, hr, hn, hall⟩
      have : i = es.length := by simpa using hn
      subst this
      rw [hall, List.drop_length] at q
      exact wpAny_pure q
    · simp
    · simp [Std.Legacy.Range.size]
    · rw [List.drop_zero]
  · rw [decide_eq_false hz, Bool.false_and] at q
    rw [if_pos (by simpa using hz)]
    exact wpAny_bind (wpAny_rule (wpAny_pure q))
theorem ds_eq {Q : Value → Shared → Prop} (hu : A.units + 9 < cLine) (I : Inv X pins σ H s) (D : DRd X.prog X.w H a es) (F : DRd X.prog X.w H b fs) (q : Q (.bool (eqD es fs)) s) : wpAny (model X.prog X.w) A (compareOp .Eq (.ref a) (.ref b)) Q E s := by
  have ta := (ds_dict (X := X) I D).1
  have tb := (ds_dict (X := X) I F).1
  refine wpAny_richCompare_same_room (op := .Eq) ta tb PySem.F.slot_dict_eq (wpAny_call_entry PySem.F.slot_dict_eq ta PySem.F.entry_dict_eq ?_ (PySem.F.args_dict_eq_2 _ _)) (by omega)
  have args : wpAny (model X.prog X.w) A.in1 (Builtin.Dict.dictSlotArgs "__eq__" ⟨[.ref a, .ref b], []⟩) (fun r s' => r = (.ref a, .ref b) ∧ s' = s) E s := by
    unfold Builtin.Dict.dictSlotArgs
    refine wpAny_bind (wpAny_notOrdered_dict ta ?_)
    exact wpAny_pure ⟨rfl, rfl⟩
  refine wpAny_bind (m := Builtin.Dict.dictSlotArgs "__eq__" ⟨[.ref a, .ref b], []⟩) (wpAny_mono args ?_ fun _ _ z => z)
  rintro r s' ⟨rfl, rfl⟩
  refine wpAny_bind (wpAny_isInstance (T := "dict") tb PySem.F.sub_dict_dict ?_)
  simp only [Bool.not_true, Bool.false_eq_true, if_false]
  refine wpAny_bind (wpAny_pure (wpAny_bind (wpAny_pure (wpAny_bind (ds_samePairs (show A.in1.units + 8 < cLine from by show A.units + 1 + 8 < cLine; omega) I D F ?_)))))
  exact wpAny_pure ⟨_, rfl, by simp, by simpa using q⟩
end
def rEqDS (P : Program) (w : World) : R2 := fun x y H Q => ∃ a b es fs, x = .ref a ∧ y = .ref b ∧ DRd P w H a es ∧ DRd P w H b fs ∧ Q (.bl (eqD es fs)) H
theorem op_eqDS {X : Cx} (hu : X.A.units + 64 < cLine) : OpR X (compareOp .Eq) (rEqDS X.prog X.w) := by
  intro pins s σ H x y u v Q I rx ry q
  obtain ⟨a, b, es, fs, rfl, rfl, D, F, q⟩ := q
  cases rx
  cases ry
  exact ds_eq (by omega) I D F ⟨.bl (eqD es fs), H, I, rfl, q⟩
/-! ### len(d), bool(d), for dicts of sheets -/
section
variable {X : Cx} {pins : List (Addr × Obj)} {σ : L2.St} {H : Hp} {s : Shared} {d : Addr} {es : DEs} {A : Around} {E : Value → Shared → Prop}
theorem ds_lenSlot {Q : Value → Shared → Prop} (I : Inv X pins σ H s) (D : DRd X.prog X.w H d es) (q : ∀ t s', Inv X pins σ H s' → Q (.int es.length t) s') : wpAny (model X.prog X.w) A (call (.builtin "dict.__len__") [.ref d]) Q E s := by
  have ty := (ds_dict (X := X) I D).1
  obtain ⟨low, _, xs, r, o, en, ep, ho, _, hd, he, _, _⟩ := ds_of I.hok D
  have few : en.size = es.length := ds_size he r
  refine wpAny_call_entry PySem.F.slot_dict_len ty PySem.F.entry_dict_len ?_ (PySem.F.args_dict_len_1 _)
  have self : wpAny (model X.prog X.w) A.in1 (Builtin.Dict.dictSlotNone "__len__" ⟨[.ref d], []⟩) (fun v s' => v = .ref d ∧ s' = s) E s := by
    unfold Builtin.Dict.dictSlotNone
    exact wpAny_bind (wpAny_notOrdered_dict ty (wpAny_pure ⟨rfl, rfl⟩))
  unfold Builtin.«dict.__len__»
  refine wpAny_bind (wpAny_mono self ?_ fun _ _ z => z)
  rintro v s' ⟨rfl, rfl⟩
  refine wpAny_bind (wpAny_pure ?_)
  unfold dictSize
  refine wpAny_bind (wpAny_bind (wpAny_dictEntries ho hd (wpAny_pure ?_)))
  have none : Builtin.Dict.pendingCount d = pure 0 := by
    unfold Builtin.Dict.pendingCount
    rw [low]
    rfl
  refine wpAny_bind (wpAny_of_eq none ?_)
  rw [few, show (es.length : Int) + ((0 : Nat) : Int) = (es.length : Int) by simp]
  exact wpAny_bind (wpAny_mkInt (wpAny_pure ⟨_, rfl, q _ _ (I.tok _)⟩))
theorem ds_lenBody {Q : Fin → Shared → Prop} (I : Inv X pins σ H s) (D : DRd X.prog X.w H d es) (q : ∀ t s', Inv X pins σ H s' → Q (.done (.ret (.int es.length t))) s') : wpAny (model X.prog X.w) A (Builtin.«len» ⟨[.ref d], []⟩) Q E s := by
  have few : (es.length : Int) < 2 ^ 63 := by
    have z : es.length ≤ sizeLine := (ds_of I.hok D).2.1
    have := line63
    omega
  unfold Builtin.«len»
  refine wpAny_bind (m := oneArg "len" _) (wpAny_pure ?_)
  refine wpAny_bind (m := callSpecial? (.ref d) (Str.ofString "__len__")) (wpAny_callSpecial?_slot (name := Str.ofString "__len__") (ds_dict (X := X) I D).1 PySem.F.slot_dict_len (ds_lenSlot I D fun t s' I' => ?_))
  refine wpAny_bind (wpAny_holding (wpAny_pure (wpAny_bind (wpAny_letGo ?_))))
  dsimp only
  rw [if_neg (show ¬ (es.length : Int) < 0 by omega), if_neg (show ¬ (es.length : Int) ≥ 2 ^ 63 by omega)]
  exact wpAny_bind (wpAny_mkInt (wpAny_pure (q _ _ (I'.tok _))))
theorem ds_truthy {Q : Bool → Shared → Prop} (I : Inv X pins σ H s) (D : DRd X.prog X.w H d es) (q : ∀ s', Inv X pins σ H s' → Q (!es.isEmpty) s') : wpAny (model X.prog X.w) A (truthy (.ref d)) Q E s := by
  have ty := (ds_dict (X := X) I D).1
  have size : wpAny (model X.prog X.w) A (runValue (.builtin "len" ⟨[.ref d], []⟩)) (fun r s' => ∃ t, r = .int es.length t ∧ Inv X pins σ H s') E s := by
    refine wpAny_runValue (codeAny_builtin entry_len ?_)
    rw [Around.under_plainId plain_len _]
    exact ds_lenBody I D fun t s' I' => ⟨t, rfl, I'⟩
  have ans : ((es.length : Int) != 0) = !es.isEmpty := by
    cases es with
    | nil => rfl
    | cons e es =>
      rw [List.length_cons]
      show (((es.length + 1 : Nat) : Int) != 0) = true
      rw [bne_iff_ne]
      omega
  unfold truthy
  refine wpAny_bind (wpAny_callSpecial?_none (name := Str.ofString "__bool__") ty noBool_dict ?_)
  refine wpAny_bind (wpAny_specialOf (name := Str.ofString "__len__") ty PySem.F.slot_dict_len.lookup ?_)
  refine wpAny_bind (wpAny_mono size ?_ fun _ _ z => z)
  rintro r s' ⟨t, rfl, I'⟩
  refine wpAny_pure ?_
  show Q ((es.length : Int) != 0) s'
  rw [ans]
  exact q s' I'
end
def rLenDS (P : Program) (w : World) : List V → Hp → VK → Prop := fun vs H Q => ∃ d es, vs = [.ref d] ∧ DRd P w H d es ∧ Q (.int es.length) H
theorem call_len_DS {X : Cx} : CallR X (.builtin "len") (rLenDS X.prog X.w) := by
  intro pins s σ H vs us Q I r q
  obtain ⟨d, es, rfl, D, q⟩ := q
  obtain ⟨u, rfl, ru⟩ := r.one
  cases ru
  exact Calls.call_function_entry kind_len plain_len entry_len (args_len1 _) (ds_lenBody I D fun t s' I' => ⟨_, rfl, .int es.length, H, I', ⟨t, rfl⟩, q⟩)
/-- bool(v), by the truth of v -/
theorem bool_truth {P : Program} {w : World} {A : Around} {E : Value → Shared → Prop} {s : Shared} {v : Value} {Q : Value → Shared → Prop} (tr : wpAny (model P w) A.in1.in1 (truthy v) (fun k s₁ => Q (.bool k) s₁) E s) : wpAny (model P w) A (call (.type "bool") [v]) Q E s := by
  refine callType_codes (T := "bool") (Bi := Builtin.«object.__init__») (Q₁ := fun r s₁ => ∃ k, r = Value.bool k ∧ Q r s₁) PySem.F.called_bool (PySem.F.typeCall_bool_1 _) PySem.F.entry_object_init ?_ ?_
  · refine codeAny_of_tree ?_
    show wpAny _ A.in1.in1 (do checkBuiltinCall "bool.__new__" ⟨[.type "bool", v], []⟩; again (.builtin "bool.__new__" ⟨[.type "bool", v], []⟩)) _ _ s
    refine wpAny_bind (wpAny_of_eq (PySem.F.newCall_bool_1 _) (wpAny_pure ⟨plainId_quiet (by decide +kernel) _, codeAny_builtin PySem.F.entry_bool_new ?_⟩))
    rw [Around.under_plainId (by decide +kernel) _]
    obtain ⟨hp, g, d, tk, os⟩ := s
    have f1 := F.conv_sub_bool
    repeat (any_goals (first | assumption | (with_reducible refine wpAny_mono tr (fun k s₁ q => ?_) fun _ _ z => z) | wp_step))
    all_goals first | exact ⟨_, rfl, q⟩ | skip
  · rintro obj s₁ ⟨k, rfl, hq⟩
    exact ⟨rfl, PySem.F.args_object_init_2 _ _, object_init_meets PySem.F.called_bool.init.lookup PySem.F.called_bool.made (by decide) P w A.in1 _ s₁ ⟨rfl, rfl, hq⟩⟩
def rBoolDS (P : Program) (w : World) : List V → Hp → VK → Prop := fun vs H Q => ∃ d es, vs = [.ref d] ∧ DRd P w H d es ∧ Q (.bl (!es.isEmpty)) H
theorem call_bool_DS {X : Cx} : CallR X (.type "bool") (rBoolDS X.prog X.w) := by
  intro pins s σ H vs us Q I r q
  obtain ⟨d, es, rfl, D, q⟩ := q
  obtain ⟨u, rfl, ru⟩ := r.one
  cases ru
  exact bool_truth (ds_truthy I D fun s' I' => ⟨.bl (!es.isEmpty), H, I', rfl, q⟩)
/-! ### the law's own draws -/
section
variable {base : Heap} {K : PySem.W.Frag} {mg : Str → Option Value} {P : Program} {w : World}
def spPull : Sp := fun vs H Q _ => ∃ (b sb : Addr) (n : Int), vs = [.ref b, .int n] ∧ Bag H b sb ∧ 0 < n ∧ n.natAbs < 2 ^ 100 ∧ ∀ z H', 0 ≤ z → z < n → Bag H' b sb → Keep b H H' → Q (.int z) H'
theorem ok_pull (T : Txt K mg) : FnOk P w K mg base CX0 1 T.f_pull T.d_pull ["_law_bag", "_law_size"] spPull := by
  refine T.F_pull.ok sc_pull (fun vs H Q E h => ?_) (fun cdv A outer s H vs Q E hr h => ?_)
  · obtain ⟨b, sb, n, rfl, _⟩ := h
    rfl
  · obtain ⟨b, s1, n, rfl, ⟨ns, i, j, m, c, B⟩, h0, h1, q⟩ := h
    refine ⟨_, (pss_cons (ps_asg (pe_op op_add (pe_ix ix_list (pv 0) pe_int (fun _ _ => rfl)) pe_int) (pg_sub (pv 0) pe_int set_list))
      (Evl.pss_cut (ps_if (PW.pt (pw_and (pt_cmpR op_eq (pe_ix ix_list (pv 0) pe_int (fun _ _ => rfl)) pe_int (nomark _)) (pw_and1 (pt_cmpR op_lt (pe_ix ix_list (pv 0) pe_int (fun _ _ => rfl)) (pe_callB call_len_seq (by rfl) T.n_len (by decide +kernel) (pa_cons (pe_ix ix_list (pv 0) pe_int (fun _ _ => rfl)) pa_nil)) (nomark _))))) (pss_cons (ps_set (i := 3) sc_pull.nd rfl (Or.inl rfl) (pe_ix ix_list (pe_ix ix_list (pv 0) pe_int (fun _ _ => rfl)) (pe_ix ix_list (pv 0) pe_int (fun _ _ => rfl)) (fun _ _ => rfl)))
      (pss_cons (ps_asg (pe_op op_add (pe_ix ix_list (pv 0) pe_int (fun _ _ => rfl)) pe_int) (pg_sub (pv 0) pe_int set_list))
      (pss_one (ps_if (pt_cmpR op_ge (pv 3) (pe_op op_pow pe_int pe_int) (nomark _)) (pss_one (ps_asg (pv 3) (pg_sub (pv 0) pe_int set_list))) (pss_cons (ps_set (i := 2) sc_pull.nd rfl (Or.inl rfl) (pe_op op_add (pe_op op_mul (pe_ix ix_list (pv 0) pe_int (fun _ _ => rfl)) pe_int) (pe_op op_mul (pe_op op_mod (pv 3) pe_int) pe_int)))
      (pss_one (ps_asg (pe_op op_mod (pe_op op_add (pv 2) pe_int) pe_int) (pg_sub (pv 0) pe_int set_list)))))))) pss_nil)
      (pss_cons (ps_if (pt_cmpR op_gt (pe_ix ix_list (pv 0) pe_int (fun _ _ => rfl)) pe_int (nomark _)) (pss_cons (ps_set (i := 4) sc_pull.nd rfl (Or.inl rfl) (pe_op op_mod (pe_ix ix_list (pv 0) pe_int (fun _ _ => rfl)) (pv 1)))
      (pss_cons (ps_asg (pe_op op_fdivW (pe_ix ix_list (pv 0) pe_int (fun _ _ => rfl)) (pv 1)) (pg_sub (pv 0) pe_int set_list))
      (pss_one (ps_ret (pv 4))))) pss_nil)
      (pss_cons (ps_set (i := 2) sc_pull.nd rfl (Or.inl rfl) (pe_op op_add (pe_op op_mul (pe_op op_mul (pe_ix ix_list (pv 0) pe_int (fun _ _ => rfl)) (pe_ix ix_list (pv 0) pe_int (fun _ _ => rfl))) pe_int) (pe_op op_mul (pe_ix ix_list (pv 0) pe_int (fun _ _ => rfl)) pe_int)))
      (pss_cons (ps_asg (pe_op op_mod (pe_op op_add (pv 2) (pe_op op_mul pe_int (pe_ix ix_list (pv 0) pe_int (fun _ _ => rfl)))) pe_int) (pg_sub (pv 0) pe_int set_list))
      (pss_one (ps_ret (pe_op op_mod (pe_op op_fdiv (pe_ix ix_list (pv 0) pe_int (fun _ _ => rfl)) pe_int) (pv 1))))))))), ?_⟩
    -- the count of the draws
    have B1 := B.put (j' := j) (c' := c + 1) B.i0 B.i1 B.m0 B.m1
    refine ⟨.ref b, rfl, b, _, 4, .int c, rfl, rfl, SqL.of B.hb, atI_nat (j := 4) rfl, c, 1, rfl, rfl, .ref b, rfl, b, _, 4, 4, rfl, rfl, B.hb, rfl, ?_⟩
    refine ⟨fun σ H' => ∃ y2 y3 y4, σ = [some (.ref b), some (.int n), y2, y3, y4] ∧ Bag H' b s1 ∧ Keep b H H', ?_, ?_⟩
    · -- the next cell of the script
      refine ⟨.ref b, rfl, b, _, 2, .int j, rfl, rfl, SqL.of B1.hb, atI_nat (j := 2) rfl, rfl, _, rfl, ite2 (fun e => ?_) (fun e => ?_)⟩
      · refine ⟨.ref b, rfl, b, _, 1, .int i, rfl, rfl, SqL.of B1.hb, atI_nat (j := 1) rfl, .ref b, rfl, b, _, 0, .ref s1, rfl, rfl, SqL.of B1.hb, atI_nat (j := 0) rfl, s1, _, rfl, .inl (SqL.of B1.hs), i, _, rfl, rfl, _, rfl, ite2 (fun e2 => ?_) (fun e2 => ?_)⟩
        · have e3 : i < (ns.length : Int) := by
            have := of_decide_eq_true e2
            rw [List.length_map] at this
            exact this
          obtain ⟨z, hz⟩ := at_ex B.i0 e3
          have B2 := B1.put (j' := j) (c' := c + 1) (show 0 ≤ i + 1 by have := B.i0; omega) (show i + 1 ≤ (ns.length : Int) by omega) B.m0 B.m1
          refine ⟨.ref b, rfl, b, _, 0, .ref s1, rfl, rfl, SqL.of B1.hb, atI_nat (j := 0) rfl, .ref b, rfl, b, _, 1, .int i, rfl, rfl, SqL.of B1.hb, atI_nat (j := 1) rfl, s1, _, i, _, rfl, rfl, SqL.of B1.hs, hz, ?_⟩
          refine ⟨.ref b, rfl, b, _, 1, .int i, rfl, rfl, SqL.of B1.hb, atI_nat (j := 1) rfl, i, 1, rfl, rfl, .ref b, rfl, b, _, 1, 1, rfl, rfl, B1.hb, rfl, ?_⟩
          refine ⟨_, rfl, 10, 18, rfl, rfl, ⟨by decide, by decide, by decide⟩, z, _, rfl, rfl, _, rfl, ite2 (fun e4 => ?_) (fun e4 => ?_)⟩
          · have B3 := B2.put (j' := z) (c' := c + 1) (show 0 ≤ i + 1 by have := B.i0; omega) (show i + 1 ≤ (ns.length : Int) by omega) B.m0 B.m1
            refine ⟨_, rfl, .ref b, rfl, b, _, 2, 2, rfl, rfl, B2.hb, rfl, ?_⟩
            exact ⟨_, _, _, rfl, ⟨ns, _, _, _, _, B3⟩, keep_put.trans (keep_put.trans keep_put)⟩
          · refine ⟨.ref b, rfl, b, _, 3, .int m, rfl, rfl, SqL.of B2.hb, atI_nat (j := 3) rfl, m, 40014, rfl, rfl, .inr ⟨by decide, by decide⟩, _, rfl, z, 2147483399, rfl, rfl, (by show (0 : Int) < 2147483399; decide), _, 69069, rfl, rfl, .inr ⟨by decide, by decide⟩, _, _, rfl, rfl, ?_⟩
            refine ⟨_, rfl, _, 11, rfl, rfl, _, 2147483399, rfl, rfl, (by show (0 : Int) < 2147483399; decide), .ref b, rfl, b, _, 3, 3, rfl, rfl, B2.hb, rfl, ?_⟩
            have B3 := B2.put (j' := j) (m' := (m * 40014 + z % 2147483399 * 69069 + 11) % 2147483399) (c' := c + 1) (show 0 ≤ i + 1 by have := B.i0; omega) (show i + 1 ≤ (ns.length : Int) by omega) (by omega) (by omega)
            exact ⟨_, _, _, rfl, ⟨ns, _, _, _, _, B3⟩, keep_put.trans (keep_put.trans keep_put)⟩
        · exact ⟨_, _, _, rfl, ⟨ns, _, _, _, _, B1⟩, keep_put⟩
      · exact ⟨_, _, _, rfl, ⟨ns, _, _, _, _, B1⟩, keep_put⟩
    · rintro σ H' ⟨y2, y3, y4, rfl, ⟨ns2, i2, j2, m2, c2, B2⟩, k2⟩
      refine ⟨.ref b, rfl, b, _, 2, .int j2, rfl, rfl, SqL.of B2.hb, atI_nat (j := 2) rfl, j2, 0, rfl, rfl, _, rfl, ite2 (fun e => ?_) (fun e => ?_)⟩
      · have B3 := B2.put (j' := j2 / n) (c' := c2) B2.i0 B2.i1 B2.m0 B2.m1
        refine ⟨.ref b, rfl, b, _, 2, .int j2, rfl, rfl, SqL.of B2.hb, atI_nat (j := 2) rfl, .int n, rfl, j2, n, rfl, rfl, h0, ?_⟩
        refine ⟨.ref b, rfl, b, _, 2, .int j2, rfl, rfl, SqL.of B2.hb, atI_nat (j := 2) rfl, .int n, rfl, j2, n, rfl, rfl, wide_div h0 h1 (by decide) (by decide), .ref b, rfl, b, _, 2, 2, rfl, rfl, B2.hb, rfl, ?_⟩
        exact ⟨_, rfl, q _ _ (Int.emod_nonneg _ (by omega)) (Int.emod_lt_of_pos _ h0) ⟨ns2, _, _, _, _, B3⟩ (k2.trans keep_put)⟩
      · have hm : -(2 ^ 64) < m2 ∧ m2 < 2 ^ 64 := ⟨by have := B2.m0; omega, by have := B2.m1; omega⟩
        refine ⟨.ref b, rfl, b, _, 3, .int m2, rfl, rfl, SqL.of B2.hb, atI_nat (j := 3) rfl, .ref b, rfl, b, _, 3, .int m2, rfl, rfl, SqL.of B2.hb, atI_nat (j := 3) rfl, m2, m2, rfl, rfl, .inl hm, _, 7, rfl, rfl, .inr ⟨by decide, by decide⟩,
          .ref b, rfl, b, _, 3, .int m2, rfl, rfl, SqL.of B2.hb, atI_nat (j := 3) rfl, m2, 40692, rfl, rfl, .inr ⟨by decide, by decide⟩, _, _, rfl, rfl, ?_⟩
        refine ⟨_, rfl, .ref b, rfl, b, _, 4, .int c2, rfl, rfl, SqL.of B2.hb, atI_nat (j := 4) rfl, 1013904223, c2, rfl, rfl, .inl ⟨by decide, by decide⟩, _, _, rfl, rfl, _, 2147483399, rfl, rfl, (by show (0 : Int) < 2147483399; decide), .ref b, rfl, b, _, 3, 3, rfl, rfl, B2.hb, rfl, ?_⟩
        have B3 := B2.put (j' := j2) (m' := (m2 * m2 * 7 + m2 * 40692 + 1013904223 * c2) % 2147483399) (c' := c2) B2.i0 B2.i1 (Int.emod_nonneg _ (by decide)) (Int.emod_lt_of_pos _ (by decide))
        refine ⟨.ref b, rfl, b, _, 3, _, rfl, rfl, SqL.of B3.hb, atI_nat (j := 3) rfl, _, 37, rfl, rfl, ⟨by decide, by decide⟩, .int n, rfl, _, n, rfl, rfl, h0, ?_⟩
        exact q _ _ (Int.emod_nonneg _ (by omega)) (Int.emod_lt_of_pos _ h0) ⟨ns2, _, _, _, _, B3⟩ (k2.trans keep_put)
def spOf : Sp := fun vs H Q _ => ∃ (b sb l : Addr) (xs : List V), vs = [.ref b, .ref l] ∧ Bag H b sb ∧ H l = some (.lst xs) ∧ l ≠ b ∧ 0 < xs.length ∧ xs.length ≤ 1000 ∧ ∀ (i : Nat) (v : V) (H' : Hp), xs[i]? = some v → Bag H' b sb → Keep b H H' → Q v H'
theorem ok_of (T : Txt K mg) : FnOk P w K mg base CX0 2 T.f_of T.d_of ["_law_bag", "_law_some"] spOf := by
  refine T.F_of.ok sc_of (fun vs H Q E h => ?_) (fun cdv A outer s H vs Q E hr h => ?_)
  · obtain ⟨b, sb, l, xs, rfl, _⟩ := h
    rfl
  · obtain ⟨b, sb, l, xs, rfl, B, hl, nl, h0, h1, q⟩ := h
    refine ⟨_, (pss_one (ps_ret (pe_ix ix_list (pv 1) (pe_call (ok_pull T) (hr.mono (by decide)) (by rfl) T.g_pull T.F_pull.kp T.b_pull .nil pass0 (pa_cons (pv 0) (pa_cons (pe_callB call_len_seq (by rfl) T.n_len (by decide +kernel) (pa_cons (pv 1) pa_nil)) pa_nil))) (fun _ _ => rfl)))), ?_⟩
    have hn : ((xs.length : Int)).natAbs < 2 ^ 100 := Nat.lt_of_le_of_lt (show (xs.length : Int).natAbs ≤ 1000 by omega) (by decide)
    refine ⟨.ref l, rfl, .ref b, rfl, .ref l, rfl, l, xs, rfl, .inl (SqL.of hl), b, sb, _, rfl, B, (by show (0 : Int) < (xs.length : Int); omega), hn, fun z H' z0 z1 B' k' => ?_⟩
    obtain ⟨v, e1, e2⟩ := at_some z0 z1
    exact ⟨l, xs, z, v, rfl, rfl, k'.list nl hl, e2, q _ _ _ e1 B' k'⟩
end
section
variable {base : Heap} {K : PySem.W.Frag} {mg : Str → Option Value} {P : Program} {w : World}
def okR (x : Int) : Bool := !inV (.int x) [.int 4, .int 9, .int 16, .int 25, .int 36, .int 49, .int 64, .int 81]
def rootsTo : Nat → List Int
  | 0 => []
  | n + 1 => if okR (2 + (n : Int)) = true then rootsTo n ++ [2 + (n : Int)] else rootsTo n
theorem rootsTo_len : ∀ n, (rootsTo n).length ≤ n
  | 0 => Nat.le_refl _
  | n + 1 => by
    have := rootsTo_len n
    unfold rootsTo
    split
    · rw [List.length_append]
      simp
      omega
    · omega
def IsRoot (d : Int) : Prop := 2 ≤ d ∧ d ≤ 99 ∧ ∃ k : Int, 0 ≤ k ∧ k * k < d ∧ d < (k + 1) * (k + 1)
def kOf (d : Int) : Int := if d < 4 then 1 else if d < 9 then 2 else if d < 16 then 3 else if d < 25 then 4 else if d < 36 then 5 else if d < 49 then 6 else if d < 64 then 7 else if d < 81 then 8 else 9
theorem roots_are {d : Int} (h : d ∈ rootsTo 98) : IsRoot d := by
  have z : ∀ d ∈ rootsTo 98, 2 ≤ d ∧ d ≤ 99 ∧ 0 ≤ kOf d ∧ kOf d * kOf d < d ∧ d < (kOf d + 1) * (kOf d + 1) := by decide +kernel
  obtain ⟨a, b, c⟩ := z d h
  exact ⟨a, b, kOf d, c⟩
theorem isRoot_by {d : Int} (h : 2 ≤ d ∧ d ≤ 99 ∧ 0 ≤ kOf d ∧ kOf d * kOf d < d ∧ d < (kOf d + 1) * (kOf d + 1)) : IsRoot d := ⟨h.1, h.2.1, kOf d, h.2.2⟩
def spRoots : Sp := fun vs H Q _ => vs = [] ∧ ∀ p H', H p = none → Same H H' → H' p = some (.lst ((rootsTo 98).map V.int)) → Q (.ref p) H'
theorem ok_roots (T : Txt K mg) : FnOk P w K mg base CX0 1 T.f_roots T.d_roots [] spRoots := by
  refine T.F_roots.ok sc_roots (fun vs H Q E h => ?_) (fun cdv A outer s H vs Q E hr h => ?_)
  · obtain ⟨rfl, _⟩ := h
    rfl
  · obtain ⟨rfl, q⟩ := h
    refine ⟨_, (pss_one (ps_ret (pe_lc (own := [("_law_d", 0)]) (g := (gName 0)) (tt := tTest (tOp (rIn K true) _ _)) (by rfl) sc_roots.nd (pi_range2 (by rfl) T.n_range (pa_cons pe_int (pa_cons pe_int pa_nil))) (blkOk_by (own := [("_law_d", 0)]) (N := ["_law_d"]) (sc := defScope s_roots) (by decide +kernel)) (fun _ _ _ _ _ => (pg_name (i := 0) sc_roots.nd rfl (Or.inl rfl))) (fun _ _ _ _ _ => (pts_one (pt_cmpR op_notIn_seq (pv 0) (pe_tup (pa_cons pe_int (pa_cons pe_int (pa_cons pe_int (pa_cons pe_int (pa_cons pe_int (pa_cons pe_int (pa_cons pe_int (pa_cons pe_int pa_nil))))))))) (by rfl)))) (fun _ _ _ _ _ => (pv 0))))), ?_⟩
    refine ⟨2, 100, rfl, ⟨by decide, by decide, by decide, by decide⟩, fun D hD => ?_⟩
    refine lc_range (lo := 2) (n := 98) (fun i H' => Same H H' ∧ H' D = some (.lst ((rootsTo i).map V.int))) ⟨same_new hD, upd_same⟩ ?_ ?_
    · rintro i H' hi ⟨sm, hd⟩
      refine ⟨rfl, _, rfl, (by show 8 ≤ sizeLine; decide), fun t ht => ?_⟩
      refine ⟨t, _, rfl, .inr (SqT.of upd_same), rfl, rfl, _, rfl, ?_⟩
      have hd2 : (upd H' t (.tup [.int 4, .int 9, .int 16, .int 25, .int 36, .int 49, .int 64, .int 81])) D = some (.lst ((rootsTo i).map V.int)) := (upd_ne (ne_of_none hd ht)).trans hd
      refine ite2 (fun e => ?_) (fun e => ?_)
      · refine ⟨_, rfl, _, hd2, ?_, ?_, ?_⟩
        · rw [List.length_map]
          have := rootsTo_len i
          exact small1000 (by omega)
        · exact fun a o z => (upd_ne (ne_of_none z hD)).trans ((sm.trans (same_new ht)) a o z)
        · rw [upd_same]
          have e' : okR (2 + (i : Int)) = true := e
          rw [show rootsTo (i + 1) = rootsTo i ++ [2 + (i : Int)] by
            show (if okR (2 + (i : Int)) = true then rootsTo i ++ [2 + (i : Int)] else rootsTo i) = _
            rw [if_pos e'], List.map_append]
          rfl
      · refine ⟨sm.trans (same_new ht), ?_⟩
        have e' : ¬ okR (2 + (i : Int)) = true := e
        rw [show rootsTo (i + 1) = rootsTo i by
          show (if okR (2 + (i : Int)) = true then rootsTo i ++ [2 + (i : Int)] else rootsTo i) = _
          rw [if_neg e']]
        exact hd2
    · rintro H' ⟨sm, hd⟩
      exact q D H' hD sm hd
end
section
variable {base : Heap} {K : PySem.W.Frag} {mg : Str → Option Value} {P : Program} {w : World}
def spARoot : Sp := fun vs H Q _ => ∃ b sb : Addr, vs = [.ref b] ∧ Bag H b sb ∧ ∀ d H', IsRoot d → Bag H' b sb → Keep b H H' → Q (.int d) H'
theorem root_in {i : Nat} {v : V} (h : ((rootsTo 98).map V.int)[i]? = some v) : ∃ d, v = .int d ∧ IsRoot d := by
  rw [List.getElem?_map] at h
  cases e : (rootsTo 98)[i]? with
  | none =>
    rw [e] at h
    cases h
  | some d =>
    rw [e] at h
    exact ⟨d, (Option.some.inj h).symm, roots_are (List.mem_of_getElem? e)⟩
theorem ok_a_root (T : Txt K mg) : FnOk P w K mg base CX0 3 T.f_a_root T.d_a_root ["_law_bag"] spARoot := by
  refine T.F_a_root.ok sc_a_root (fun vs H Q E h => ?_) (fun cdv A outer s H vs Q E hr h => ?_)
  · obtain ⟨b, sb, rfl, _⟩ := h
    rfl
  · obtain ⟨b, sb, rfl, B, q⟩ := h
    refine ⟨_, (pss_one (ps_ret (pe_call (ok_of T) (hr.mono (by decide)) (by rfl) T.g_of T.F_of.kp T.b_of .nil pass0 (pa_cons (pv 0) (pa_cons (pe_lst (pa_cons pe_int (pa_cons pe_int (pa_cons pe_int (pa_cons pe_int (pa_cons (pe_call (ok_of T) (hr.mono (by decide)) (by rfl) T.g_of T.F_of.kp T.b_of .nil pass0 (pa_cons (pv 0) (pa_cons (pe_call0 (ok_roots T) (hr.mono (by decide)) (by rfl) T.g_roots T.F_roots.kp T.b_roots .nil pass0) pa_nil))) (pa_cons (pe_call (ok_of T) (hr.mono (by decide)) (by rfl) T.g_of T.F_of.kp T.b_of .nil pass0 (pa_cons (pv 0) (pa_cons (pe_call0 (ok_roots T) (hr.mono (by decide)) (by rfl) T.g_roots T.F_roots.kp T.b_roots .nil pass0) pa_nil))) pa_nil))))))) pa_nil))))), ?_⟩
    have hz : ((rootsTo 98).map V.int).length = 90 := by decide +kernel
    refine ⟨.ref b, rfl, .ref b, rfl, rfl, fun p H1 hp s1 h1 => ?_⟩
    refine ⟨b, sb, p, _, rfl, B.same s1, h1, B.ne hp, by omega, by omega, fun i v H2 hv B2 k2 => ?_⟩
    obtain ⟨r1, rfl, i1⟩ := root_in hv
    refine ⟨.ref b, rfl, rfl, fun p' H3 hp' s3 h3 => ?_⟩
    refine ⟨b, sb, p', _, rfl, B2.same s3, h3, B2.ne hp', by omega, by omega, fun i' v' H4 hv' B4 k4 => ?_⟩
    obtain ⟨r2, rfl, i2⟩ := root_in hv'
    refine ⟨(by show 6 ≤ sizeLine; decide), fun l hl => ?_⟩
    refine ⟨b, sb, l, _, rfl, B4.new hl, upd_same, B4.ne hl, by simp, by simp, fun i v H5 hv B5 k5 => ?_⟩
    have kk : Keep b H H5 := (keep_of s1).trans (k2.trans ((keep_of s3).trans (k4.trans ((keep_new hl).trans k5))))
    match i, hv with
    | 0, hv => cases hv; exact q 2 H5 (isRoot_by (by decide)) B5 kk
    | 1, hv => cases hv; exact q 3 H5 (isRoot_by (by decide)) B5 kk
    | 2, hv => cases hv; exact q 5 H5 (isRoot_by (by decide)) B5 kk
    | 3, hv => cases hv; exact q 99 H5 (isRoot_by (by decide)) B5 kk
    | 4, hv => cases hv; exact q r1 H5 i1 B5 kk
    | 5, hv => cases hv; exact q r2 H5 i2 B5 kk
    | n + 6, hv => simp at hv
end
section
variable {base : Heap} {K : PySem.W.Frag} {mg : Str → Option Value} {P : Program} {w : World}
def spAnyPair : Sp := fun vs H Q _ => ∃ b sb : Addr, vs = [.ref b] ∧ Bag H b sb ∧ ∀ x y p H', -(10 ^ 6) ≤ x → x ≤ 10 ^ 6 → -(10 ^ 6) ≤ y → y ≤ 10 ^ 6 → H p = none → H' p = some (.tup [.int x, .int y]) → Bag H' b sb → Keep b H H' → Q (.ref p) H'
theorem ok_any_pair (T : Txt K mg) : FnOk P w K mg base CX0 3 T.f_any_pair T.d_any_pair ["_law_bag"] spAnyPair := by
  refine T.F_any_pair.ok sc_any_pair (fun vs H Q E h => ?_) (fun cdv A outer s H vs Q E hr h => ?_)
  · obtain ⟨b, sb, rfl, _⟩ := h
    rfl
  · obtain ⟨b, sb, rfl, B, q⟩ := h
    refine ⟨_, (pss_cons (ps_set (i := 1) sc_any_pair.nd rfl (Or.inl rfl) (pe_call (ok_of T) (hr.mono (by decide)) (by rfl) T.g_of T.F_of.kp T.b_of .nil pass0 (pa_cons (pv 0) (pa_cons (pe_lst (pa_cons pe_int (pa_cons pe_int (pa_cons pe_int (pa_cons pe_int (pa_cons (pe_op op_pow pe_int pe_int) pa_nil)))))) pa_nil))))
      (pss_one (ps_ret (pe_tup (pa_cons (pe_op op_sub (pe_call (ok_pull T) (hr.mono (by decide)) (by rfl) T.g_pull T.F_pull.kp T.b_pull .nil pass0 (pa_cons (pv 0) (pa_cons (pe_op op_add (pe_op op_mul pe_int (pv 1)) pe_int) pa_nil))) (pv 1)) (pa_cons (pe_op op_sub (pe_call (ok_pull T) (hr.mono (by decide)) (by rfl) T.g_pull T.F_pull.kp T.b_pull .nil pass0 (pa_cons (pv 0) (pa_cons (pe_op op_add (pe_op op_mul pe_int (pv 1)) pe_int) pa_nil))) (pv 1)) pa_nil)))))), ?_⟩
    refine ⟨.ref b, rfl, 10, 6, rfl, rfl, ⟨by decide, by decide, by decide⟩, (by show 5 ≤ sizeLine; decide), fun l hl => ?_⟩
    refine ⟨b, sb, l, _, rfl, B.new hl, upd_same, B.ne hl, by decide, by decide, fun i v H1 hv B1 k1 => ?_⟩
    obtain ⟨n, rfl, n0, n1⟩ : ∃ n : Int, v = .int n ∧ 1 ≤ n ∧ n ≤ 10 ^ 6 := by
      match i, hv with
      | 0, hv => cases hv; exact ⟨2, rfl, by decide, by decide⟩
      | 1, hv => cases hv; exact ⟨5, rfl, by decide, by decide⟩
      | 2, hv => cases hv; exact ⟨9, rfl, by decide, by decide⟩
      | 3, hv => cases hv; exact ⟨30, rfl, by decide, by decide⟩
      | 4, hv => cases hv; exact ⟨10 ^ 6, rfl, by decide, by decide⟩
      | n + 5, hv => simp at hv
    have hn : (2 * n + 1).natAbs < 2 ^ 100 := Nat.lt_of_le_of_lt (show (2 * n + 1).natAbs ≤ 2000001 by omega) (by decide)
    refine ⟨.ref b, rfl, _, rfl, 2, n, rfl, rfl, .inl ⟨by decide, by decide⟩, _, 1, rfl, rfl, b, sb, _, rfl, B1, (show (0 : Int) < 2 * n + 1 by omega), hn, fun z H2 z0 z1 B2 k2 => ?_⟩
    refine ⟨_, rfl, z, n, rfl, rfl, .ref b, rfl, _, rfl, 2, n, rfl, rfl, .inl ⟨by decide, by decide⟩, _, 1, rfl, rfl, b, sb, _, rfl, B2, (show (0 : Int) < 2 * n + 1 by omega), hn, fun z' H3 z0' z1' B3 k3 => ?_⟩
    refine ⟨_, rfl, z', n, rfl, rfl, (by show 2 ≤ sizeLine; decide), fun p hp => ?_⟩
    have kk : Keep b H H3 := (keep_new hl).trans (k1.trans (k2.trans k3))
    have hpn : H p = none := by
      cases e : H p with
      | none => rfl
      | some o => exact absurd (kk p o (B3.ne hp) e) (by rw [hp]; simp)
    exact q _ _ p _ (by omega) (by omega) (by omega) (by omega) hpn upd_same (B3.new hp) (kk.trans (keep_new hp))
end
section
variable {base : Heap} {K : PySem.W.Frag} {mg : Str → Option Value} {P : Program} {w : World}
def spSource (K : PySem.W.Frag) : Sp := fun vs H Q _ => ∃ (a : Addr) (ns : List Int), vs = [.ref a] ∧ SqL K H a (ns.map V.int) ∧ ns.length ≤ 63 ∧ ∀ b sb H', H b = none → Same H H' → Bag H' b sb → Q (.ref b) H'
theorem ok_source (T : Txt K mg) : FnOk P w K mg base CX0 1 T.f_source T.d_source ["_law_script"] (spSource K) := by
  refine T.F_source.ok sc_source (fun vs H Q E h => ?_) (fun cdv A outer s H vs Q E hr h => ?_)
  · obtain ⟨a, ns, rfl, _⟩ := h
    rfl
  · obtain ⟨a, ns, rfl, hS, hlen, q⟩ := h
    refine ⟨_, (pss_cons (ps_set (i := 1) sc_source.nd rfl (Or.inl rfl) pe_int)
      (pss_cons (ps_for PassesOwn.never rfl (pi_list (pe_slice sl_list (pv 0) po_none (po_some pe_int))) (pg_name (i := 2) sc_source.nd rfl (Or.inl rfl)) (pss_one (ps_set (i := 1) sc_source.nd rfl (Or.inl rfl) (pe_op op_mod (pe_op op_add (pe_op op_add (pe_op op_mul (pv 1) pe_int) (pe_op op_mod (pv 2) pe_int)) pe_int) pe_int))))
      (pss_one (ps_ret (pe_lst (pa_cons (pe_callTy call_list_of (by rfl) T.n_list (by decide +kernel) (pa_cons (pe_slice sl_list (pv 0) po_none (po_some pe_int)) pa_nil)) (pa_cons pe_int (pa_cons pe_int (pa_cons (pv 1) (pa_cons pe_int pa_nil)))))))))), ?_⟩
    have hcut : cutV (ns.map V.int) none (some 63) = ns.map V.int := by
      unfold cutV
      rw [HT.sIx_none, show HT.sIx (ns.map V.int).length (ns.map V.int).length (some 63) = min 63 (ns.map V.int).length from HT.sIx_nat _ _ 63]
      rw [List.drop_zero, List.length_map, Nat.sub_zero, Nat.min_eq_right hlen]
      exact List.take_of_length_le (by rw [List.length_map]; exact Nat.le_refl _)
    refine ⟨.ref a, rfl, 63, rfl, a, _, rfl, hS, fun p hp => ?_⟩
    rw [hcut]
    refine ⟨p, rfl, ⟨_, SqL.of upd_same⟩, for_list (K := K) (a := p) (xs := ns.map V.int) (fun i σ H2 => ∃ (m : Int) (y : Option V), σ = [some (.ref a), some (.int m), y] ∧ 0 ≤ m ∧ m < 2147483399 ∧ H2 = upd H p (.lst (ns.map V.int)))
      ⟨3812, none, rfl, by decide, by decide, rfl⟩ (fun i σ H2 _ ⟨_, _, _, _, _, e⟩ => by rw [e]; exact SqL.of upd_same) ?_ ?_⟩
    · rintro i x σ H2 hx ⟨m, y, rfl, m0, m1, rfl⟩
      obtain ⟨z, rfl⟩ : ∃ z, x = V.int z := by
        rw [List.getElem?_map] at hx
        cases e : ns[i]? with
        | none =>
          rw [e] at hx
          cases hx
        | some z =>
          rw [e] at hx
          exact ⟨z, (Option.some.inj hx).symm⟩
      refine ⟨_, rfl, m, 40692, rfl, rfl, .inr ⟨by decide, by decide⟩, _, rfl, z, 2147483399, rfl, rfl, (by show (0 : Int) < 2147483399; decide), _, _, rfl, rfl, _, 17, rfl, rfl, _, 2147483399, rfl, rfl, (by show (0 : Int) < 2147483399; decide), ?_⟩
      exact ⟨_, _, rfl, Int.emod_nonneg _ (by decide), Int.emod_lt_of_pos _ (by decide), rfl⟩
    · rintro σ H2 ⟨m, y, rfl, m0, m1, rfl⟩
      have hS2 : SqL K (upd H p (.lst (ns.map V.int))) a (ns.map V.int) := (same_new hp).seq hS
      refine ⟨.ref a, rfl, 63, rfl, a, _, rfl, hS2, fun p2 hp2 => ?_⟩
      rw [hcut]
      refine ⟨p2, _, rfl, .inl (SqL.of upd_same), fun l hl => ?_⟩
      refine ⟨_, rfl, (by show 5 ≤ sizeLine; decide), fun b hb => ?_⟩
      have sm : Same H (upd (upd (upd (upd H p (.lst (ns.map V.int))) p2 (.lst (ns.map V.int))) l (.lst (ns.map V.int))) b (.lst [.ref l, .int 0, .int 0, .int m, .int 0])) := (same_new hp).trans ((same_new hp2).trans ((same_new hl).trans (same_new hb)))
      exact q b l _ (((same_new hp).trans ((same_new hp2).trans (same_new hl))).free hb) sm ⟨ns, 0, 0, m, 0, upd_same, same_new hb _ _ upd_same, Int.le_refl _, by omega, m0, m1⟩
end
/-! ### like -/
def Flat (x y : V) : Prop := (∃ i, x = .int i ∧ y = .int i) ∨ (∃ b, x = .bl b ∧ y = .bl b) ∨ (x = .non ∧ y = .non) ∨ (∃ t, x = .str t ∧ y = .str t)
def Two (H : Hp) (p q : Addr) (xs ys : List V) : Prop := (H p = some (.tup xs) ∧ H q = some (.tup ys)) ∨ (H p = some (.lst xs) ∧ H q = some (.lst ys))
def Lk (H : Hp) : Nat → V → V → Prop
  | 0, x, y => Flat x y
  | n + 1, x, y => Flat x y ∨ ∃ (p q : Addr) (xs ys : List V), x = .ref p ∧ y = .ref q ∧ Two H p q xs ys ∧ xs.length = ys.length ∧ xs.length ≤ 1000 ∧ ∀ (i : Nat) (x y : V), xs[i]? = some x → ys[i]? = some y → Lk H n x y
theorem Two.same {H H' : Hp} {p q : Addr} {xs ys : List V} (h : Two H p q xs ys) (s : Same H H') : Two H' p q xs ys := by
  rcases h with ⟨a, b⟩ | ⟨a, b⟩
  · exact .inl ⟨s _ _ a, s _ _ b⟩
  · exact .inr ⟨s _ _ a, s _ _ b⟩
theorem Lk.same {H H' : Hp} (s : Same H H') : ∀ {n : Nat} {x y : V}, Lk H n x y → Lk H' n x y
  | 0, _, _, h => h
  | n + 1, _, _, h => by
    rcases h with h | ⟨p, q, xs, ys, e1, e2, t, l1, l2, a⟩
    · exact .inl h
    · exact .inr ⟨p, q, xs, ys, e1, e2, t.same s, l1, l2, fun i x y h1 h2 => (a i x y h1 h2).same s⟩
theorem Lk.flat {H : Hp} {n : Nat} {x y : V} (h : Flat x y) : Lk H n x y := match n with
  | 0 => h
  | _ + 1 => .inl h
section
variable {base : Heap} {K : PySem.W.Frag} {mg : Str → Option Value} {P : Program} {w : World}
def spLL (L : V → V → Hp → Prop) : Sp := fun vs H Q _ => ∃ x y : V, vs = [x, y] ∧ L x y H ∧ ∀ H', Same H H' → Q (.bl true) H'
theorem kit2 {a : String} {r1 r2 : Bool} (h1 : kitB a "tuple" = some r1) (h2 : kitB a "list" = some r2) : PySem.W.kitAny K (.type a) [.type "tuple", .type "list"] = some (r1 || r2) := by
  refine kitAny_cons (kit_ty h1) (fun e => ?_) (fun e => by rw [e]; rfl)
  subst e
  exact kitAny_cons (kit_ty h2) (fun e => by rw [e]; exact kitAny_nil) (fun e => by rw [e]; rfl)
theorem lk_core (T : Txt K mg) {k : Nat} {L L' : V → V → Hp → Prop} (G : FnOk P w K mg base CX0 k T.f_like T.d_like ["_law_found", "_law_due"] (spLL L')) (hs : ∀ x y H H', Same H H' → L' x y H → L' x y H')
    (hne : ∀ x y H, L x y H → Flat x y ∨ ∃ (p q : Addr) (xs ys : List V), x = .ref p ∧ y = .ref q ∧ Two H p q xs ys ∧ xs.length = ys.length ∧ xs.length ≤ 1000 ∧ ∀ (i : Nat) (x y : V), xs[i]? = some x → ys[i]? = some y → L' x y H) :
    FnOk P w K mg base CX0 (k + 1) T.f_like T.d_like ["_law_found", "_law_due"] (spLL L) := by
  refine T.F_like.ok sc_like (fun vs H Q E h => ?_) (fun cdv A outer s H vs Q E hr h => ?_)
  · obtain ⟨x, y, rfl, _⟩ := h
    rfl
  · obtain ⟨x, y, rfl, hl, qq⟩ := h
    refine ⟨_, (pss_cons (ps_if (pt_val (pe_callB call_isiT (by rfl) T.n_isinstance (by decide +kernel) (pa_cons (pv 1) (pa_cons (pe_tup (pa_cons (pe_bltn (v := .ty "tuple") (by rfl) T.n_tuple (by decide +kernel) rfl) (pa_cons (pe_bltn (v := .ty "list") (by rfl) T.n_list (by decide +kernel) rfl) pa_nil))) pa_nil)))) (pss_cons (ps_if (PW.pt (pw_or (pt_cmpR op_ne (pe_callB call_isi (by rfl) T.n_isinstance (by decide +kernel) (pa_cons (pv 0) (pa_cons (pe_bltn (v := .ty "tuple") (by rfl) T.n_tuple (by decide +kernel) rfl) pa_nil))) (pe_callB call_isi (by rfl) T.n_isinstance (by decide +kernel) (pa_cons (pv 1) (pa_cons (pe_bltn (v := .ty "tuple") (by rfl) T.n_tuple (by decide +kernel) rfl) pa_nil))) (nomark _)) (pw_or1 (pt_cmpR op_ne (pe_callB call_isi (by rfl) T.n_isinstance (by decide +kernel) (pa_cons (pv 0) (pa_cons (pe_bltn (v := .ty "list") (by rfl) T.n_list (by decide +kernel) rfl) pa_nil))) (pe_callB call_isi (by rfl) T.n_isinstance (by decide +kernel) (pa_cons (pv 1) (pa_cons (pe_bltn (v := .ty "list") (by rfl) T.n_list (by decide +kernel) rfl) pa_nil))) (nomark _))))) (pss_one (ps_ret pe_bl)) pss_nil)
      (pss_one (ps_ret (pe_and (pe_cmpR op_eq (pe_callB call_len_seq (by rfl) T.n_len (by decide +kernel) (pa_cons (pv 0) pa_nil)) (pe_callB call_len_seq (by rfl) T.n_len (by decide +kernel) (pa_cons (pv 1) pa_nil)) (nomark _)) (pe_one (pe_callB (cr_all rfl) (by rfl) T.n_all (by decide +kernel) (pa_cons (pe_lc (own := [("_law_k", 2)]) (g := (gName 2)) (tt := tYes) (te := tCall (spLL L') [] E0 (tCons (tOp (rIx K) _ _) (tCons (tOp (rIx K) _ _) _))) (by rfl) sc_like.nd (pi_range1 (by rfl) T.n_range (pa_cons (pe_callB call_len_seq (by rfl) T.n_len (by decide +kernel) (pa_cons (pv 1) pa_nil)) pa_nil)) (blkOk_by (own := [("_law_k", 2)]) (N := ["_law_found", "_law_due", "_law_k"]) (sc := defScope s_like) (by decide +kernel)) (fun _ _ _ _ _ => (pg_name (i := 2) sc_like.nd rfl (Or.inl rfl))) (fun _ _ _ _ _ => pts_nil) (fun _ _ _ _ _ => (pe_call G hr (by rfl) T.g_like T.F_like.kp T.b_like .nil pass0 (pa_cons (pe_ix ix_seq (pv 0) (pv 2) (fun _ _ => rfl)) (pa_cons (pe_ix ix_seq (pv 1) (pv 2) (fun _ _ => rfl)) pa_nil))))) pa_nil))))))) pss_nil)
      (pss_cons (ps_if (PW.pt (pw_or (pt_cmpR op_isN (pv 1) pe_non (nomark _)) (pw_or1 (pt_cmpR op_isN (pv 0) pe_non (nomark _))))) (pss_one (ps_ret (pe_and (pe_cmpR op_isN (pv 1) pe_non (nomark _)) (pe_one (pe_cmpR op_isN (pv 0) pe_non (nomark _)))))) pss_nil)
      (pss_one (ps_ret (pe_and (pe_cmpR op_eq (pe_callB call_isi (by rfl) T.n_isinstance (by decide +kernel) (pa_cons (pv 0) (pa_cons (pe_bltn (v := .ty "bool") (by rfl) T.n_bool (by decide +kernel) rfl) pa_nil))) (pe_callB call_isi (by rfl) T.n_isinstance (by decide +kernel) (pa_cons (pv 1) (pa_cons (pe_bltn (v := .ty "bool") (by rfl) T.n_bool (by decide +kernel) rfl) pa_nil))) (nomark _)) (pe_one (pe_cmpR op_eq (pv 0) (pv 1) (nomark _)))))))), ?_⟩
    refine ⟨_, rfl, by show 2 ≤ sizeLine; decide, fun tp htp => ?_⟩
    have sm := same_new (o := .tup [.ty "tuple", .ty "list"]) htp
    rcases hne x y H hl with (⟨i, rfl, rfl⟩ | ⟨b, rfl, rfl⟩ | ⟨rfl, rfl⟩ | ⟨i, rfl, rfl⟩) | ⟨p, q, xs, ys, rfl, rfl, hT, l1, l2, hA⟩
    · refine ⟨.int i, tp, [.ty "tuple", .ty "list"], .type "int", [.type "tuple", .type "list"], (false || false), rfl, upd_same, .cons (ClsV.ty _) (.cons (ClsV.ty _) .nil), TyX.base (TyOf.int _), kit2 (by decide +kernel) (by decide +kernel), _, rfl, iteF ?_⟩
      refine ⟨_, rfl, rfl, _, rfl, iteF ?_⟩
      refine ⟨_, rfl, rfl, _, rfl, iteF ?_⟩
      refine ⟨_, rfl, .int i, .ty "bool", _, _, false, rfl, ClsV.ty _, TyX.base (TyOf.int _), kit_ty (by decide +kernel), _, rfl, .int i, .ty "bool", _, _, false, rfl, ClsV.ty _, TyX.base (TyOf.int _), kit_ty (by decide +kernel), rfl, true, rfl, iteT ?_⟩
      refine ⟨_, rfl, _, rfl, rfl, ?_⟩
      rw [decide_eq_true rfl]
      exact qq _ sm
    · refine ⟨.bl b, tp, [.ty "tuple", .ty "list"], .type "bool", [.type "tuple", .type "list"], (false || false), rfl, upd_same, .cons (ClsV.ty _) (.cons (ClsV.ty _) .nil), TyX.base (TyOf.bl _), kit2 (by decide +kernel) (by decide +kernel), _, rfl, iteF ?_⟩
      refine ⟨_, rfl, rfl, _, rfl, iteF ?_⟩
      refine ⟨_, rfl, rfl, _, rfl, iteF ?_⟩
      refine ⟨_, rfl, .bl b, .ty "bool", _, _, true, rfl, ClsV.ty _, TyX.base (TyOf.bl _), kit_ty (by decide +kernel), _, rfl, .bl b, .ty "bool", _, _, true, rfl, ClsV.ty _, TyX.base (TyOf.bl _), kit_ty (by decide +kernel), rfl, true, rfl, iteT ?_⟩
      refine ⟨_, rfl, _, rfl, rfl, ?_⟩
      rw [decide_eq_true rfl]
      exact qq _ sm
    · refine ⟨.non, tp, [.ty "tuple", .ty "list"], .type "NoneType", [.type "tuple", .type "list"], (false || false), rfl, upd_same, .cons (ClsV.ty _) (.cons (ClsV.ty _) .nil), TyX.base TyOf.non, kit2 (by decide +kernel) (by decide +kernel), _, rfl, iteF ?_⟩
      refine ⟨_, rfl, rfl, _, rfl, iteT ?_⟩
      exact ⟨_, rfl, rfl, true, rfl, iteT ⟨_, rfl, rfl, qq _ sm⟩⟩
    · refine ⟨.str i, tp, [.ty "tuple", .ty "list"], .type "str", [.type "tuple", .type "list"], (false || false), rfl, upd_same, .cons (ClsV.ty _) (.cons (ClsV.ty _) .nil), TyX.base (TyOf.str _), kit2 (by decide +kernel) (by decide +kernel), _, rfl, iteF ?_⟩
      refine ⟨_, rfl, rfl, _, rfl, iteF ?_⟩
      refine ⟨_, rfl, rfl, _, rfl, iteF ?_⟩
      refine ⟨_, rfl, .str i, .ty "bool", _, _, false, rfl, ClsV.ty _, TyX.base (TyOf.str _), kit_ty (by decide +kernel), _, rfl, .str i, .ty "bool", _, _, false, rfl, ClsV.ty _, TyX.base (TyOf.str _), kit_ty (by decide +kernel), rfl, true, rfl, iteT ?_⟩
      refine ⟨_, rfl, _, rfl, rfl, ?_⟩
      rw [decide_eq_true rfl]
      exact qq _ sm
    · have hT' := hT.same sm
      rcases hT' with ⟨hp, hq⟩ | ⟨hp, hq⟩
      · refine ⟨.ref q, tp, [.ty "tuple", .ty "list"], .type "tuple", [.type "tuple", .type "list"], (true || false), rfl, upd_same, .cons (ClsV.ty _) (.cons (ClsV.ty _) .nil), TyX.base (TyOf.tup hq), kit2 (by decide +kernel) (by decide +kernel), _, rfl, iteT ?_⟩
        refine ⟨_, rfl, .ref p, .ty "tuple", _, _, true, rfl, ClsV.ty _, TyX.base (TyOf.tup hp), kit_ty (by decide +kernel), _, rfl, .ref q, .ty "tuple", _, _, true, rfl, ClsV.ty _, TyX.base (TyOf.tup hq), kit_ty (by decide +kernel), rfl, _, rfl, iteF ?_⟩
        refine ⟨_, rfl, .ref p, .ty "list", _, _, false, rfl, ClsV.ty _, TyX.base (TyOf.tup hp), kit_ty (by decide +kernel), _, rfl, .ref q, .ty "list", _, _, false, rfl, ClsV.ty _, TyX.base (TyOf.tup hq), kit_ty (by decide +kernel), rfl, _, rfl, iteF ?_⟩
        refine ⟨_, rfl, p, xs, rfl, .inr (SqT.of hp), _, rfl, q, ys, rfl, .inr (SqT.of hq), rfl, true, (by rw [l1, decide_eq_true rfl]), iteT ?_⟩
        refine ⟨_, rfl, q, ys, rfl, .inr (SqT.of hq), _, rfl, (by omega), (by omega), fun D hD => ?_⟩
        refine lc_range (lo := 0) (n := ys.length) (fun i H' => Same H H' ∧ H' D = some (.lst ((List.replicate i true).map V.bl))) ⟨sm.trans (same_new hD), upd_same⟩ ?_ ?_
        · rintro i H' hi ⟨sm', hd⟩
          obtain ⟨x1, e1, f1⟩ := at_some (xs := xs) (show 0 ≤ (0 : Int) + (i : Int) by omega) (by omega)
          obtain ⟨y1, e2, f2⟩ := at_some (xs := ys) (show 0 ≤ (0 : Int) + (i : Int) by omega) (by omega)
          rcases hT with ⟨hp0, hq0⟩ | ⟨hp0, hq0⟩
          · refine ⟨rfl, ⟨_, rfl, _, rfl, .inr (.inl ⟨p, xs, _, x1, rfl, rfl, SqT.of (sm' _ _ hp0), f1, _, rfl, _, rfl, .inr (.inl ⟨q, ys, _, y1, rfl, rfl, SqT.of (sm' _ _ hq0), f2, x1, y1, rfl, hs _ _ _ _ sm' (hA _ _ _ e1 e2), fun H2 s2 => ?_⟩)⟩)⟩⟩
            refine ⟨_, s2 _ _ hd, ?_, ?_, ?_⟩
            · rw [List.length_map, List.length_replicate]
              exact small1000 (by omega)
            · exact fun a o z => (upd_ne (ne_of_none z (sm.free hD))).trans (s2 _ _ (sm' a o z))
            · rw [upd_same, List.replicate_succ', List.map_append]
              rfl
          · exact absurd (sm _ _ hp0) (by rw [hp]; simp)
        · rintro H' ⟨sm', hd⟩
          refine ⟨D, _, rfl, SqL.of hd, ?_⟩
          rw [show (List.replicate ys.length true).all id = true by simp]
          exact qq _ sm'
      · refine ⟨.ref q, tp, [.ty "tuple", .ty "list"], .type "list", [.type "tuple", .type "list"], (false || true), rfl, upd_same, .cons (ClsV.ty _) (.cons (ClsV.ty _) .nil), TyX.base (TyOf.lst hq), kit2 (by decide +kernel) (by decide +kernel), _, rfl, iteT ?_⟩
        refine ⟨_, rfl, .ref p, .ty "tuple", _, _, false, rfl, ClsV.ty _, TyX.base (TyOf.lst hp), kit_ty (by decide +kernel), _, rfl, .ref q, .ty "tuple", _, _, false, rfl, ClsV.ty _, TyX.base (TyOf.lst hq), kit_ty (by decide +kernel), rfl, _, rfl, iteF ?_⟩
        refine ⟨_, rfl, .ref p, .ty "list", _, _, true, rfl, ClsV.ty _, TyX.base (TyOf.lst hp), kit_ty (by decide +kernel), _, rfl, .ref q, .ty "list", _, _, true, rfl, ClsV.ty _, TyX.base (TyOf.lst hq), kit_ty (by decide +kernel), rfl, _, rfl, iteF ?_⟩
        refine ⟨_, rfl, p, xs, rfl, .inl (SqL.of hp), _, rfl, q, ys, rfl, .inl (SqL.of hq), rfl, true, (by rw [l1, decide_eq_true rfl]), iteT ?_⟩
        refine ⟨_, rfl, q, ys, rfl, .inl (SqL.of hq), _, rfl, (by omega), (by omega), fun D hD => ?_⟩
        refine lc_range (lo := 0) (n := ys.length) (fun i H' => Same H H' ∧ H' D = some (.lst ((List.replicate i true).map V.bl))) ⟨sm.trans (same_new hD), upd_same⟩ ?_ ?_
        · rintro i H' hi ⟨sm', hd⟩
          obtain ⟨x1, e1, f1⟩ := at_some (xs := xs) (show 0 ≤ (0 : Int) + (i : Int) by omega) (by omega)
          obtain ⟨y1, e2, f2⟩ := at_some (xs := ys) (show 0 ≤ (0 : Int) + (i : Int) by omega) (by omega)
          rcases hT with ⟨hp0, hq0⟩ | ⟨hp0, hq0⟩
          · exact absurd (sm _ _ hp0) (by rw [hp]; simp)
          · refine ⟨rfl, ⟨_, rfl, _, rfl, .inl ⟨p, xs, _, x1, rfl, rfl, SqL.of (sm' _ _ hp0), f1, _, rfl, _, rfl, .inl ⟨q, ys, _, y1, rfl, rfl, SqL.of (sm' _ _ hq0), f2, x1, y1, rfl, hs _ _ _ _ sm' (hA _ _ _ e1 e2), fun H2 s2 => ?_⟩⟩⟩⟩
            refine ⟨_, s2 _ _ hd, ?_, ?_, ?_⟩
            · rw [List.length_map, List.length_replicate]
              exact small1000 (by omega)
            · exact fun a o z => (upd_ne (ne_of_none z (sm.free hD))).trans (s2 _ _ (sm' a o z))
            · rw [upd_same, List.replicate_succ', List.map_append]
              rfl
        · rintro H' ⟨sm', hd⟩
          refine ⟨D, _, rfl, SqL.of hd, ?_⟩
          rw [show (List.replicate ys.length true).all id = true by simp]
          exact qq _ sm'
theorem ok_likeN (T : Txt K mg) : ∀ n : Nat, FnOk P w K mg base CX0 (n + 1) T.f_like T.d_like ["_law_found", "_law_due"] (spLL fun x y H => Lk H n x y)
  | 0 => lk_core T (L' := fun _ _ _ => False) ⟨fun _ _ _ _ ⟨_, _, _, h, _⟩ => h.elim, fun _ _ _ _ _ _ _ _ _ _ _ _ _ ⟨_, _, _, h, _⟩ => h.elim⟩ (fun _ _ _ _ _ h => h) fun x y H h => .inl h
  | n + 1 => lk_core T (ok_likeN T n) (fun _ _ _ _ s h => h.same s) fun x y H h => h
theorem ok_like (T : Txt K mg) : FnOk P w K mg base CX0 6 T.f_like T.d_like ["_law_found", "_law_due"] (spLL fun x y H => Lk H 5 x y) := ok_likeN T 5
end
inductive LkAll (H : Hp) (n : Nat) : List V → List V → Prop
  | nil : LkAll H n [] []
  | cons {x y : V} {xs ys : List V} : Lk H n x y → LkAll H n xs ys → LkAll H n (x :: xs) (y :: ys)
theorem LkAll.get {H : Hp} {n : Nat} : ∀ {xs ys : List V}, LkAll H n xs ys → xs.length = ys.length ∧ ∀ (i : Nat) (x y : V), xs[i]? = some x → ys[i]? = some y → Lk H n x y := by
  intro xs ys h
  induction h with
  | nil => exact ⟨rfl, fun i x y h => by simp at h⟩
  | cons h t ih =>
    refine ⟨congrArg Nat.succ ih.1, fun i x y h1 h2 => ?_⟩
    cases i with
    | zero =>
      cases h1
      cases h2
      exact h
    | succ i => exact ih.2 i x y (by simpa using h1) (by simpa using h2)
theorem Lk.lists {H : Hp} {n : Nat} {p q : Addr} {xs ys : List V} (hp : H p = some (.lst xs)) (hq : H q = some (.lst ys)) (hl : xs.length ≤ 1000) (h : LkAll H n xs ys) : Lk H (n + 1) (.ref p) (.ref q) := .inr ⟨p, q, xs, ys, rfl, rfl, .inr ⟨hp, hq⟩, h.get.1, hl, h.get.2⟩
theorem Lk.tups {H : Hp} {n : Nat} {p q : Addr} {xs ys : List V} (hp : H p = some (.tup xs)) (hq : H q = some (.tup ys)) (hl : xs.length ≤ 1000) (h : LkAll H n xs ys) : Lk H (n + 1) (.ref p) (.ref q) := .inr ⟨p, q, xs, ys, rfl, rfl, .inl ⟨hp, hq⟩, h.get.1, hl, h.get.2⟩
theorem Lk.int {H : Hp} {n : Nat} {i j : Int} (e : i = j) : Lk H n (.int i) (.int j) := Lk.flat (.inl ⟨i, rfl, by rw [e]⟩)
theorem Lk.bl {H : Hp} {n : Nat} {i j : Bool} (e : i = j) : Lk H n (.bl i) (.bl j) := Lk.flat (.inr (.inl ⟨i, rfl, by rw [e]⟩))
theorem Lk.pair {H : Hp} {n : Nat} {p q : Addr} {x y x' y' : Int} (hp : H p = some (.tup [.int x, .int y])) (hq : H q = some (.tup [.int x', .int y'])) (e1 : x = x') (e2 : y = y') : Lk H (n + 1) (.ref p) (.ref q) :=
  .tups hp hq (by simp) (.cons (.int e1) (.cons (.int e2) .nil))
/-! ### the field of a caught error -/
/-- the error of the class cls with its dict at d: its word, its other field -/
structure ErrIs (K : PySem.W.Frag) (H : Hp) (cls : Value) (d : Option Addr) (w : Str) (fs : List (Str × V)) : Prop where
  ex : ∃ C dd : Addr, cls = .ref C ∧ d = some dd ∧ XfC K C ∧ H dd = some (.xd fs) ∧ ∀ f v, fs.lookup f = some v → PySem.W.findIn K (.ref C) f = some none
  wd : fs.lookup ("word" : Str) = some (.str w)
theorem ErrIs.same {K : PySem.W.Frag} {H H' : Hp} {cls : Value} {d : Option Addr} {w : Str} {fs : List (Str × V)} (h : ErrIs K H cls d w fs) (s : Same H H') : ErrIs K H' cls d w fs := by
  obtain ⟨⟨C, dd, e1, e2, x, hd, no⟩, wd⟩ := h
  exact ⟨⟨C, dd, e1, e2, x, s _ _ hd, no⟩, wd⟩
/-- a field is read -/
theorem ErrIs.read {K : PySem.W.Frag} {H : Hp} {a : Addr} {cls : Value} {d : Option Addr} {w : Str} {fs : List (Str × V)} (h : ErrIs K H cls d w fs) {f : Str} {v : V} {R : V → Prop} (hl : fs.lookup f = some v) (q : R v) :
    (V.ref a) = .ref a ∧ ∃ (C dd : Addr) (fs : List (Str × V)) (v : V), cls = .ref C ∧ d = some dd ∧ XfC K C ∧ PySem.W.findIn K (.ref C) f = some none ∧ H dd = some (.xd fs) ∧ fs.lookup f = some v ∧ R v := by
  obtain ⟨⟨C, dd, e1, e2, x, hd, no⟩, wd⟩ := h
  exact ⟨rfl, C, dd, fs, v, e1, e2, x, no _ _ hl, hd, hl, q⟩
def fieldOf (w : Str) : Option Str :=
  if inV (.str w) [.str "BadRoot", .str "BadCount", .str "NotLinked"] = true then some "number"
  else if inV (.str w) [.str "BadLength", .str "BadRow", .str "BadStep", .str "BadText", .str "BadDeed"] = true then some "at"
  else if inV (.str w) [.str "BadName", .str "Taken"] = true then some "name"
  else if inV (.str w) [.str "TooGreat", .str "Full"] = true then some "most"
  else if decide (V.str w = .str "NoSquares") = true then some "reason" else none
theorem fo0 {w : Str}  (e : inV (.str w) [.str "BadRoot", .str "BadCount", .str "NotLinked"] = true) : fieldOf w = some ("number" : Str) := by unfold fieldOf; rw [if_pos e]
theorem fo1 {w : Str} (b0 : ¬ (inV (.str w) [.str "BadRoot", .str "BadCount", .str "NotLinked"] = true)) (e : inV (.str w) [.str "BadLength", .str "BadRow", .str "BadStep", .str "BadText", .str "BadDeed"] = true) : fieldOf w = some ("at" : Str) := by unfold fieldOf; rw [if_neg b0, if_pos e]
theorem fo2 {w : Str} (b0 : ¬ (inV (.str w) [.str "BadRoot", .str "BadCount", .str "NotLinked"] = true)) (b1 : ¬ (inV (.str w) [.str "BadLength", .str "BadRow", .str "BadStep", .str "BadText", .str "BadDeed"] = true)) (e : inV (.str w) [.str "BadName", .str "Taken"] = true) : fieldOf w = some ("name" : Str) := by unfold fieldOf; rw [if_neg b0, if_neg b1, if_pos e]
theorem fo3 {w : Str} (b0 : ¬ (inV (.str w) [.str "BadRoot", .str "BadCount", .str "NotLinked"] = true)) (b1 : ¬ (inV (.str w) [.str "BadLength", .str "BadRow", .str "BadStep", .str "BadText", .str "BadDeed"] = true)) (b2 : ¬ (inV (.str w) [.str "BadName", .str "Taken"] = true)) (e : inV (.str w) [.str "TooGreat", .str "Full"] = true) : fieldOf w = some ("most" : Str) := by unfold fieldOf; rw [if_neg b0, if_neg b1, if_neg b2, if_pos e]
theorem fo4 {w : Str} (b0 : ¬ (inV (.str w) [.str "BadRoot", .str "BadCount", .str "NotLinked"] = true)) (b1 : ¬ (inV (.str w) [.str "BadLength", .str "BadRow", .str "BadStep", .str "BadText", .str "BadDeed"] = true)) (b2 : ¬ (inV (.str w) [.str "BadName", .str "Taken"] = true)) (b3 : ¬ (inV (.str w) [.str "TooGreat", .str "Full"] = true)) (e : decide (V.str w = .str "NoSquares") = true) : fieldOf w = some ("reason" : Str) := by unfold fieldOf; rw [if_neg b0, if_neg b1, if_neg b2, if_neg b3, if_pos e]
theorem fo5 {w : Str} (b0 : ¬ (inV (.str w) [.str "BadRoot", .str "BadCount", .str "NotLinked"] = true)) (b1 : ¬ (inV (.str w) [.str "BadLength", .str "BadRow", .str "BadStep", .str "BadText", .str "BadDeed"] = true)) (b2 : ¬ (inV (.str w) [.str "BadName", .str "Taken"] = true)) (b3 : ¬ (inV (.str w) [.str "TooGreat", .str "Full"] = true)) (b4 : ¬ (decide (V.str w = .str "NoSquares") = true)) : fieldOf w = none := by unfold fieldOf; rw [if_neg b0, if_neg b1, if_neg b2, if_neg b3, if_neg b4]
def fieldVal (w : Str) (fs : List (Str × V)) : Option V := match fieldOf w with
  | some f => fs.lookup f
  | none => some .non
section
variable {base : Heap} {K : PySem.W.Frag} {mg : Str → Option Value} {P : Program} {w : World}
def spFld (K : PySem.W.Frag) : Addr → Value → Option Addr → Sp := fun a cls d vs H Q _ => ∃ (wd : Str) (fs : List (Str × V)) (v : V), vs = [.ref a] ∧ ErrIs K H cls d wd fs ∧ fieldVal wd fs = some v ∧ ∀ H', Same H H' → Q v H'
theorem ok_field_of (T : Txt K mg) : FnP P w K mg base 1 T.f_field_of T.d_field_of ["_law_e"] (spFld K) := by
  refine fn_ofP T.F_field_of sc_field_of (fun a cls d vs H Q E h => ?_) (fun cdv A outer s H vs Q E p cls d zc dat hr h => ?_)
  · obtain ⟨wd, fs, v, rfl, _⟩ := h
    rfl
  · obtain ⟨wd, fs, v, rfl, E0, hv, q⟩ := h
    refine ⟨_, (pss_cons (ps_if (pt_cmpR op_in_seq (pe_xfG (a := p.1) (oe := p.2) (cls := cls) (d := d) List.mem_cons_self zc dat (pv 0)) (pe_tup (pa_cons pe_str (pa_cons pe_str (pa_cons pe_str pa_nil)))) (by rfl)) (pss_one (ps_ret (pe_xfG (a := p.1) (oe := p.2) (cls := cls) (d := d) List.mem_cons_self zc dat (pv 0)))) pss_nil)
      (pss_cons (ps_if (pt_cmpR op_in_seq (pe_xfG (a := p.1) (oe := p.2) (cls := cls) (d := d) List.mem_cons_self zc dat (pv 0)) (pe_tup (pa_cons pe_str (pa_cons pe_str (pa_cons pe_str (pa_cons pe_str (pa_cons pe_str pa_nil)))))) (by rfl)) (pss_one (ps_ret (pe_xfG (a := p.1) (oe := p.2) (cls := cls) (d := d) List.mem_cons_self zc dat (pv 0)))) pss_nil)
      (pss_cons (ps_if (pt_cmpR op_in_seq (pe_xfG (a := p.1) (oe := p.2) (cls := cls) (d := d) List.mem_cons_self zc dat (pv 0)) (pe_tup (pa_cons pe_str (pa_cons pe_str pa_nil))) (by rfl)) (pss_one (ps_ret (pe_xfG (a := p.1) (oe := p.2) (cls := cls) (d := d) List.mem_cons_self zc dat (pv 0)))) pss_nil)
      (pss_cons (ps_if (pt_cmpR op_in_seq (pe_xfG (a := p.1) (oe := p.2) (cls := cls) (d := d) List.mem_cons_self zc dat (pv 0)) (pe_tup (pa_cons pe_str (pa_cons pe_str pa_nil))) (by rfl)) (pss_one (ps_ret (pe_xfG (a := p.1) (oe := p.2) (cls := cls) (d := d) List.mem_cons_self zc dat (pv 0)))) pss_nil)
      (pss_one (ps_ret (pe_ifExp (pt_cmpR op_eq (pe_xfG (a := p.1) (oe := p.2) (cls := cls) (d := d) List.mem_cons_self zc dat (pv 0)) pe_str (nomark _)) (pe_xfG (a := p.1) (oe := p.2) (cls := cls) (d := d) List.mem_cons_self zc dat (pv 0)) pe_non))))))), ?_⟩
    have fv : ∀ {f : Str}, fieldOf wd = some f → fs.lookup f = some v := fun {f} e => by
      unfold fieldVal at hv
      rw [e] at hv
      exact hv
    refine ⟨_, rfl, E0.read E0.wd ?_⟩
    refine ⟨by show 3 ≤ sizeLine; decide, fun t0 n0 => ?_⟩
    have S1 := same_new (o := .tup [.str "BadRoot", .str "BadCount", .str "NotLinked"]) n0
    have E1 := E0.same S1
    refine ⟨t0, _, rfl, .inr (SqT.of upd_same), rfl, rfl, _, rfl, ite2 (fun e => ?_) (fun b0 => ?_)⟩
    · exact ⟨_, rfl, E1.read (fv (fo0  e)) (q _ S1)⟩
    refine ⟨_, rfl, E1.read E1.wd ?_⟩
    refine ⟨by show 5 ≤ sizeLine; decide, fun t1 n1 => ?_⟩
    have S2 := S1.trans (same_new (o := .tup [.str "BadLength", .str "BadRow", .str "BadStep", .str "BadText", .str "BadDeed"]) n1)
    have E2 := E0.same S2
    refine ⟨t1, _, rfl, .inr (SqT.of upd_same), rfl, rfl, _, rfl, ite2 (fun e => ?_) (fun b1 => ?_)⟩
    · exact ⟨_, rfl, E2.read (fv (fo1 b0 e)) (q _ S2)⟩
    refine ⟨_, rfl, E2.read E2.wd ?_⟩
    refine ⟨by show 2 ≤ sizeLine; decide, fun t2 n2 => ?_⟩
    have S3 := S2.trans (same_new (o := .tup [.str "BadName", .str "Taken"]) n2)
    have E3 := E0.same S3
    refine ⟨t2, _, rfl, .inr (SqT.of upd_same), rfl, rfl, _, rfl, ite2 (fun e => ?_) (fun b2 => ?_)⟩
    · exact ⟨_, rfl, E3.read (fv (fo2 b0 b1 e)) (q _ S3)⟩
    refine ⟨_, rfl, E3.read E3.wd ?_⟩
    refine ⟨by show 2 ≤ sizeLine; decide, fun t3 n3 => ?_⟩
    have S4 := S3.trans (same_new (o := .tup [.str "TooGreat", .str "Full"]) n3)
    have E4 := E0.same S4
    refine ⟨t3, _, rfl, .inr (SqT.of upd_same), rfl, rfl, _, rfl, ite2 (fun e => ?_) (fun b3 => ?_)⟩
    · exact ⟨_, rfl, E4.read (fv (fo3 b0 b1 b2 e)) (q _ S4)⟩
    refine ⟨_, rfl, E4.read E4.wd ?_⟩
    refine ⟨rfl, _, rfl, ite2 (fun e => ?_) (fun b4 => ?_)⟩
    · exact ⟨_, rfl, E4.read (fv (fo4 b0 b1 b2 b3 e)) (q _ S4)⟩
    · have e : fieldOf wd = none := fo5 b0 b1 b2 b3 b4
      have ev : v = .non := by
        unfold fieldVal at hv
        rw [e] at hv
        exact (Option.some.inj hv).symm
      rw [ev] at q
      exact q _ S4
end
/-! ### the def that asks, and tells what was raised -/
section
variable {K : PySem.W.Frag} {mg : Str → Option Value}
/-- what is told of an answer, of an error of the first, of the second, of the third kind -/
def Told (Q : VK) (w : Str) (v : V) (H : Hp) : Prop := ∀ H' p, Same H H' → H' p = some (.tup [.str w, v]) → Q (.ref p) H'
def Raised (K : PySem.W.Frag) (G : Addr) (Q : VK) : XK := fun cls d H => PySem.W.exmOne K cls (.ref G) = some true ∧ ∃ (w : Str) (fs : List (Str × V)) (v : V), ErrIs K H cls d w fs ∧ fieldVal w fs = some v ∧ Told Q w v H
/-- an error of the first kind, or a sheet that is missing -/
def Raised2 (K : PySem.W.Frag) (G M : Addr) (Q : VK) : XK := fun cls d H => Raised K G Q cls d H ∨ (PySem.W.exmOne K cls (.ref G) = some false ∧ PySem.W.exmOne K cls (.ref M) = some true ∧ ∃ (fs : List (Str × V)) (v : V), ErrIs K H cls d "NoSheet" fs ∧ fs.lookup ("sheet" : Str) = some v ∧ Told Q "NoSheet" v H)
def TTry (K : PySem.W.Frag) (G M N : Addr) : (XK → Hp → VK → Prop) → Hp → VK → Prop := fun tl H Q => tl (Raised2 K G M Q) H fun v H1 => [V.str "told", v].length ≤ sizeLine ∧ ∀ p, H1 p = none → Q (.ref p) (upd H1 p (.tup [.str "told", v]))
end
section
variable {base : Heap} {K : PySem.W.Frag} {mg : Str → Option Value} {w : World}
theorem try_gives {X : Cx} (T : Txt K mg) (hP : X.K = K) (hm : X.mg = mg) {k : Nat} (hr : Room (k + 3) X.A) {cdg : Value} {q : Str} :
    LamX.GivesTo X ["_law_ask", "_law_e"] "_law_try" (defScope s_try) T.f_try cdg (defBody s_try) "_law_ask" q (TTry K T.r_GrainError T.r_GrainMissing T.e_NothingLeft.C) := by
  subst hP
  subst hm
  intro f c' s H Q tl act hc h
  have hr2 : Room (k + 2) (X.A.deeper (envOfC "_law_try" (defScope s_try) s.heap.objs.size T.f_try cdg)) := hr.deeper _
  refine ⟨_, pss_one (ps_tryAs (X := (cxOf CX0 X.prog X.w X.K X.mg X.base ["_law_ask", "_law_e"] "_law_try" (defScope s_try) T.f_try cdg X.A X.stack s H E0).nox) (i := 1)
      (tb := fun W D σ H => ∃ Ech : XK, (∀ cls d σ' H', Ech cls d H' → W cls d σ' H') ∧ σ[0]? = some (some (.ref f)) ∧ H c' = some (LamX.CodeO c' q) ∧ tl Ech H fun v H1 => [V.str "told", v].length ≤ sizeLine ∧ ∀ p, H1 p = none → D.rt (.ref p) (upd H1 p (.tup [.str "told", v])))
      rfl rfl sc_try.nd rfl rfl (fun W pn xe tk _ => ?_)
      (.cons (c := .ref T.r_GrainError) (ts := fun a cls d => tRet (tTup (tCons (tXfA X.K a cls d "word" (tVar 1)) (tCons (fun σ H Q => tCons (tVar 1) tNil σ H fun vs H1 => spFld X.K a cls d vs H1 Q E0) tNil)))) ⟨by rfl, by decide, .inl T.g_GrainError⟩ (fun a oe cls d pn zc dat => pss_one (ps_ret (pe_tup (pa_cons (pe_xfG (a := a) (oe := oe) (cls := cls) (d := d) List.mem_cons_self zc dat (pv 1)) (pa_cons (pe_callP (a := a) (oe := oe) (cls := cls) (d := d) List.mem_cons_self zc dat (ok_field_of T) ?_ (by rfl) T.g_field_of T.F_field_of.kp T.b_field_of (pa_cons (pv 1) pa_nil)) pa_nil)))))
      (.cons (c := .ref T.r_GrainMissing) (ts := fun a cls d => tRet (tTup (tCons (tXfA X.K a cls d "word" (tVar 1)) (tCons (tIf (tTest (tOp rEq (tXfA X.K a cls d "word" (tVar 1)) (tC (.str "NoSheet")))) (tXfA X.K a cls d "sheet" (tVar 1)) (tXfA X.K a cls d "name" (tVar 1))) tNil)))) ⟨by rfl, by decide, .inl T.g_GrainMissing⟩ (fun a oe cls d pn zc dat => pss_one (ps_ret (pe_tup (pa_cons (pe_xfG (a := a) (oe := oe) (cls := cls) (d := d) List.mem_cons_self zc dat (pv 1)) (pa_cons (pe_ifExp (pt_cmpR op_eq (pe_xfG (a := a) (oe := oe) (cls := cls) (d := d) List.mem_cons_self zc dat (pv 1)) pe_str (nomark _)) (pe_xfG (a := a) (oe := oe) (cls := cls) (d := d) List.mem_cons_self zc dat (pv 1)) (pe_xfG (a := a) (oe := oe) (cls := cls) (d := d) List.mem_cons_self zc dat (pv 1))) pa_nil)))))
      (.cons (c := .ref T.e_NothingLeft.C) (ts := fun a cls d => tRet (tTup (tCons (tXfA X.K a cls d "word" (tVar 1)) (tCons (tC .non) tNil)))) ⟨by rfl, by decide, .inl T.e_NothingLeft.g⟩ (fun a oe cls d pn zc dat => pss_one (ps_ret (pe_tup (pa_cons (pe_xfG (a := a) (oe := oe) (cls := cls) (d := d) List.mem_cons_self zc dat (pv 1)) (pa_cons pe_non pa_nil))))) .nil)))), ?_⟩
  · constructor
    intro pins s' σ H' D I h'
    obtain ⟨Ech, hW, h1, h2, h3⟩ := h'
    have asked := fun p1 p2 => act W pn xe Ech p1 p2 tk hW
    exact (pss_one (ps_ret (pe_tup (pa_cons pe_str (pa_cons (asked _ _) pa_nil))))).run pins s' σ H' D I ⟨h1, h2, h3⟩
  · exact ⟨by have := hr.dp; show X.A.depth + 1 + 3 * 1 + 5 < _; omega, by have := hr.un; show X.A.units + 3 + 16 * 1 + 200 < _; omega⟩
  · refine ⟨Raised2 X.K T.r_GrainError T.r_GrainMissing Q, fun cls d σ' H' hR => ?_, rfl, hc, h⟩
    rcases hR with ⟨em, wd, fs, v, er, fv, q1⟩ | ⟨em1, em2, fs, v, er, fv, q1⟩
    · refine ⟨true, em, fun _ a na hl => ?_, fun z => nomatch z⟩
      have at1 : (σ'.set 1 (some (V.ref a)))[1]? = some (some (V.ref a)) := by
        rw [List.getElem?_set_self hl]
      refine ⟨_, at1, er.read er.wd ?_⟩
      refine ⟨_, at1, wd, fs, v, rfl, er, fv, fun H2 s2 => ⟨by show 2 ≤ sizeLine; decide, fun p hp => q1 _ p (s2.trans (same_new hp)) upd_same⟩⟩
    · refine ⟨false, em1, (fun z => nomatch z), fun _ => ⟨true, em2, fun _ a na hl => ?_, fun z => nomatch z⟩⟩
      have at1 : (σ'.set 1 (some (V.ref a)))[1]? = some (some (V.ref a)) := by
        rw [List.getElem?_set_self hl]
      refine ⟨_, at1, er.read er.wd ⟨_, at1, er.read er.wd ⟨rfl, true, by decide +kernel, iteT ⟨_, at1, er.read fv ⟨by show 2 ≤ sizeLine; decide, fun p hp => q1 _ p (same_new hp) upd_same⟩⟩⟩⟩⟩
end
/-! ### calls of a def with a star parameter -/
section
variable {X : Cx}
theorem pe_callR {CX : CXT} {k : Nat} {f : Addr} {sp : Sp} {E : XK} {x : Str} {p pos : Pos} {e : Expr} {es : List Expr} {t : TA}
    (F : FnR X.prog X.w X.K X.mg X.base CX k f sp) (hr : Room k X.A) (hg : Gl X x) (hm : X.mg x = some (.ref f)) (hk : PySem.W.keepIn X.K (.ref f) = true) (hx : Passes CX X E) (ha : PA X (e :: es) t)
    (hdb : (x == ("__debug__" : Str)) = false := by decide) (he : starEach (e :: es) X.env = (false, eval e X.env) :: starEach es X.env := by rfl)
    (hpl : (backTo pos (starEach es X.env)).any (·.1) = false := by rfl) :
    PE X (.Call (.Name x p) (e :: es) [] pos) (fun σ H Q => t σ H fun vs H1 => sp vs H1 Q E) :=
  ⟨fun pins s σ H Q I h => wpAny_Call_Name_kw (ld_glob I hg hm (PySem.W.callWith_K (h₀ := X.base) I.ok.mod.kin hk
    (thn (ha.run pos pins s σ H _ I h) fun us s1 ⟨vs, H1, I1, r, q⟩ => ⟨I1.kIn, wpAny_call (run_fnR F hr hx I1 r q)⟩) he hpl) hdb)⟩
theorem pe_callR0 {CX : CXT} {k : Nat} {f : Addr} {sp : Sp} {E : XK} {x : Str} {p pos : Pos}
    (F : FnR X.prog X.w X.K X.mg X.base CX k f sp) (hr : Room k X.A) (hg : Gl X x) (hm : X.mg x = some (.ref f)) (hk : PySem.W.keepIn X.K (.ref f) = true) (hx : Passes CX X E)
    (hdb : (x == ("__debug__" : Str)) = false := by decide) : PE X (.Call (.Name x p) [] [] pos) (fun _ H Q => sp [] H Q E) :=
  ⟨fun pins s σ H Q I h => wpAny_Call_Name_kw (ld_glob I hg hm (PySem.W.callWith_K0 I.kIn hk (wpAny_call (run_fnR (us := []) F hr hx I .nil h))) hdb)⟩
end
/-! ### lists of ints that comprehensions make -/
def Pt (H : Hp) (D : Addr) (ns : List Int) (i : Nat) (H' : Hp) : Prop := Same H H' ∧ H' D = some (.lst ((ns.take i).map V.int))
theorem pt_step {H H' : Hp} {D : Addr} {ns : List Int} {i : Nat} {z : Int} (h : Pt H D ns i H') (hD : H D = none) (hz : ns[i]? = some z) : Pt H D ns (i + 1) (upd H' D (.lst ((ns.take i).map V.int ++ [.int z]))) := by
  refine ⟨fun a o e => (upd_ne (ne_of_none e hD)).trans (h.1 a o e), ?_⟩
  rw [upd_same, List.take_add_one, hz, List.map_append]
  rfl
theorem pt_size {ns : List Int} {i : Nat} (h : ns.length ≤ 1000) : ((ns.take i).map V.int).length < sizeLine := by
  rw [List.length_map, List.length_take]
  exact small1000 (by omega)
theorem pt_end {H H' : Hp} {D : Addr} {ns : List Int} {i : Nat} (h : Pt H D ns i H') (hi : ns.length ≤ i) : Same H H' ∧ H' D = some (.lst (ns.map V.int)) := by
  have := h.2
  rw [List.take_of_length_le hi] at this
  exact ⟨h.1, this⟩
/-! ### pairs -/
def PairAt (K : PySem.W.Frag) (H : Hp) (v : V) (x y : Int) : Prop := ∃ t : Addr, v = .ref t ∧ SqT K H t [.int x, .int y]
theorem PairAt.same {K : PySem.W.Frag} {H H' : Hp} {v : V} {x y : Int} (h : PairAt K H v x y) (s : Same H H') : PairAt K H' v x y := by
  obtain ⟨t, e, h⟩ := h
  exact ⟨t, e, Evl.ex_t (show Evl.Ex H H' from s) h⟩
inductive PairsAt (K : PySem.W.Frag) (H : Hp) : List V → List (Int × Int) → Prop
  | nil : PairsAt K H [] []
  | cons {v : V} {vs : List V} {x y : Int} {ps : List (Int × Int)} : PairAt K H v x y → PairsAt K H vs ps → PairsAt K H (v :: vs) ((x, y) :: ps)
theorem PairsAt.get {K : PySem.W.Frag} {H : Hp} : ∀ {vs : List V} {ps : List (Int × Int)}, PairsAt K H vs ps → ∀ {i : Nat} {v : V}, vs[i]? = some v → ∃ x y, ps[i]? = some (x, y) ∧ PairAt K H v x y := by
  intro vs ps h
  induction h with
  | nil =>
    intro i v h
    simp at h
  | cons p t ih =>
    intro i v h
    cases i with
    | zero =>
      cases h
      exact ⟨_, _, rfl, p⟩
    | succ i => exact ih (i := i) (by simpa using h)
theorem PairsAt.same {K : PySem.W.Frag} {H H' : Hp} (s : Same H H') : ∀ {vs : List V} {ps : List (Int × Int)}, PairsAt K H vs ps → PairsAt K H' vs ps := by
  intro vs ps h
  induction h with
  | nil => exact .nil
  | cons p t ih => exact .cons (p.same s) ih
theorem PairsAt.len {K : PySem.W.Frag} {H : Hp} : ∀ {vs : List V} {ps : List (Int × Int)}, PairsAt K H vs ps → vs.length = ps.length
  | _, _, .nil => rfl
  | _, _, .cons p t => congrArg Nat.succ t.len
def s1 (ps : List (Int × Int)) : Int := (ps.map (·.1)).sum
def s2 (ps : List (Int × Int)) : Int := (ps.map (·.2)).sum
/-- a new pair -/
def NewPair (H : Hp) (x y : Int) (Q : VK) : Prop := ∀ p H', H p = none → Same H H' → H' p = some (.tup [.int x, .int y]) → Q (.ref p) H'
/-! ### tuples stay -/
theorem tup_keep {H H' : Hp} {b sb : Addr} (B : Bag H b sb) (k : Keep b H H') (p : Addr) (xs : List V) (h : H p = some (.tup xs)) : H' p = some (.tup xs) := k _ _ (B.tup h) h
theorem tup_put {H : Hp} {l : Addr} {ys zs : List V} (hl : H l = some (.lst ys)) (p : Addr) (xs : List V) (h : H p = some (.tup xs)) : (upd H l (.lst zs)) p = some (.tup xs) := (upd_ne (ne_of h hl (by intro z; cases z))).trans h
theorem tup_same {H H' : Hp} (s : Same H H') (p : Addr) (xs : List V) (h : H p = some (.tup xs)) : H' p = some (.tup xs) := s _ _ h
/-! ### alike, from its parts -/
/-! ### the sign by squares -/
def ab (i : Int) : Int := if i < 0 then -i else i
def vl (a b d : Int) : Int := a * ab a + d * b * ab b
def sgnI (x : Int) : Int := (if decide (0 < x) = true then 1 else 0) - (if decide (x < 0) = true then 1 else 0)
theorem sgnI_pos {x : Int} (h : 0 < x) : sgnI x = 1 := by
  unfold sgnI
  rw [if_pos (decide_eq_true h), if_neg (by simp; omega)]
  rfl
theorem sgnI_neg {x : Int} (h : x < 0) : sgnI x = -1 := by
  unfold sgnI
  rw [if_neg (by simp; omega), if_pos (decide_eq_true h)]
  rfl
theorem sgnI_zero : sgnI 0 = 0 := by decide
theorem ab_abs (i : Int) : (ab i).natAbs = i.natAbs := by
  unfold ab
  split <;> omega
theorem ab_neg {i : Int} (h : i < 0) : ab i = -i := if_pos h
theorem ab_nn {i : Int} (h : 0 ≤ i) : ab i = i := if_neg (by omega)
section
variable {base : Heap} {K : PySem.W.Frag} {mg : Str → Option Value} {P : Program} {w : World}
def spSign (K : PySem.W.Frag) : Sp := fun vs H Q _ => ∃ (t : Addr) (d a b : Int), vs = [.ref t, .int d] ∧ SqT K H t [.int a, .int b] ∧ d.natAbs < 2 ^ 64 ∧ a.natAbs < 2 ^ 9000 ∧ b.natAbs < 2 ^ 9000 ∧ Q (.int (sgnI (vl a b d))) H
theorem ok_lsign (T : Txt K mg) : FnOk P w K mg base CX0 1 T.f_lsign T.d_lsign ["_law_pair", "_law_root"] (spSign K) := by
  refine T.F_lsign.ok sc_lsign (fun vs H Q E h => ?_) (fun cdv A outer s H vs Q E hr h => ?_)
  · obtain ⟨t, d, a, b, rfl, _⟩ := h
    rfl
  · obtain ⟨t, d, a, b, rfl, hT, d1, a1, b1, q⟩ := h
    refine ⟨_, (pss_cons (ps_set (i := 2) sc_lsign.nd rfl (Or.inl rfl) (pe_op op_add (pe_op op_mulW (pe_ix ix_tup (pv 0) pe_int (fun _ _ => rfl)) (pe_callB call_abs (by rfl) T.n_abs (by decide +kernel) (pa_cons (pe_ix ix_tup (pv 0) pe_int (fun _ _ => rfl)) pa_nil))) (pe_op op_mulW (pe_op op_mulW (pv 1) (pe_ix ix_tup (pv 0) pe_int (fun _ _ => rfl))) (pe_callB call_abs (by rfl) T.n_abs (by decide +kernel) (pa_cons (pe_ix ix_tup (pv 0) pe_int (fun _ _ => rfl)) pa_nil)))))
      (pss_one (ps_ret (pe_op op_sub (pe_callTy call_int1 (by rfl) T.n_int (by decide +kernel) (pa_cons (pe_cmpR op_gt (pv 2) pe_int (nomark _)) pa_nil)) (pe_callTy call_int1 (by rfl) T.n_int (by decide +kernel) (pa_cons (pe_cmpR op_lt (pv 2) pe_int (nomark _)) pa_nil)))))), ?_⟩
    have a2 : (ab a).natAbs < 2 ^ 9000 := by rw [ab_abs]; exact a1
    have b2 : (ab b).natAbs < 2 ^ 9000 := by rw [ab_abs]; exact b1
    have m1 : (d * b).natAbs < 2 ^ (64 + 9000) := wide_lt d1 b1
    refine ⟨_, rfl, t, _, 0, .int a, rfl, rfl, hT, atI_nat (j := 0) rfl, _, rfl, t, _, 0, .int a, rfl, rfl, hT, atI_nat (j := 0) rfl, a, rfl, a, _, rfl, rfl, wide_mul a1 a2 (by decide) (by decide) (by decide),
      _, rfl, _, rfl, t, _, 1, .int b, rfl, rfl, hT, atI_nat (j := 1) rfl, d, b, rfl, rfl, wide_mul d1 b1 (by decide) (by decide) (by decide), _, rfl, t, _, 1, .int b, rfl, rfl, hT, atI_nat (j := 1) rfl, b, rfl, _, _, rfl, rfl, wide_mul m1 b2 (by decide) (by decide) (by decide), _, _, rfl, rfl, ?_⟩
    exact ⟨_, rfl, vl a b d, 0, rfl, rfl, .inr ⟨_, rfl, _, rfl, vl a b d, 0, rfl, rfl, .inr ⟨_, rfl, _, _, rfl, rfl, q⟩⟩⟩
end
/-! ### sign, compare, is_length -/
section
variable {base : Heap} {K : PySem.W.Frag} {mg : Str → Option Value} {P : Program} {w : World}
def spPSign (K : PySem.W.Frag) : Sp := fun vs H Q _ => ∃ (v : V) (d a b : Int), vs = [v, .int d] ∧ PairAt K H v a b ∧ d.natAbs < 2 ^ 64 ∧ a.natAbs < 2 ^ 9000 ∧ b.natAbs < 2 ^ 9000 ∧ Q (.int (sgnI (vl a b d))) H
theorem ok_sign (T : Txt K mg) : FnOk P w K mg base CX0 1 T.f_sign T.d_sign ["pair", "root"] (spPSign K) := by
  refine T.F_sign.ok sc_sign (fun vs H Q E h => ?_) (fun cdv A outer s H vs Q E hr h => ?_)
  · obtain ⟨t, d, a, b, rfl, _⟩ := h
    rfl
  · obtain ⟨v, d, a, b, rfl, ⟨t, rfl, hT⟩, d1, a1, b1, q⟩ := h
    refine ⟨_, (pss_cons (ps_asg (pv 0) (pg_tup (by rfl) (pgs_cons (pg_name (i := 3) sc_sign.nd rfl (Or.inl rfl)) (pgs_cons (pg_name (i := 4) sc_sign.nd rfl (Or.inl rfl)) pgs_nil))))
      (pss_cons (ps_set (i := 2) sc_sign.nd rfl (Or.inl rfl) (pe_op op_add (pe_op op_mulW (pv 3) (pe_callB call_abs (by rfl) T.n_abs (by decide +kernel) (pa_cons (pv 3) pa_nil))) (pe_op op_mulW (pe_op op_mulW (pv 1) (pv 4)) (pe_callB call_abs (by rfl) T.n_abs (by decide +kernel) (pa_cons (pv 4) pa_nil)))))
      (pss_cons (ps_if (pt_cmpR op_gt (pv 2) pe_int (nomark _)) (pss_one (ps_ret pe_int)) pss_nil)
      (pss_cons (ps_if (pt_cmpR op_lt (pv 2) pe_int (nomark _)) (pss_one (ps_ret (pe_un un_neg pe_int))) pss_nil)
      (pss_one (ps_ret pe_int)))))), ?_⟩
    have a2 : (ab a).natAbs < 2 ^ 9000 := by rw [ab_abs]; exact a1
    have b2 : (ab b).natAbs < 2 ^ 9000 := by rw [ab_abs]; exact b1
    have m1 : (d * b).natAbs < 2 ^ (64 + 9000) := wide_lt d1 b1
    refine ⟨_, rfl, t, _, rfl, hT, rfl, .int a, [.int b], rfl, .int b, [], rfl, rfl, ?_⟩
    refine ⟨_, rfl, _, rfl, a, rfl, a, _, rfl, rfl, wide_mul a1 a2 (by decide) (by decide) (by decide),
      _, rfl, _, rfl, d, b, rfl, rfl, wide_mul d1 b1 (by decide) (by decide) (by decide), _, rfl, b, rfl, _, _, rfl, rfl, wide_mul m1 b2 (by decide) (by decide) (by decide), _, _, rfl, rfl, ?_⟩
    refine ⟨_, rfl, vl a b d, 0, rfl, rfl, _, rfl, ite2 (fun e => ?_) (fun e => ?_)⟩
    · rw [sgnI_pos (of_decide_eq_true e)] at q
      exact q
    · have e1 : ¬ 0 < vl a b d := fun z => e (decide_eq_true z)
      refine ⟨_, rfl, vl a b d, 0, rfl, rfl, _, rfl, ite2 (fun e => ?_) (fun e => ?_)⟩
      · rw [sgnI_neg (of_decide_eq_true e)] at q
        exact ⟨1, rfl, q⟩
      · have e2 : ¬ vl a b d < 0 := fun z => e (decide_eq_true z)
        rw [show vl a b d = 0 by omega, sgnI_zero] at q
        exact q
end
section
variable {base : Heap} {K : PySem.W.Frag} {mg : Str → Option Value} {P : Program} {w : World}
def spIsLen (K : PySem.W.Frag) : Sp := fun vs H Q _ => ∃ (v : V) (d a b : Int), vs = [v, .int d] ∧ PairAt K H v a b ∧ d.natAbs < 2 ^ 64 ∧ a.natAbs < 2 ^ 9000 ∧ b.natAbs < 2 ^ 9000 ∧ Q (.bl (decide (0 < sgnI (vl a b d)))) H
theorem ok_is_length (T : Txt K mg) : FnOk P w K mg base CX0 2 T.f_is_length T.d_is_length ["pair", "root"] (spIsLen K) := by
  refine T.F_is_length.ok sc_is_length (fun vs H Q E h => ?_) (fun cdv A outer s H vs Q E hr h => ?_)
  · obtain ⟨v, d, a, b, rfl, _⟩ := h
    rfl
  · obtain ⟨v, d, a, b, rfl, h1, d1, a1, b1, q⟩ := h
    refine ⟨_, (pss_one (ps_ret (pe_cmpR op_gt (pe_call (ok_sign T) (hr.mono (by decide)) (by rfl) T.g_sign T.F_sign.kp T.b_sign .nil pass0 (pa_cons (pv 0) (pa_cons (pv 1) pa_nil))) pe_int (nomark _)))), ?_⟩
    exact ⟨_, rfl, _, rfl, v, d, a, b, rfl, h1, d1, a1, b1, _, 0, rfl, rfl, q⟩
end
/-! ### whole_root, floor_of -/
theorem bits_up {n : Int} (h : 0 ≤ n) : n < 2 ^ (Builtin.Int.intBits n) := by
  obtain ⟨m, rfl⟩ := Int.eq_ofNat_of_zero_le h
  have h1 : (m : Int).natAbs = m := rfl
  have h2 : m < 2 ^ (Builtin.Int.intBits (m : Int)) := by
    unfold Builtin.Int.intBits
    rw [h1]
    split
    · rename_i z
      have z' : m = 0 := by
        first
          | exact z
          | (have := z; simp at this; omega)
      subst z'
      decide
    · exact Nat.lt_log2_self
  have h3 : ((m : Nat) : Int) < ((2 ^ (Builtin.Int.intBits (m : Int)) : Nat) : Int) := by exact_mod_cast h2
  rw [Int.natCast_pow] at h3
  exact h3
theorem bits_le {n : Int} {k : Nat} (hk : 0 < k) (h : n.natAbs < 2 ^ k) : Builtin.Int.intBits n ≤ k := by
  have := PySem.Flt.log2_lt_of hk h
  unfold Builtin.Int.intBits
  split
  · omega
  · omega
theorem guess_up {n : Int} {k : Nat} (h : 0 ≤ n) (hk : Builtin.Int.intBits n ≤ 2 * k) : n < (1 * 2 ^ k + 1) * (1 * 2 ^ k + 1) := by
  have h1 := bits_up h
  have h2 : (2 : Int) ^ (Builtin.Int.intBits n) ≤ 2 ^ (2 * k) := by
    have : 2 ^ (Builtin.Int.intBits n) ≤ 2 ^ (2 * k) := Nat.pow_le_pow_right (by decide) hk
    exact_mod_cast this
  have h3 : (2 : Int) ^ (2 * k) = 2 ^ k * 2 ^ k := by
    rw [Nat.two_mul, Int.pow_add]
  have h4 : (0 : Int) ≤ 2 ^ k := by
    have : 0 ≤ (2 ^ k : Nat) := Nat.zero_le _
    exact_mod_cast this
  rw [h3] at h2
  generalize (2 : Int) ^ k = x at h2 h4 ⊢
  grind
section
variable {base : Heap} {K : PySem.W.Frag} {mg : Str → Option Value} {P : Program} {w : World}
def spWhole : Sp := fun vs H Q _ => ∃ n : Int, vs = [.int n] ∧ 0 ≤ n ∧ n.natAbs < 2 ^ 8000 ∧ ∀ g : Int, 0 ≤ g → g * g ≤ n → n < (g + 1) * (g + 1) → Q (.int g) H
def WRoot (n : Int) (H : Hp) (m : Nat) (σ : L2.St) (H' : Hp) : Prop := ∃ g : Int, σ = [some (.int n), some (.int g)] ∧ H' = H ∧ 0 ≤ g ∧ g.natAbs < 2 ^ 4002 ∧ n < (g + 1) * (g + 1) ∧ m = g.toNat
theorem ok_whole_root (T : Txt K mg) : FnOk P w K mg base CX0 1 T.f_whole_root T.d_whole_root ["number"] spWhole := by
  refine T.F_whole_root.ok sc_whole_root (fun vs H Q E h => ?_) (fun cdv A outer s H vs Q E hr h => ?_)
  · obtain ⟨n, rfl, _⟩ := h
    rfl
  · obtain ⟨n, rfl, n0, n1, q⟩ := h
    refine ⟨_, (pss_cons (ps_set (i := 1) sc_whole_root.nd rfl (Or.inl rfl) (pe_op op_shl pe_int (pe_op op_fdiv (pe_op op_add (pe_bits (pv 0)) pe_int) pe_int)))
      (pss_cons (ps_while PassesOwn.never (pt_cmpR op_gt (pe_op op_mulW (pv 1) (pv 1)) (pv 0) (nomark _)) (pss_one (ps_set (i := 1) sc_whole_root.nd rfl (Or.inl rfl) (pe_op op_fdiv (pe_op op_add (pv 1) (pe_op op_fdivW (pv 0) (pv 1))) pe_int))))
      (pss_one (ps_ret (pv 1))))), ?_⟩
    have hb := bits_le (by decide) n1
    have e1 : (((Builtin.Int.intBits n : Nat) : Int) + 1) / 2 = (((Builtin.Int.intBits n + 1) / 2 : Nat) : Int) := by omega
    have e2 : ((((Builtin.Int.intBits n : Nat) : Int) + 1) / 2).toNat = (Builtin.Int.intBits n + 1) / 2 := by rw [e1]; rfl
    refine ⟨_, rfl, n, rfl, _, 1, rfl, rfl, _, 2, rfl, rfl, ⟨by decide, by decide⟩, 1, _, rfl, rfl, ⟨by omega, by omega, by decide⟩, ?_⟩
    dsimp only
    rw [e2]
    refine ⟨WRoot n H, ⟨_, (1 * 2 ^ ((Builtin.Int.intBits n + 1) / 2)), rfl, rfl, ?_, ?_, guess_up n0 (by omega), rfl⟩, ?_⟩
    · have : 0 ≤ (2 ^ ((Builtin.Int.intBits n + 1) / 2) : Nat) := Nat.zero_le _
      have z : (0 : Int) ≤ 2 ^ ((Builtin.Int.intBits n + 1) / 2) := by exact_mod_cast this
      omega
    · rw [Int.one_mul, Int.natAbs_pow]
      exact Nat.pow_lt_pow_right (by decide) (by omega)
    · rintro m σ H' ⟨g, rfl, rfl, g0, g1, g2, rfl⟩
      refine ⟨_, rfl, _, rfl, g, g, rfl, rfl, wide_mul g1 g1 (by decide) (by decide) (by decide), _, rfl, _, n, rfl, rfl, _, rfl, ite2 (fun e => ?_) (fun e => ?_)⟩
      · have e' : n < g * g := of_decide_eq_true e
        have gp : 0 < g := by
          rcases Int.lt_or_le 0 g with z | z
          · exact z
          · have : g = 0 := by omega
            rw [this] at e'
            omega
        refine ⟨fun σ' H'' => ∃ m', m' < g.toNat ∧ WRoot n H' m' σ' H'', fun _ _ z => z, ?_⟩
        have d1 := newton_dn gp e'
        have d2 := newton_nn gp n0
        refine ⟨_, rfl, _, rfl, _, rfl, n, g, rfl, rfl, wide_div gp g1 (by decide) (by decide), g, _, rfl, rfl, _, 2, rfl, rfl, ⟨by decide, by decide⟩, ?_⟩
        exact ⟨_, by omega, (g + n / g) / 2, rfl, rfl, d2, Nat.lt_of_le_of_lt (by omega) g1, newton_up gp n0, rfl⟩
      · have e' : ¬ n < g * g := fun z => e (decide_eq_true z)
        exact ⟨_, rfl, q g g0 (by omega) g2⟩
end
/-! ### is_root, check_root -/
def isRB (n : Int) : Bool := decide (2 ≤ n ∧ n ≤ 99) && okR n
theorem sq_dec : ∀ n : Nat, n < 100 → 2 ≤ n → ∀ g : Nat, g < 10 → g * g ≤ n → n < (g + 1) * (g + 1) → (!decide (g * g = n)) = okR (n : Int) := by decide +kernel
theorem isR_of {n g : Int} (h0 : 2 ≤ n) (h1 : n ≤ 99) (g0 : 0 ≤ g) (g1 : g * g ≤ n) (g2 : n < (g + 1) * (g + 1)) : (!decide (V.int (g * g) = V.int n)) = isRB n := by
  obtain ⟨m, rfl⟩ := Int.eq_ofNat_of_zero_le (show 0 ≤ n by omega)
  obtain ⟨k, rfl⟩ := Int.eq_ofNat_of_zero_le g0
  have hk : k < 10 := by
    rcases Nat.lt_or_ge k 10 with z | z
    · exact z
    · have := sq_le (show (0 : Int) ≤ 10 by decide) (show (10 : Int) ≤ (k : Int) by omega)
      omega
  have := sq_dec m (by omega) (by omega) k hk (by exact_mod_cast g1) (by exact_mod_cast g2)
  unfold isRB
  have e99 : decide (2 ≤ (m : Int) ∧ (m : Int) ≤ 99) = true := decide_eq_true ⟨h0, h1⟩
  rw [e99, Bool.true_and, ← this]
  congr 1
  by_cases z : k * k = m
  · rw [decide_eq_true z, decide_eq_true (by subst z; rw [Int.natCast_mul])]
  · rw [decide_eq_false z, decide_eq_false (fun e => z (by have := V.int.inj e; exact_mod_cast this))]
section
variable {base : Heap} {K : PySem.W.Frag} {mg : Str → Option Value} {w : World}
def spIsRoot : Sp := fun vs H Q _ => ∃ n : Int, vs = [.int n] ∧ Q (.bl (isRB n)) H
theorem ok_is_root {P : Program} (T : Txt K mg) : FnOk P w K mg base CX0 2 T.f_is_root T.d_is_root ["number"] spIsRoot := by
  refine T.F_is_root.ok sc_is_root (fun vs H Q E h => ?_) (fun cdv A outer s H vs Q E hr h => ?_)
  · obtain ⟨n, rfl, _⟩ := h
    rfl
  · obtain ⟨n, rfl, q⟩ := h
    refine ⟨_, (pss_cons (ps_if (PW.pt (pw_or (pt_cmpR op_lt (pv 0) pe_int (nomark _)) (pw_or1 (pt_cmpR op_gt (pv 0) pe_int (nomark _))))) (pss_one (ps_ret pe_bl)) pss_nil)
      (pss_cons (ps_set (i := 1) sc_is_root.nd rfl (Or.inl rfl) (pe_call (ok_whole_root T) (hr.mono (by decide)) (by rfl) T.g_whole_root T.F_whole_root.kp T.b_whole_root .nil pass0 (pa_cons (pv 0) pa_nil)))
      (pss_one (ps_ret (pe_cmpR op_ne (pe_op op_mulW (pv 1) (pv 1)) (pv 0) (nomark _)))))), ?_⟩
    refine ⟨_, rfl, n, 2, rfl, rfl, _, rfl, ite2 (fun e => ?_) (fun e => ?_)⟩
    · have : ¬ (2 ≤ n ∧ n ≤ 99) := by have := of_decide_eq_true e; omega
      unfold isRB at q
      rw [decide_eq_false this] at q
      exact q
    refine ⟨_, rfl, n, 99, rfl, rfl, _, rfl, ite2 (fun e2 => ?_) (fun e2 => ?_)⟩
    · have : ¬ (2 ≤ n ∧ n ≤ 99) := by have := of_decide_eq_true e2; omega
      unfold isRB at q
      rw [decide_eq_false this] at q
      exact q
    have h2 : 2 ≤ n := by
      have : ¬ n < 2 := fun z => e (decide_eq_true z)
      omega
    have h99 : n ≤ 99 := by
      have : ¬ n > 99 := fun z => e2 (decide_eq_true z)
      omega
    refine ⟨_, rfl, n, rfl, by omega, Nat.lt_of_le_of_lt (show n.natAbs ≤ 99 by omega) (Nat.lt_of_lt_of_le (show 99 < 2 ^ 7 by decide) (Nat.pow_le_pow_right (by decide) (by decide))), fun g g0 g1 g2 => ?_⟩
    have gb : g.natAbs < 2 ^ 7 := by
      have : g ≤ 99 := by
        rcases Int.lt_or_le 99 g with z | z
        · have := sq_le (show (0 : Int) ≤ 99 by decide) (Int.le_of_lt z)
          omega
        · exact z
      show g.natAbs < 128
      omega
    refine ⟨_, rfl, _, rfl, g, g, rfl, rfl, wide_mul gb gb (by decide) (by decide) (by decide), _, rfl, rfl, ?_⟩
    rw [isR_of h2 h99 g0 g1 g2]
    exact q
end
/-! ### what is asked of the def that asks -/
section
variable {X : Cx} {k : Nat} {c P0 : Addr} {params : Arguments} {body d : Expr} {v0 : V} {scope : Scope} {t : XK → TE} {p lpos pos : Pos} {b : Str}
theorem one_tab {P0 : Addr} {q : Str} : ∀ p ∈ [(P0, q)], p.1 = P0 → p.2 = q := by
  intro p hp _
  rw [List.mem_singleton.mp hp]
theorem pe_try (T : Txt X.K X.mg) (hg : Gl X "_law_try") (TB : LamX.TabB X.base X.mg c P0) (hcode : X.env.code = .ref c) (hr : Room (k + 3) X.A) (L : LamX.LamS X.env.scope scope) (hdef : defaultsOf params X.env = ([], []))
    (hbind : ∀ (q : Str) (cl : List (Str × Addr)) (pm cv ctv : Value), bindArgs (PySem.W.kla_fn "<lambda>" q params body scope cl pm cv ctv) ⟨[], []⟩ = pure [])
    (hbody : ∀ (A : Around) (outer : List Env) (s : Shared) (H : Hp) (E : XK) (f c' : Addr), Room (k + 1) (A.deeper (LamX.lamEnv X scope s.heap.objs.size f c')) → PE (LamX.lamCx X A outer s H E scope f c') body (t E)) :
    PE X (.Call (.Name "_law_try" p) [.Lambda params body scope lpos] [] pos) (LamX.tLam [(P0, X.env.qual ++ "<lambda>")] (TTry X.K T.r_GrainError T.r_GrainMissing T.e_NothingLeft.C) t) := by
  obtain ⟨oc2, od2, kV2, doc2, pm2, an2, cdv2, ct2, osl2, eT, lkT, cdT⟩ := T.F_try.ex
  have bT := T.b_try
  rw [eT] at bT
  rw [eT] at lkT
  exact LamX.pe_lamcall hg T.g_try T.F_try.kp lkT cdT bT sc_try rfl (Or.inl rfl) (try_gives T rfl rfl (k := k) hr) TB hcode (List.mem_singleton.mpr rfl) one_tab hr L hdef hbind hbody
theorem pass_never {X : Cx} {P : Program} {w : World} : Passes (L2.CX P w) X (fun _ _ _ => False) := by
  intro pins σ H s e s' I z
  obtain ⟨_, _, _, _, _, _, _, _, _, _, _, _, he⟩ := z
  exact he.elim
end
/-! ### an error of the first kind, told -/
section
variable {P : Program} {K : PySem.W.Frag} {mg : Str → Option Value} {G : Addr} {st : Stmt} {nm qual : Str} {B newId initId : String} {bmB : List Value}
theorem exm_er (T : Er P K mg B newId initId bmB [.ref G] st nm qual) {cg : ClassData} (hg : PySem.W.clsIn K G = some cg) (tg : PySem.W.typeIn K (.ref G) = some (.type "type")) (sb : PySem.W.subIn K (.ref G) (.type "BaseException") = some true) : PySem.W.exmOne K (.ref T.C) (.ref G) = some true := by
  unfold PySem.W.exmOne
  rw [if_pos (by rw [sb]; rfl)]
  unfold PySem.W.kitCls
  dsimp only
  rw [hg, tg, if_pos (show ((some cg).isSome && some (Value.type "type") == some (Value.type "type")) = true from show (true && some (Value.type "type") == some (Value.type "type")) = true by decide +kernel)]
  show PySem.W.mroIn K T.C (.ref G) = _
  obtain ⟨cd, hc, _, hm⟩ := T.cl
  unfold PySem.W.mroIn
  rw [hc, Option.bind_some, hm]
  show some ((Value.ref T.C :: ([Value.ref G] ++ _)).contains (.ref G)) = some true
  congr 1
  rw [List.contains_cons, List.cons_append, List.contains_cons, beq_self_eq_true]
  simp
theorem raised_er (T : Er P K mg B newId initId bmB [.ref G] st nm qual) {cg : ClassData} (hg : PySem.W.clsIn K G = some cg) (tg : PySem.W.typeIn K (.ref G) = some (.type "type")) (sb : PySem.W.subIn K (.ref G) (.type "BaseException") = some true)
    {w : Str} {fs : List (Str × V)} {v : V} (no : ∀ f v, fs.lookup f = some v → PySem.W.findIn K (.ref T.C) f = some none) (wd : fs.lookup ("word" : Str) = some (.str w)) (fv : fieldVal w fs = some v)
    {Q : VK} {d : Addr} {Hf : Hp} (hd : Hf d = some (.xd fs)) (q : Told Q w v Hf) : Raised K G Q (.ref T.C) (some d) Hf :=
  ⟨exm_er T hg tg sb, w, fs, v, ⟨⟨_, d, rfl, rfl, xfc_of T, hd, no⟩, wd⟩, fv, q⟩
/-- an error of the third kind -/
theorem exm_mro {pre : List Value} {D : Addr} (T : Er P K mg B newId initId bmB pre st nm qual) {cg : ClassData} (hg : PySem.W.clsIn K D = some cg) (tg : PySem.W.typeIn K (.ref D) = some (.type "type")) (sb : PySem.W.subIn K (.ref D) (.type "BaseException") = some true) : PySem.W.exmOne K (.ref T.C) (.ref D) = some ((Value.ref T.C :: (pre ++ bmB)).contains (.ref D)) := by
  unfold PySem.W.exmOne
  rw [if_pos (by rw [sb]; rfl)]
  unfold PySem.W.kitCls
  dsimp only
  rw [hg, tg, if_pos (show ((some cg).isSome && some (Value.type "type") == some (Value.type "type")) = true from show (true && some (Value.type "type") == some (Value.type "type")) = true by decide +kernel)]
  show PySem.W.mroIn K T.C (.ref D) = _
  obtain ⟨cd, hc, _, hm⟩ := T.cl
  unfold PySem.W.mroIn
  rw [hc, Option.bind_some, hm]
  rfl
theorem name_ne {pre : List Value} {D : Addr} {n : Str} (T : Er P K mg B newId initId bmB pre st nm qual) (hg : ∃ cg : ClassData, PySem.W.clsIn K D = some cg ∧ cg.name = n) (ne : n ≠ nm) : D ≠ T.C := by
  rintro rfl
  obtain ⟨cg, h1, h2⟩ := hg
  obtain ⟨cd, h3, h4, _⟩ := T.cl
  rw [h3] at h1
  cases h1
  exact ne (h2.symm.trans h4)
theorem no_two {C : Addr} {f1 : Str} {v1 v2 : V} (h1 : PySem.W.findIn K (.ref C) f1 = some none) (h2 : PySem.W.findIn K (.ref C) "word" = some none) : ∀ f v, List.lookup f [(f1, v1), (("word" : Str), v2)] = some v → PySem.W.findIn K (.ref C) f = some none := by
  intro f v e
  simp only [List.lookup] at e
  split at e
  · rename_i z
    rw [eq_of_beq z]
    exact h1
  · split at e
    · rename_i z
      rw [eq_of_beq z]
      exact h2
    · cases e
theorem no_one {C : Addr} {v2 : V} (h2 : PySem.W.findIn K (.ref C) "word" = some none) : ∀ f v, List.lookup f [(("word" : Str), v2)] = some v → PySem.W.findIn K (.ref C) f = some none := by
  intro f v e
  simp only [List.lookup] at e
  split at e
  · rename_i z
    rw [eq_of_beq z]
    exact h2
  · cases e
end
/-! ### what stays where lambdas are made -/
theorem Bag.extN {H H' : Hp} {b sb : Addr} (B : Bag H b sb) (e : LamX.ExtN H H') : Bag H' b sb := by
  obtain ⟨ns, i, j, m, c, h1, h2, h3, h4, h5, h6⟩ := B
  exact ⟨ns, i, j, m, c, e _ _ h1 (fun _ z => by cases z), e _ _ h2 (fun _ z => by cases z), h3, h4, h5, h6⟩
theorem lst_extN {H H' : Hp} {a : Addr} {xs : List V} (h : H a = some (.lst xs)) (e : LamX.ExtN H H') : H' a = some (.lst xs) := e _ _ h (fun _ z => by cases z)
theorem tup_extN {H H' : Hp} {a : Addr} {xs : List V} (h : H a = some (.tup xs)) (e : LamX.ExtN H H') : H' a = some (.tup xs) := e _ _ h (fun _ z => by cases z)
theorem tabs_keep {H H' : Hp} {b sb : Addr} {T : List (Addr × Str)} (t : LamX.Tabs T H) (B : Bag H b sb) (k : Keep b H H') : LamX.Tabs T H' := by
  intro p hp
  obtain ⟨ps, h1, h2, h3⟩ := t p hp
  obtain ⟨ns, i, j, m, c, B⟩ := B
  refine ⟨ps, k _ _ (ne_of h1 B.hb (by intro z; cases z)) h1, h2, fun pos cv hc => ?_⟩
  obtain ⟨c', e1, e2⟩ := h3 pos cv hc
  exact ⟨c', e1, k _ _ (ne_of e2 B.hb (by intro z; unfold LamX.CodeO at z; cases z)) e2⟩
/-! ### a lambda with one parameter that has a default, handed to a def that calls it -/
/-- its own names are no names of the def around it; none of them is captured -/
structure LamD (N : List Str) (sc scope : Scope) (b : Str) : Prop where
  kind : scope.kind = .function
  co : scope.isCoroutine = false
  gen : scope.isGenerator = false
  par : scope.names.lookup b = some .local
  own : ∀ y ∈ scope.names, (y.2 = .local → y.1 ∉ N) ∧ y.2 ≠ .cell
  free : ∀ y ∈ scope.names, y.2 = .free → sc.names.lookup y.1 = some .cell ∨ sc.names.lookup y.1 = some .free
theorem LamD.has {X : Cx} {scope : Scope} {N : List Str} {b : Str} (L : LamD N X.env.scope scope b) (ok : X.Ok) : ∀ y ∈ scope.names, y.2 = .free → ∃ c, X.env.cells.lookup y.1 = some c := by
  intro y m e
  exact ok.has _ (L.free y m e)
theorem no_frame {X : Cx} {pins : List (Addr × Obj)} {σ : L2.St} {H : Hp} {s : Shared} (I : Inv X pins σ H s) {b : Addr} (ge : s.heap.objs.size ≤ b) : b ∉ frs X.stack := by
  intro m
  rcases List.mem_cons.mp (I.stkSub _ m) with z | z
  · have lt := I.lt
    rw [← z] at lt
    exact Nat.lt_irrefl _ (Nat.lt_of_lt_of_le lt ge)
  · exact I.nofs ge z
section
variable {X : Cx} {pins : List (Addr × Obj)} {σ : L2.St} {H : Hp} {s : Shared}
/-- what stands behind the making: the function at f, its defaults at D -/
structure MadeD (X : Cx) (H1 : Hp) (s' : Shared) (params : Arguments) (body : Expr) (scope : Scope) (f c' D : Addr) (u : Value) : Prop where
  at_f : ∃ doc pm ctv, s'.heap.get? f = some (PySem.W.kdv_obj "<lambda>" (X.env.qual ++ "<lambda>") params (.expr body) scope (cloFrom X.env.cells scope.names []) (.ref D) doc pm c' ctv)
  at_D : s'.heap.get? D = some (PySem.W.kdv_tup [u])
  nf : H1 f = none
  nD : H1 D = none
  ff : f ∉ frs X.stack
  fD : D ∉ frs X.stack
  cd : H1 c' = some (LamX.CodeO c' (X.env.qual ++ "<lambda>"))
theorem lamd_make {T : List (Addr × Str)} {c P : Addr} {params : Arguments} {body d : Expr} {v0 : V} {scope : Scope} {pos : Pos} {Q : Value → Shared → Prop} (I : Inv X pins σ H s) (TB : LamX.TabB X.base X.mg c P) (hcode : X.env.code = .ref c)
    (hm : (P, X.env.qual ++ "<lambda>") ∈ T) (hu : ∀ p ∈ T, p.1 = P → p.2 = X.env.qual ++ "<lambda>") (hT : LamX.Tabs T H) (hk0 : params.kw_defaults = []) (hd : params.defaults = [d]) (pd : PE X d (tC v0)) (hfree : ∀ y ∈ scope.names, y.2 = .free → ∃ c, X.env.cells.lookup y.1 = some c)
    (h : ∀ (f c' D : Addr) (u : Value) (H1 : Hp) (s' : Shared), Inv X pins σ H1 s' → LamX.ExtN H H1 → LamX.Tabs T H1 → MadeD X H1 s' params body scope f c' D u → Q (.ref f) s') :
    wpAny (model X.prog X.w) X.A (eval (.Lambda params body scope pos) X.env) Q X.xe s := by
  refine PySem.W.kdv_lam (by rw [hd]; rfl) hk0 ?_
  rw [hd]
  refine PySem.W.kdv_all1 (thn (pd.run pins s σ H (fun _ H' => H' = H) I rfl) ?_)
  rintro u s1 ⟨v, H', I1, _, rfl⟩
  refine PySem.W.kdv_all0 ?_
  rw [makeFunction_eq]
  simp only [List.zip_nil_right, List.filterMap_nil, List.isEmpty_nil, if_true, pure_bind, List.isEmpty_cons, Bool.false_eq_true, if_false]
  refine wpAny_bind (wpAny_newTextTuple ?_)
  have I2 : Inv X pins σ H' { s1 with heap := s1.heap.push (PySem.W.kdv_tup [u]) } := I1.kept fun b o e => Heap.get?_push_of_some _ e
  have szD : s1.heap.objs.size < (s1.heap.push (PySem.W.kdv_tup [u])).objs.size := by
    rw [Heap.size_push]
    omega
  have at_D : (s1.heap.push (PySem.W.kdv_tup [u])).get? s1.heap.objs.size = some (PySem.W.kdv_tup [u]) := Heap.get?_push_size _ rfl
  have noD : H' s1.heap.objs.size = none := I1.hok.fresh (Nat.le_refl _)
  have frD := no_frame I1 (Nat.le_refl s1.heap.objs.size)
  generalize s1.heap.objs.size = D at *
  generalize hs2 : ({ s1 with heap := s1.heap.push (PySem.W.kdv_tup [u]) } : Shared) = s2 at *
  have e2 : s2.heap = s1.heap.push (PySem.W.kdv_tup [u]) := by rw [← hs2]
  rw [← e2] at szD at_D
  clear hs2 e2
  obtain ⟨ps, hP, ht, ha⟩ := hT _ hm
  have bP : s2.heap.BuiltinsAt X.mg P := TB.bm.keeps I2.bk
  have atP : s2.heap.get? P = some { cls := .none, data := .fields ps } := I2.hok P _ hP
  have DP : D ≠ P := fun z => by rw [z, hP] at noD; cases noD
  cases found : codeAmong pos ps.toList with
  | some cv =>
    obtain ⟨c', rfl, hco⟩ := ha pos cv found
    refine PySem.W.kdv_makeTailHit (mg := X.mg) (c := c) (P := P) (ps := ps) (closure_ok hfree) I2.ok.glob (I2.mod.glob.keeps I2.bk) hcode (TB.code.keeps I2.bk) atP ht found bP ?_
    intro ctv doc h' tk keep sz
    refine h h'.objs.size c' D u H' _ (I2.kept fun b o e => Heap.get?_push_of_some _ (keep b o e)) (LamX.ExtN.refl _) hT ⟨⟨_, _, _, Heap.get?_push_size _ rfl⟩, Heap.get?_push_of_some _ (keep _ _ at_D), I2.hok.fresh sz, noD, no_frame I2 sz, frD, hco⟩
  | none =>
    refine PySem.W.kdv_makeTail (mg := X.mg) (c := c) (P := P) (ps := ps) (closure_ok hfree) I2.ok.glob (I2.mod.glob.keeps I2.bk) hcode (TB.code.keeps I2.bk) atP ht found TB.gP bP ?_
    rintro c' ctv doc h' tk hx ge lt ⟨c2, oc, vs, t, e2, hoc, hdat, hv⟩ htb
    cases e2
    have newC : H' c' = none := I2.hok.fresh ge
    have sz : s2.heap.objs.size ≤ h'.objs.size := by omega
    have J := LamX.inv_table (t' := tk) (more := #[rawInt pos.line, rawInt pos.col, .ref c']) (h' := h'.push (PySem.W.kdv_obj "<lambda>" (X.env.qual ++ "<lambda>") params (.expr body) scope (cloFrom X.env.cells scope.names []) (.ref D) doc ((X.mg "__name__").getD .none) c' ctv)) I2 hP
      (fun b o hb e => Heap.get?_push_of_some _ (hx b o hb e)) (Heap.get?_push_of_some _ htb) ge ⟨oc, vs, t, Heap.get?_push_of_some _ hoc, hdat, hv⟩
    have ext : LamX.ExtN H' (upd (upd H' P (.tbl (ps ++ #[rawInt pos.line, rawInt pos.col, .ref c']))) c' (LamX.CodeO c' (X.env.qual ++ "<lambda>"))) := by
      intro b o e n
      have bP : b ≠ P := fun z => by rw [z, hP] at e; exact n _ (Option.some.inj e).symm
      rw [upd_ne (ne_of_none e newC), upd_ne bP]
      exact e
    refine h h'.objs.size c' D u _ _ J ext (fun p hp => ?_) ⟨⟨_, _, _, Heap.get?_push_size _ rfl⟩, Heap.get?_push_of_some _ (hx _ _ DP at_D), ?_, ?_, no_frame I2 sz, frD, upd_same⟩
    · by_cases isP : p.1 = P
      · rw [hu p hp isP, isP]
        have lst : (ps ++ #[rawInt pos.line, rawInt pos.col, .ref c']).toList = ps.toList ++ [rawInt pos.line, rawInt pos.col, .ref c'] := by simp
        refine ⟨ps ++ #[rawInt pos.line, rawInt pos.col, .ref c'], by rw [upd_ne (ne_of_none hP newC), upd_same], lst ▸ PySem.TriplesOk_snoc _ _ _ _ ht, fun p' cv am => ?_⟩
        rcases LamX.among_app _ ht (lst ▸ am) with z | z
        · obtain ⟨c0, z1, z2⟩ := ha p' cv z
          exact ⟨c0, z1, ext _ _ z2 LamX.codeO_ne⟩
        · exact ⟨c', z, upd_same⟩
      · obtain ⟨ps', a1, a2, a3⟩ := hT p hp
        refine ⟨ps', by rw [upd_ne (ne_of_none a1 newC), upd_ne isP]; exact a1, a2, fun p' cv am => ?_⟩
        obtain ⟨c0, z1, z2⟩ := a3 p' cv am
        exact ⟨c0, z1, ext _ _ z2 LamX.codeO_ne⟩
    · rw [upd_ne (Nat.ne_of_gt lt), upd_ne (Nat.ne_of_gt (Nat.lt_of_lt_of_le (Heap.lt_size atP) sz))]
      exact I2.hok.fresh sz
    · rw [upd_ne (Nat.ne_of_lt (Nat.lt_of_lt_of_le szD ge)), upd_ne DP]
      exact noD
end
section
variable {X : Cx} {pins : List (Addr × Obj)} {σ : L2.St} {H HZ : Hp} {s s1 : Shared}
theorem lamd_start {A : Around} {outer : List Env} {E : XK} {scope : Scope} {f c' : Addr} {h₁ : Heap} {tk : Nat} {b : Str} {m : Str → Option Value} (I : Inv X pins σ H s) (L : LamD X.N X.env.scope scope b) (e0 : Env0 X.prog X.w X.K X.mg X.base A outer s1 HZ) (hd : A.handled = none)
    (un : Un (frs X.stack) [] H HZ s.heap s1.heap) (hns : h₁.Ns s1.heap.objs.size m) (kp : ∀ b o, s1.heap.get? b = some o → h₁.get? b = some o) :
    Inv (LamX.lamCx X A outer s1 HZ E scope f c') [] σ HZ { s1 with heap := h₁, toks := tk } := by
  have caught : ∀ {y c}, (cloFrom X.env.cells scope.names []).lookup y = some c → X.env.cells.lookup y = some c := by
    intro y c e
    rcases cloFrom_mem (PySem.mem_of_lookup e) with z | ⟨z1, z2⟩
    · cases z
    obtain ⟨c1, hc⟩ := L.has I.ok _ z1 rfl
    have hc : X.env.cells.lookup y = some c1 := hc
    rw [hc, z2, hc]
    rfl
  have held : ∀ {y}, scope.names.lookup y = some .free → ∃ c, (cloFrom X.env.cells scope.names []).lookup y = some c := by
    intro y e
    exact mem_lookup (cloFrom_has (cells := X.env.cells) (acc := []) (show (y, NameKind.free) ∈ scope.names from PySem.mem_of_lookup e))
  have stays : ∀ {c : Addr} {v : Option Value}, H c = none → s.heap.IsCell c v → h₁.IsCell c v := by
    rintro c v n ⟨o, ho, hd⟩
    obtain ⟨sl, q⟩ := un.any ho n (List.not_mem_nil)
    exact ⟨_, kp _ _ q, hd⟩
  constructor
  · constructor
    · exact e0.mod
    · exact L.kind
    · rfl
    · rfl
    · exact Nat.le_refl _
    · exact fun y z c e1 e2 => I.ok.inj y z c (caught e1) (caught e2)
    · intro y hy
      rcases (show scope.names.lookup y = some .cell ∨ scope.names.lookup y = some .free from hy) with z | z
      · exact absurd rfl (L.own _ (PySem.mem_of_lookup z)).2
      · exact held z
    · intro y c z
      exact nomatch (show false = true from z)
    · exact fun _ => hd
    · exact Around.frames_deeper e0.frames
    · exact .inr ⟨rfl, rfl⟩
    · exact fun b z => nomatch (show b ∈ ([] : List Addr) from z)
    · exact e0.bs
    · exact e0.bsz
    · exact fun b _ _ z => nomatch (show b ∈ ([] : List Addr) from z)
    · exact fun b z => nomatch (show b ∈ ([] : List Addr) from z)
    · exact e0.funs
    · exact e0.frf
  · rfl
  · exact e0.bare
  · exact Un.kept kp
  · refine ⟨_, hns, fun i y v e1 e2 e3 => ?_⟩
    rcases (show Vis scope y from e3) with z | z | z
    · exact absurd (List.mem_of_getElem? (show X.N[i]? = some y from e1)) ((L.own _ (PySem.mem_of_lookup z)).1 rfl)
    · exact absurd rfl (L.own _ (PySem.mem_of_lookup z)).2
    · have from_ := L.free _ (PySem.mem_of_lookup z) rfl
      obtain ⟨_, _, look⟩ := I.loc
      obtain ⟨u, r, q⟩ := look i y v e1 e2 (from_.elim (fun k => .inr (.inl k)) fun k => .inr (.inr k))
      obtain ⟨c2, h2⟩ := held z
      refine ⟨u, r, .inr ⟨.inr z, c2, h2, ?_⟩⟩
      rcases q with ⟨k, _⟩ | ⟨_, c3, e', isC⟩
      · exfalso
        have k : X.env.scope.names.lookup y = some .local := k
        rcases from_ with k2 | k2 <;> rw [show X.env.scope.names.lookup y = _ from k2] at k <;> cases k
      · rw [caught h2] at e'
        cases e'
        exact stays (I.freeC y _ (caught h2)) isC
  · intro y c e
    obtain ⟨v, isC⟩ := I.cell y c (caught e)
    exact ⟨v, stays (I.freeC y c (caught e)) isC⟩
  · exact e0.hok.fresh (Nat.le_refl _)
  · intro y c e
    obtain ⟨v, o, ho, _⟩ := I.cell y c (caught e)
    exact un.free c o ho (I.freeC y c (caught e)) (List.not_mem_nil)
  · exact fun q z => nomatch (show q ∈ ([] : List (Addr × Obj)) from z)
  · exact e0.hok.kept kp
  · exact I.len
theorem pe_actD {CXg : CXT} {Eg : XK} {Ng : List Str} {qg : Str} {sg : Scope} {g f c' D : Addr} {u cdg : Value} {params : Arguments} {body : Expr} {scope : Scope} {k i : Nat} {a b : Str} {pn : List (Addr × Obj)} {xe : Value → Shared → Prop} {W : WX} {E : XK} {tb : TE} {p1 p2 : Pos}
    (I : Inv X pins σ H s) (L : LamD X.N X.env.scope scope b) (made : MadeD X H s params body scope f c' D u)
    (hbind : ∀ (q : Str) (cl : List (Str × Addr)) (D : Addr) (u doc pm cv ctv : Value), ∃ k, bindArgs (PySem.W.kdv_fn "<lambda>" q params (.expr body) scope cl (.ref D) doc pm cv ctv) ⟨[], []⟩ = seqItems? (.ref D) >>= k ∧ k (some #[u]) = pure [(b, u)])
    (tk : Takes ((cxOf CXg X.prog X.w X.K X.mg X.base Ng qg sg g cdg X.A X.stack s H Eg).tr pn xe) W) (hW : ∀ cls d σ' H', E cls d H' → W cls d σ' H') (hr : Room (k + 1) (X.A.deeper (envOfC qg sg s.heap.objs.size g cdg)))
    (hbody : ∀ (A : Around) (outer : List Env) (s : Shared) (H : Hp), Room k (A.deeper (LamX.lamEnv X scope s.heap.objs.size f c')) → PE (LamX.lamCx X A outer s H E scope f c') body tb)
    (hN : Ng[i]? = some a) (hv : Vis sg a) (hd : (a == ("__debug__" : Str)) = false := by decide) (hcd : (a == ("__classdict__" : Str)) = false := by decide) :
    PE ((cxOf CXg X.prog X.w X.K X.mg X.base Ng qg sg g cdg X.A X.stack s H Eg).tr pn xe) (.Call (.Name a p1) [] [] p2)
      (fun σZ HZ Q => σZ[i]? = some (some (.ref f)) ∧ HZ c' = some (LamX.CodeO c' (X.env.qual ++ "<lambda>")) ∧ tb σ HZ Q) := by
  constructor
  rintro pinsZ sZ σZ HZ Q IZ ⟨hs, hc, ht⟩
  apply wpAny_Call_Name_kw
  refine thn ((pe_var (pos := p1) (i := i) hN hv hd hcd).run pinsZ sZ σZ HZ (fun v H1 => v = .ref f ∧ H1 = HZ) IZ ⟨.ref f, hs, rfl, rfl⟩) ?_
  rintro u1 s1 ⟨v, H1, I1, r1, rfl, rfl⟩
  cases (show u1 = Value.ref f from r1)
  obtain ⟨doc, pm, ctv, at_f⟩ := made.at_f
  have of1 := I1.base.keep f _ at_f made.nf made.ff (fun z => nomatch (show f ∈ ([] : List Addr) from z))
  have oD := I1.base.keep D _ made.at_D made.nD made.fD (fun z => nomatch (show D ∈ ([] : List Addr) from z))
  refine PySem.W.callWith_F0 ⟨_, _, _, _, of1⟩ ?_
  have un : Un (frs X.stack) [] H H1 s.heap s1.heap := I1.base
  obtain ⟨⟨oc, vs, t, hoc, hdc, hvc⟩, _, _⟩ := I1.hok c' _ hc
  obtain ⟨kb, b1, b2⟩ := hbind (X.env.qual ++ "<lambda>") (cloFrom X.env.cells scope.names []) D u doc pm (.ref c') ctv
  have bd : BindsTo s1 (PySem.W.kdv_fn "<lambda>" (X.env.qual ++ "<lambda>") params (.expr body) scope (cloFrom X.env.cells scope.names []) (.ref D) doc pm (.ref c') ctv) ⟨[], []⟩ [(b, u)] := BindsTo.of_defaults rfl oD rfl b1 b2
  have rc : codeAny (model X.prog X.w) (X.A.deeper (envOfC qg sg s.heap.objs.size g cdg)) (.call (.ref f) ⟨[], []⟩) (CR (L2.CX X.prog X.w) (envOfC qg sg s.heap.objs.size g cdg :: X.stack) X.prog X.w H1 s1 Q E) s1 := by
    refine PySem.W.kla_callFunE hr.depth of1 rfl L.co L.gen rfl ⟨c', oc, vs, t, rfl, hoc, hdc, hvc⟩ (bd _ _ _ _ ?_)
    refine wpAny_newFunctionEnv (fun y hy => (L.own y hy).2) (fun y hy => ?_) (fun h₁ hns hsb => ⟨I1.nolimit.fresh _ hsb, ?_⟩) L.kind
    · cases List.mem_singleton.mp hy
      exact L.par
    show codeAny _ _ (.expr body (LamX.lamEnv X scope s1.heap.objs.size f c')) _ _
    have kp : ∀ b o, s1.heap.get? b = some o → h₁.get? b = some o := fun b o e => hsb.extBut b o (Nat.ne_of_lt (Heap.lt_size e)) (Heap.get?_push_of_some _ e)
    have J : Inv (LamX.lamCx X (X.A.deeper (envOfC qg sg s.heap.objs.size g cdg)) (envOfC qg sg s.heap.objs.size g cdg :: X.stack) s1 H1 E scope f c') [] σ H1 { s1 with heap := h₁, toks := s1.toks + [(b, u)].length } :=
      lamd_start I L I1.env0 hr.hd un hns kp
    apply PySem.W.kla_codeExpr
    refine wpAny_mono ((hbody _ _ s1 H1 (hr.deeper _)).run [] _ _ H1 Q J ht) ?_ (fun _ _ z => z)
    rintro v' s' ⟨w', H', J', rv, q⟩
    exact ⟨w', H', J'.os, J'.bare, J'.base, J'.hok, rv, q⟩
  have hx : Passes (L2.CX X.prog X.w) ((cxOf CXg X.prog X.w X.K X.mg X.base Ng qg sg g cdg X.A X.stack s H Eg).tr pn xe) E := passes_call tk hW
  refine wpAny_call (codeAny_mono rc fun r s' hq => ?_)
  cases r with
  | error e => exact hx pinsZ σZ H1 s1 e s' I1 hq
  | ok fl =>
    cases fl with
    | ret u => exact I1.after hq
    | next => exact False.elim hq
    | brk => exact False.elim hq
    | cont => exact False.elim hq
end
/-- x(lambda b=..: body) -/
theorem pe_lamcallD {X : Cx} {T : List (Addr × Str)} {TT : (XK → Hp → VK → Prop) → Hp → VK → Prop} {x a b : Str} {g c P : Addr} {k : Nat} {pg : Arguments} {bg : List Stmt} {sg : Scope} {dV kV doc pm cdv ct oc : Value} {an od : Option Addr} {osl : Array (Option Value)} {Ng : List Str}
    {params : Arguments} {body d : Expr} {v0 : V} {scope : Scope} {t : XK → TE} {p lpos pos : Pos} (hg : Gl X x) (hm : X.mg x = some (.ref g)) (hk : PySem.W.keepIn X.K (.ref g) = true)
    (lk : X.K.lookup g = some ⟨oc, od, .func (PySem.W.fnOf x x pg bg sg dV kV doc pm an cdv ct), osl⟩) (hcg : PySem.W.codeIn X.K cdv x = true) (hb : L2.Binds X.K (PySem.W.fnOf x x pg bg sg dV kV doc pm an cdv ct) [a] []) (Sg : FnScope Ng [a] sg) (hNg : Ng[0]? = some a) (hva : Vis sg a)
    (hG : LamX.GivesTo X Ng x sg g cdv bg a (X.env.qual ++ "<lambda>") TT)
    (TB : LamX.TabB X.base X.mg c P) (hcode : X.env.code = .ref c) (hmT : (P, X.env.qual ++ "<lambda>") ∈ T) (hu : ∀ p ∈ T, p.1 = P → p.2 = X.env.qual ++ "<lambda>") (hr : Room (k + 2) X.A) (L : LamD X.N X.env.scope scope b) (hk0 : params.kw_defaults = []) (hd0 : params.defaults = [d]) (pd : PE X d (tC v0))
    (hbind : ∀ (q : Str) (cl : List (Str × Addr)) (D : Addr) (u doc pm cv ctv : Value), ∃ k, bindArgs (PySem.W.kdv_fn "<lambda>" q params (.expr body) scope cl (.ref D) doc pm cv ctv) ⟨[], []⟩ = seqItems? (.ref D) >>= k ∧ k (some #[u]) = pure [(b, u)])
    (hbody : ∀ (A : Around) (outer : List Env) (s : Shared) (H : Hp) (E : XK) (f c' : Addr), Room k (A.deeper (LamX.lamEnv X scope s.heap.objs.size f c')) → PE (LamX.lamCx X A outer s H E scope f c') body (t E))
    (hdb : (x == ("__debug__" : Str)) = false := by decide) (hd : (a == ("__debug__" : Str)) = false := by decide) (hcd : (a == ("__classdict__" : Str)) = false := by decide) :
    PE X (.Call (.Name x p) [.Lambda params body scope lpos] [] pos) (LamX.tLam T TT t) := by
  constructor
  rintro pins s σ H Q I ⟨hT, h⟩
  apply wpAny_Call_Name_kw
  refine ld_glob I hg hm ?_ hdb
  refine PySem.W.callWith_K (h₀ := X.base) I.ok.mod.kin hk ?_ (by rfl) (by rfl)
  show wpAny _ _ (spliced ((false, eval (.Lambda params body scope lpos) X.env) :: backTo pos (starEach [] X.env))) _ _ s
  apply Calls.spliced_cons
  refine lamd_make I TB hcode hmT hu hT hk0 hd0 pd (L.has I.ok) ?_
  intro f c' D u H1 s' I1 eN T1 made
  refine Calls.spliced_nil ⟨I1.kIn, ?_⟩
  have rc : codeAny (model X.prog X.w) X.A (.call (.ref g) ⟨[.ref f], []⟩) (CR C8.CX0 X.stack X.prog X.w H1 s' Q C8.E0) s' := by
    refine LamX.run_ofS (N := Ng) (ps := [a]) (us := [.ref f]) (vs := [.ref f]) lk hcg Sg hr I1.env0 (hb s' [.ref f] I1.kIn rfl) (.cons rfl .nil) rfl fun hr' => ?_
    obtain ⟨t', ht', hq'⟩ := hG f c' s' H1 Q (fun E H' Q' => t E σ H' Q') (fun W pn xe E p1 p2 tk hW => pe_actD (i := 0) I1 L made hbind tk hW hr' (fun A outer s H hr2 => hbody A outer s H E f c' hr2) hNg hva hd hcd) made.cd (h H1 eN T1)
    exact ⟨t', ht'.nox, hq'⟩
  refine wpAny_call (codeAny_mono rc fun r s2 hq => ?_)
  cases r with
  | error e => exact (show False from hq).elim
  | ok fl =>
    cases fl with
    | ret u => exact I1.after hq
    | next => exact False.elim hq
    | brk => exact False.elim hq
    | cont => exact False.elim hq
/-! ### a lambda with a default, asked -/
section
variable {X : Cx} {k : Nat} {c P0 : Addr} {params : Arguments} {body d : Expr} {v0 : V} {scope : Scope} {t : XK → TE} {p lpos pos : Pos} {b : Str}
theorem pe_tryD (T : Txt X.K X.mg) (hg : Gl X "_law_try") (TB : LamX.TabB X.base X.mg c P0) (hcode : X.env.code = .ref c) (hr : Room (k + 3) X.A) (L : LamD X.N X.env.scope scope b) (hk0 : params.kw_defaults = []) (hd0 : params.defaults = [d]) (pd : PE X d (tC v0))
    (hbind : ∀ (q : Str) (cl : List (Str × Addr)) (D : Addr) (u doc pm cv ctv : Value), ∃ k, bindArgs (PySem.W.kdv_fn "<lambda>" q params (.expr body) scope cl (.ref D) doc pm cv ctv) ⟨[], []⟩ = seqItems? (.ref D) >>= k ∧ k (some #[u]) = pure [(b, u)])
    (hbody : ∀ (A : Around) (outer : List Env) (s : Shared) (H : Hp) (E : XK) (f c' : Addr), Room (k + 1) (A.deeper (LamX.lamEnv X scope s.heap.objs.size f c')) → PE (LamX.lamCx X A outer s H E scope f c') body (t E)) :
    PE X (.Call (.Name "_law_try" p) [.Lambda params body scope lpos] [] pos) (LamX.tLam [(P0, X.env.qual ++ "<lambda>")] (TTry X.K T.r_GrainError T.r_GrainMissing T.e_NothingLeft.C) t) := by
  obtain ⟨oc2, od2, kV2, doc2, pm2, an2, cdv2, ct2, osl2, eT, lkT, cdT⟩ := T.F_try.ex
  have bT := T.b_try
  rw [eT] at bT
  rw [eT] at lkT
  exact pe_lamcallD hg T.g_try T.F_try.kp lkT cdT bT sc_try rfl (Or.inl rfl) (try_gives T rfl rfl (k := k) hr) TB hcode (List.mem_singleton.mpr rfl) one_tab hr L hk0 hd0 pd hbind hbody
end
/-! ### heaps, with what is wrong in them told -/
section
variable {X : Cx}
theorem pi_seq {tg e : Expr} {t : TE} (h : PE X e t) : PI X tg e (fun σ H R => iList X.K t σ H R ∨ iTup X.K t σ H R) := PI.or (pi_list h) (pi_tup h)
/-- d.items() -/
theorem pe_itemsDS {o : Expr} {apos cpos : Pos} {td : TE} (ho : PE X o td) (hb : attributeBase o "items" X.env (eval o X.env) = eval o X.env := by rfl) (hl : (apos.endLine == cpos.line) = true := by rfl) :
    PE X (.Call (.Attribute o "items" apos) [] [] cpos) (fun σ H Q => td σ H fun v G => rItemsDS X.prog X.w v [] G Q) := by
  constructor
  intro pins s σ H Q I h
  apply wpAny_Call_method0_late hb hl
  refine thn (ho.run pins s σ H _ I h) ?_
  rintro u s1 ⟨v, G, I1, rv, d, es, rfl, _, D, q⟩
  cases rv
  obtain ⟨t1, t2⟩ := ds_dict I1 D.rd
  exact ⟨"dict", "dict.items", PySem.F.plainAttrs_dict, PySem.F.slot_dict_items, PySem.F.type_dict_items, t1, t2, Calls.callWith_builtin rfl (PySem.evalArgs_none (mt_itemsDS pins s1 σ G (.ref d) [] (.ref d) [] Q I1 rfl .nil ⟨d, es, rfl, rfl, D, q⟩))⟩
end
/-- a for over enumerate of a list that stays -/
theorem for_enumL {K : PySem.W.Frag} {a : Addr} {xs : List V} {g : TG} {tb : TS} {D : Ends} {σ : L2.St} {H : Hp} (Pv : Nat → L2.St → Hp → Prop) (h0 : Pv 0 σ H) (hl : ∀ i τ G, i ≤ xs.length → Pv i τ G → SqL K G a xs)
    (turn : ∀ i x τ G T, xs[i]? = some x → Pv i τ G → G T = none → g (.ref T) τ (upd G T (.tup [.int (i : Nat), x])) fun τ2 G2 => tb { D with nx := Pv (i + 1), ct := Pv (i + 1), bk := D.nx } τ2 G2) (fin : ∀ τ G, Pv xs.length τ G → D.nx τ G) :
    ∃ W : Nat → Nat → L2.St → Hp → Prop, (∃ m, W 0 m σ H) ∧ ∀ i m τ G, W i m τ G → ((Ite K a).stop i G ∧ D.nx τ G) ∨ ((Ite K a).go i G ∧ ∃ N : L2.St → Hp → Prop, (∀ τ' G', N τ' G' → ∃ m', m' < m ∧ W (i + 1) m' τ' G') ∧
      ∀ x G', (Ite K a).yld i G x G' → g x τ G' fun τ2 G2 => tb { D with nx := N, ct := N, bk := D.nx } τ2 G2) := by
  refine ⟨fun i m τ G => m + i = xs.length ∧ Pv i τ G, ⟨xs.length, rfl, h0⟩, ?_⟩
  rintro i m τ G ⟨hm, pv⟩
  have sq := hl i τ G (by omega) pv
  cases m with
  | zero =>
    obtain rfl : i = xs.length := by omega
    exact .inl ⟨⟨xs, sq, Nat.le_refl _⟩, fin τ G pv⟩
  | succ m =>
    refine .inr ⟨⟨xs, xs[i], sq, List.getElem?_eq_getElem (by omega)⟩, Pv (i + 1), fun τ' G' z => ⟨m, Nat.lt_succ_self m, by omega, z⟩, ?_⟩
    rintro x G' ⟨T, y, rfl, hT, rfl, at_⟩
    exact turn i y τ G T (at_ xs sq) pv hT
/-! rows, as they are handed in -/
def LenOk (d a b : Int) : Prop := 0 < vl a b d ∧ a.natAbs < 2 ^ 100 ∧ b.natAbs < 2 ^ 100
def ShOk (d : Int) (x : Sh) : Prop := LenOk d x.1 x.2.1 ∧ LenOk d x.2.2.1 x.2.2.2
def EsOk (d : Int) (es : DEs) : Prop := ∀ e ∈ es, ShOk d e.1 ∧ 1 ≤ e.2.2
/-- the rows es, in a list or in a tuple -/
inductive Handed (K : PySem.W.Frag) (H : Hp) : V → DEs → Prop
  | list {l : Addr} {as : List Addr} {es : DEs} (hl : SqL K H l (as.map V.ref)) (hr : RowsAt H as es) (hk : ∀ e ∈ es, ShAt H e.2.1 e.1) : Handed K H (.ref l) es
  | tup {t : Addr} {as : List Addr} {es : DEs} (ht : SqT K H t (as.map V.ref)) (hr : RowsAt H as es) (hk : ∀ e ∈ es, ShAt H e.2.1 e.1) : Handed K H (.ref t) es
theorem Handed.same {K : PySem.W.Frag} {H H' : Hp} {r : V} {es : DEs} (h : Handed K H r es) (s : Same H H') : Handed K H' r es := by
  cases h with
  | list hl hr hk => exact .list (Same.seq s hl) (hr.mono fun p xs z => s _ _ z) fun e he => (hk e he).same s
  | tup ht hr hk => exact .tup (Evl.ex_t s ht) (hr.mono fun p xs z => s _ _ z) fun e he => (hk e he).same s
theorem Handed.none {K : PySem.W.Frag} {H : Hp} {t : Addr} (ht : SqT K H t []) : Handed K H (.ref t) [] := .tup (as := []) ht .nil fun e he => by cases he
theorem RowsAt.row {H : Hp} {as : List Addr} {es : DEs} (h : RowsAt H as es) {i : Nat} {v : V} (hv : (as.map V.ref)[i]? = some v) : ∃ a e, v = .ref a ∧ es[i]? = some e ∧ H a = some (.tup [.ref e.2.1, .int e.2.2]) := by
  rw [List.getElem?_map] at hv
  cases ha : as[i]? with
  | none =>
    rw [ha] at hv
    cases hv
  | some a =>
    rw [ha] at hv
    obtain ⟨e, he, z⟩ := Paired.getL h ha
    exact ⟨a, e, (Option.some.inj hv).symm, he, z⟩
theorem RowsAt.len {H : Hp} {as : List Addr} {es : DEs} (h : RowsAt H as es) : as.length = es.length := Paired.length h
theorem w100 {x : Int} (h : x.natAbs < 2 ^ 100) : x.natAbs < 2 ^ 9000 := Nat.lt_of_lt_of_le h (Nat.pow_le_pow_right (by decide) (by decide))
/-- whether a tuple of two pairs is a sheet, whether a row has a sheet and a count -/
def shB (d : Int) (x : Sh) : Bool := decide (0 < vl x.1 x.2.1 d) && decide (0 < vl x.2.2.1 x.2.2.2 d)
def rowB (d : Int) (e : Sh × Addr × Int) : Bool := decide (1 ≤ e.2.2) && shB d e.1
def Sh100 (x : Sh) : Prop := x.1.natAbs < 2 ^ 100 ∧ x.2.1.natAbs < 2 ^ 100 ∧ x.2.2.1.natAbs < 2 ^ 100 ∧ x.2.2.2.natAbs < 2 ^ 100
theorem ShOk.b {d : Int} {x : Sh} (h : ShOk d x) : shB d x = true ∧ Sh100 x := ⟨by unfold shB; rw [decide_eq_true h.1.1, decide_eq_true h.2.1]; rfl, h.1.2.1, h.1.2.2, h.2.2.1, h.2.2.2⟩
theorem sg_pos (a b d : Int) : decide (0 < sgnI (vl a b d)) = decide (0 < vl a b d) := by
  rcases Int.lt_trichotomy (vl a b d) 0 with h | h | h
  · rw [sgnI_neg h, decide_eq_false (by decide), decide_eq_false (by omega)]
  · rw [h]
    rfl
  · rw [sgnI_pos h, decide_eq_true h]
    rfl
section
variable {base : Heap} {K : PySem.W.Frag} {mg : Str → Option Value} {P : Program} {w : World}
def spIsSheet (K : PySem.W.Frag) : Sp := fun vs H Q _ => ∃ (p : Addr) (d : Int) (x : Sh), vs = [.ref p, .int d] ∧ ShAt H p x ∧ d.natAbs < 2 ^ 64 ∧ Sh100 x ∧ Q (.bl (shB d x)) H
theorem ok_is_sheet (T : Txt K mg) : FnOk P w K mg base CX0 3 T.f_is_sheet T.d_is_sheet ["sheet", "root"] (spIsSheet K) := by
  refine T.F_is_sheet.ok sc_is_sheet (fun vs H Q E h => ?_) (fun cdv A outer s H vs Q E hr h => ?_)
  · obtain ⟨p, d, x, rfl, _⟩ := h
    rfl
  · obtain ⟨p, d, x, rfl, ⟨u, v, h1, h2, h3⟩, hd, ⟨b1, b2, b3, b4⟩, q⟩ := h
    refine ⟨_, (pss_cons (ps_asg (pv 0) (pg_tup (by rfl) (pgs_cons (pg_name (i := 2) sc_is_sheet.nd rfl (Or.inl rfl)) (pgs_cons (pg_name (i := 3) sc_is_sheet.nd rfl (Or.inl rfl)) pgs_nil))))
      (pss_one (ps_ret (pe_and (pe_call (ok_is_length T) (hr.mono (by decide)) (by rfl) T.g_is_length T.F_is_length.kp T.b_is_length .nil pass0 (pa_cons (pv 2) (pa_cons (pv 1) pa_nil))) (pe_one (pe_call (ok_is_length T) (hr.mono (by decide)) (by rfl) T.g_is_length T.F_is_length.kp T.b_is_length .nil pass0 (pa_cons (pv 3) (pa_cons (pv 1) pa_nil)))))))), ?_⟩
    refine ⟨_, rfl, p, _, rfl, SqT.of h1, rfl, .ref u, _, rfl, .ref v, _, rfl, rfl, ?_⟩
    refine ⟨_, rfl, _, rfl, .ref u, d, _, _, rfl, ⟨u, rfl, SqT.of h2⟩, hd, w100 b1, w100 b2, _, (by rw [sg_pos]), ?_⟩
    unfold shB at q
    cases z : decide (0 < vl x.1 x.2.1 d) with
    | false =>
      rw [z, Bool.false_and] at q
      exact iteF q
    | true =>
      rw [z, Bool.true_and] at q
      refine iteT ⟨_, rfl, _, rfl, .ref v, d, _, _, rfl, ⟨v, rfl, SqT.of h3⟩, hd, w100 b3, w100 b4, ?_⟩
      rw [sg_pos]
      exact q
/-- an error of one number, made and raised -/
def Throws (C : Addr) (fs : List (Str × V)) (H : Hp) (E : XK) : Prop := ∀ x Hf, H x = none → Same H Hf → Hf x = some (.xd fs) → E (.ref C) (some x) Hf
theorem Throws.up {C : Addr} {fs : List (Str × V)} {H H1 : Hp} {E : XK} (h : Throws C fs H E) (s : Same H H1) : Throws C fs H1 E := fun x Hf hx s1 f1 => h x Hf (s.free hx) (s.trans s1) f1
def badRow (i : Nat) : List (Str × V) := [("at", .int (i : Int)), ("word", .str "BadRow")]
def badRoot (n : V) : List (Str × V) := [("number", n), ("word", .str "BadRoot")]
end
section
variable {base : Heap} {K : PySem.W.Frag} {mg : Str → Option Value} {w : World}
def spCkRoot (T : Txt K mg) : Sp := fun vs H Q E => ∃ n : Int, vs = [.int n] ∧ (isRB n = true → Q .non H) ∧ (isRB n = false → Throws T.e_BadRoot.C (badRoot (.int n)) H E)
theorem ok_check_root (T : Txt K mg) : FnOk PySem.Challenge.pw_grainyard_k16_sums_of_heaps w K mg base (L2.CX PySem.Challenge.pw_grainyard_k16_sums_of_heaps w) 3 T.f_check_root T.d_check_root ["root"] (spCkRoot T) := by
  refine T.F_check_root.okX sc_check_root (fun vs H Q E h => ?_) (fun cdv A outer s H vs Q E hr h => ?_)
  · obtain ⟨n, rfl, _⟩ := h
    rfl
  · obtain ⟨n, rfl, q1, q2⟩ := h
    refine ⟨_, (pss_one (ps_if (pt_not (pt_val (pe_call (ok_is_root T) (hr.mono (by decide)) (by rfl) T.g_is_root T.F_is_root.kp T.b_is_root .nil pass0 (pa_cons (pv 0) pa_nil)))) (pss_one (ps_raise rfl (takes_of rfl rfl rfl rfl) (pmk_oex (oex_of T.e_BadRoot) T.e_BadRoot.iC T.e_BadRoot.tI (ini_BadRoot T) (hr.mono (by decide)) (bi_BadRoot T) .nil pass0 (by rfl) T.e_BadRoot.g (pa_cons (pv 0) pa_nil)))) pss_nil)), ?_⟩
    refine ⟨_, rfl, n, rfl, _, rfl, ?_⟩
    cases e : isRB n with
    | true => exact iteF (q1 e)
    | false => exact iteT ⟨_, rfl, mk_use rfl (by decide) fun d Hf hd s1 f1 => q2 e d Hf hd s1 f1⟩
def Es100 (es : DEs) : Prop := ∀ e ∈ es, Sh100 e.1
def FirstBad (d : Int) (es : DEs) (i : Nat) : Prop := (∃ e, es[i]? = some e ∧ rowB d e = false) ∧ ∀ j f, j < i → es[j]? = some f → rowB d f = true
def spCkRows (T : Txt K mg) : Sp := fun vs H Q E => ∃ (r : V) (d : Int) (es : DEs), vs = [r, .int d] ∧ Handed K H r es ∧ d.natAbs < 2 ^ 64 ∧ Es100 es ∧ ((∀ e ∈ es, rowB d e = true) → ∀ H', Same H H' → Q .non H') ∧ (∀ i, FirstBad d es i → Throws T.e_BadRow.C (badRow i) H E)
theorem ok_check_rows (T : Txt K mg) : FnOk PySem.Challenge.pw_grainyard_k16_sums_of_heaps w K mg base (L2.CX PySem.Challenge.pw_grainyard_k16_sums_of_heaps w) 4 T.f_check_rows T.d_check_rows ["rows", "root"] (spCkRows T) := by
  refine T.F_check_rows.okX sc_check_rows (fun vs H Q E h => ?_) (fun cdv A outer s H vs Q E hr h => ?_)
  · obtain ⟨r, d, es, rfl, _⟩ := h
    rfl
  · obtain ⟨r, d, es, rfl, hh, hd, b, q1, q2⟩ := h
    refine ⟨_, (pss_one (ps_for (passes_of rfl) rfl (PI.or (pi_enum (by rfl) T.n_enumerate (pa_cons (pv 0) pa_nil)) (pi_enumT (by rfl) T.n_enumerate (pa_cons (pv 0) pa_nil))) (pg_tup (by rfl) (pgs_cons (pg_name (i := 2) sc_check_rows.nd rfl (Or.inl rfl)) (pgs_cons (pg_tup (by rfl) (pgs_cons (pg_name (i := 3) sc_check_rows.nd rfl (Or.inl rfl)) (pgs_cons (pg_name (i := 4) sc_check_rows.nd rfl (Or.inl rfl)) pgs_nil))) pgs_nil))) (pss_one (ps_if (PW.pt (pw_or (pt_cmpR op_lt (pv 4) pe_int (nomark _)) (pw_or1 (pt_not (pt_val (pe_call (ok_is_sheet T) (hr.mono (by decide)) (by rfl) T.g_is_sheet T.F_is_sheet.kp T.b_is_sheet .nil pass0 (pa_cons (pv 3) (pa_cons (pv 1) pa_nil)))))))) (pss_one (ps_raise rfl (takes_of rfl rfl rfl rfl) (pmk_oex (oex_of T.e_BadRow) T.e_BadRow.iC T.e_BadRow.tI (ini_BadRow T) (hr.mono (by decide)) (bi_BadRow T) .nil pass0 (by rfl) T.e_BadRow.g (pa_cons (pv 2) pa_nil)))) pss_nil)))), ?_⟩
    have all : ∀ n, n = es.length → (∀ j f, j < n → es[j]? = some f → rowB d f = true) → ∀ e ∈ es, rowB d e = true := by
      intro n hn g e he
      obtain ⟨j, hj⟩ := List.mem_iff_getElem?.mp he
      exact g j e (by rw [hn]; exact (List.getElem?_eq_some_iff.mp hj).1) hj
    cases hh with
    | @list l as _ hl hr hk =>
      refine .inl ⟨_, rfl, l, _, rfl, hl, for_enumL (K := K) (a := l) (xs := as.map V.ref) (fun i σ H' => ∃ y2 y3 y4, σ = [some (.ref l), some (.int d), y2, y3, y4] ∧ Same H H' ∧ ∀ j f, j < i → es[j]? = some f → rowB d f = true) ⟨_, _, _, rfl, Same.refl _, fun j f hj => absurd hj (Nat.not_lt_zero _)⟩ ?_ ?_ ?_⟩
      · rintro i τ G hi ⟨_, _, _, _, s, _⟩
        exact Same.seq s hl
      · rintro i x τ G T1 hx ⟨y2, y3, y4, rfl, s, good⟩ hT
        obtain ⟨a, e, rfl, he, ha⟩ := hr.row hx
        have s1 := s.trans (same_new (o := .tup [.int (i : Nat), .ref a]) hT)
        have me := List.mem_of_getElem? he
        refine ⟨T1, _, rfl, SqT.of upd_same, rfl, .int i, _, rfl, .ref a, _, rfl, a, _, rfl, SqT.of (s1 _ _ ha), rfl, .ref e.2.1, _, rfl, .int e.2.2, _, rfl, rfl, rfl, ?_⟩
        have bad : rowB d e = false → Throws T.e_BadRow.C (badRow i) (upd G T1 (.tup [.int (i : Nat), .ref a])) E := fun z => (q2 i ⟨⟨e, he, z⟩, good⟩).up s1
        refine ⟨_, rfl, e.2.2, 1, rfl, rfl, _, rfl, ite2 (fun z => ?_) (fun z => ?_)⟩
        · refine ⟨_, rfl, mk_use rfl (by decide) fun x Hf hx s2 f2 => bad ?_ x Hf hx s2 f2⟩
          have z := of_decide_eq_true z
          unfold rowB
          rw [decide_eq_false (by omega)]
          rfl
        · have z1 : 1 ≤ e.2.2 := by
            have : ¬ e.2.2 < 1 := fun q => z (decide_eq_true q)
            omega
          refine ⟨_, rfl, _, rfl, e.2.1, d, e.1, rfl, (hk e me).same s1, hd, b e me, _, rfl, ?_⟩
          cases q : shB d e.1 with
          | true =>
            refine iteF ⟨_, _, _, rfl, s1, fun j f hj hf => ?_⟩
            rcases Nat.lt_succ_iff_lt_or_eq.mp hj with l | rfl
            · exact good j f l hf
            · cases he.symm.trans hf
              unfold rowB
              rw [decide_eq_true z1, q]
              rfl
          | false =>
            refine iteT ⟨_, rfl, mk_use rfl (by decide) fun x Hf hx s2 f2 => bad ?_ x Hf hx s2 f2⟩
            unfold rowB
            rw [q, Bool.and_false]
      · rintro τ G ⟨_, _, _, rfl, s, good⟩
        rw [List.length_map, hr.len] at good
        exact q1 (all _ rfl good) _ s
    | @tup l as _ hl hr hk =>
      refine .inr ⟨_, rfl, l, _, rfl, hl, for_enumT (K := K) (a := l) (xs := as.map V.ref) (fun i σ H' => ∃ y2 y3 y4, σ = [some (.ref l), some (.int d), y2, y3, y4] ∧ Same H H' ∧ ∀ j f, j < i → es[j]? = some f → rowB d f = true) ⟨_, _, _, rfl, Same.refl _, fun j f hj => absurd hj (Nat.not_lt_zero _)⟩ ?_ ?_ ?_⟩
      · rintro i τ G hi ⟨_, _, _, _, s, _⟩
        exact Evl.ex_t s hl
      · rintro i x τ G T1 hx ⟨y2, y3, y4, rfl, s, good⟩ hT
        obtain ⟨a, e, rfl, he, ha⟩ := hr.row hx
        have s1 := s.trans (same_new (o := .tup [.int (i : Nat), .ref a]) hT)
        have me := List.mem_of_getElem? he
        refine ⟨T1, _, rfl, SqT.of upd_same, rfl, .int i, _, rfl, .ref a, _, rfl, a, _, rfl, SqT.of (s1 _ _ ha), rfl, .ref e.2.1, _, rfl, .int e.2.2, _, rfl, rfl, rfl, ?_⟩
        have bad : rowB d e = false → Throws T.e_BadRow.C (badRow i) (upd G T1 (.tup [.int (i : Nat), .ref a])) E := fun z => (q2 i ⟨⟨e, he, z⟩, good⟩).up s1
        refine ⟨_, rfl, e.2.2, 1, rfl, rfl, _, rfl, ite2 (fun z => ?_) (fun z => ?_)⟩
        · refine ⟨_, rfl, mk_use rfl (by decide) fun x Hf hx s2 f2 => bad ?_ x Hf hx s2 f2⟩
          have z := of_decide_eq_true z
          unfold rowB
          rw [decide_eq_false (by omega)]
          rfl
        · have z1 : 1 ≤ e.2.2 := by
            have : ¬ e.2.2 < 1 := fun q => z (decide_eq_true q)
            omega
          refine ⟨_, rfl, _, rfl, e.2.1, d, e.1, rfl, (hk e me).same s1, hd, b e me, _, rfl, ?_⟩
          cases q : shB d e.1 with
          | true =>
            refine iteF ⟨_, _, _, rfl, s1, fun j f hj hf => ?_⟩
            rcases Nat.lt_succ_iff_lt_or_eq.mp hj with l | rfl
            · exact good j f l hf
            · cases he.symm.trans hf
              unfold rowB
              rw [decide_eq_true z1, q]
              rfl
          | false =>
            refine iteT ⟨_, rfl, mk_use rfl (by decide) fun x Hf hx s2 f2 => bad ?_ x Hf hx s2 f2⟩
            unfold rowB
            rw [q, Bool.and_false]
      · rintro τ G ⟨_, _, _, rfl, s, good⟩
        rw [List.length_map, hr.len] at good
        exact q1 (all _ rfl good) _ s
end
section
variable {base : Heap} {K : PySem.W.Frag} {mg : Str → Option Value} {P : Program} {w : World}
/-- what a dict that is made is told by -/
def NewD (P : Program) (w : World) (H : Hp) (es : DEs) (Q : VK) : Prop := ∀ d H', H d = none → Same H H' → DAt P w H' d es → Q (.ref d) H'
def spMerged (K : PySem.W.Frag) (P : Program) (w : World) : Sp := fun vs H Q _ => ∃ (r : V) (es : DEs), vs = [r] ∧ Handed K H r es ∧ es.length ≤ 1000 ∧ NewD P w H (sortE (mergeD es)) Q
theorem step_put {H H1 : Hp} {c : Addr} {es : DEs} {e : Sh × Addr × Int} {i : Nat} (hc : H c = none) (s : Same H H1) (D : DAt P w H1 c (mergeTo es i)) (hs : ShAt H1 e.2.1 e.1) (he : es[i]? = some e) :
    Same H (upd H1 c (DS P w c (putD (mergeTo es i) e.1 e.2.1 ((valD (mergeTo es i) e.1).getD 0 + e.2.2)))) ∧ DAt P w (upd H1 c (DS P w c (putD (mergeTo es i) e.1 e.2.1 ((valD (mergeTo es i) e.1).getD 0 + e.2.2)))) c (mergeTo es (i + 1)) := by
  refine ⟨fun a o z => (upd_ne (ne_of_none z hc)).trans (s a o z), ?_⟩
  rw [mergeTo_succ he]
  exact D.put hs
theorem small_of {n : Nat} (h : n ≤ 1000) : n < sizeLine := small1000 h
theorem sortE_at {acc : DEs} (nd : (keysD acc).Nodup) {i : Nat} {b : Sh × Addr} (hb : (sortK acc)[i]? = some b) : ∃ n, valD acc b.1 = some n ∧ (sortE acc)[i]? = some (b.1, b.2, n) ∧ (b.1, b.2, n) ∈ acc := by
  obtain ⟨e, he, e1⟩ := List.mem_map.mp ((sortK_perm acc).mem_iff.mp (List.mem_of_getElem? hb))
  have hv := valD_mem nd he
  have k1 : e.1 = b.1 := congrArg Prod.fst e1
  have k2 : e.2.1 = b.2 := congrArg Prod.snd e1
  rw [k1] at hv
  refine ⟨e.2.2, hv, ?_, ?_⟩
  · unfold sortE
    rw [List.getElem?_map, hb]
    show some (b.1, b.2, (valD acc b.1).getD 0) = _
    rw [hv]
    rfl
  · rw [← k1, ← k2]
    exact he
theorem ok_merged (T : Txt K mg) : FnOk P w K mg base CX0 1 T.f_merged T.d_merged ["rows"] (spMerged K P w) := by
  refine T.F_merged.ok sc_merged (fun vs H Q E h => ?_) (fun cdv A outer s H vs Q E hr h => ?_)
  · obtain ⟨r, es, rfl, _⟩ := h
    rfl
  · obtain ⟨r, es, rfl, hh, hn, q⟩ := h
    refine ⟨_, (pss_cons (ps_set (i := 1) sc_merged.nd rfl (Or.inr rfl) pe_dnewS)
      (Evl.pss_cut (ps_for PassesOwn.never rfl (pi_seq (pv 0)) (pg_tup (by rfl) (pgs_cons (pg_name (i := 2) sc_merged.nd rfl (Or.inl rfl)) (pgs_cons (pg_name (i := 3) sc_merged.nd rfl (Or.inl rfl)) pgs_nil))) (pss_one (ps_sput hr.units (pv 1) (pv 2) (pe_op op_add (pe_sget2 hr.units (pv 1) (pv 2) pe_int ⟨rfl, rfl, rfl, rfl⟩) (pv 3)) rfl)))
      (pss_one (ps_ret (pe_dcS (own := [("sheet", 2)]) (g := (gName 2)) (tk := tVar 2) (tv := tSGet P w (tVar 1) (tVar 2)) (by rfl) hr.units sc_merged.nd (pi_list (pe_callB (cr_sortedDS rfl hr.units) (by rfl) T.n_sorted (by decide +kernel) (pa_cons (pv 1) pa_nil))) (blkOk_by (own := [("sheet", 2)]) (N := ["rows", "counts", "sheet", "count"]) (sc := defScope s_merged) (by decide +kernel)) (fun _ _ _ _ _ => (pg_name (i := 2) sc_merged.nd rfl (Or.inl rfl))) (fun _ _ _ _ _ => (pv 2)) (fun _ _ _ _ _ => (pe_sget hr.units (pv 1) (pv 2) (fun _ _ => rfl)))))))), ?_⟩
    intro c hc
    refine ⟨fun σ H' => ∃ y2 y3, σ = [some r, some (.ref c), y2, y3] ∧ Same H H' ∧ DAt P w H' c (mergeD es), ?_, ?_⟩
    · have D0 : DAt P w (upd H c (DS P w c [])) c [] := ⟨upd_same, fun x hx => by cases hx⟩
      cases hh with
      | @list l as _ hl hr2 hk =>
        refine .inl ⟨_, rfl, l, rfl, ⟨_, (same_new hc).seq hl⟩, for_list (K := K) (a := l) (xs := as.map V.ref) (fun i σ H' => ∃ y2 y3, σ = [some (.ref l), some (.ref c), y2, y3] ∧ Same H H' ∧ DAt P w H' c (mergeTo es i)) ⟨none, none, rfl, same_new hc, D0⟩ ?_ ?_ ?_⟩
        · rintro i σ H' _ ⟨_, _, _, s1, _⟩
          exact s1.seq hl
        · rintro i x σ H' hx ⟨y2, y3, rfl, s1, D⟩
          obtain ⟨a, e, rfl, he, ha⟩ := hr2.row hx
          have hs := (hk e (List.mem_of_getElem? he)).same s1
          have hlt : i < es.length := (List.getElem?_eq_some_iff.mp he).1
          refine ⟨a, _, rfl, SqT.of (s1 _ _ ha), rfl, .ref e.2.1, _, rfl, .int e.2.2, _, rfl, rfl, ?_⟩
          refine ⟨.ref c, rfl, c, _, rfl, D.rd, .ref e.2.1, rfl, e.2.1, e.1, 0, _, rfl, rfl, D.rd, hs, .int e.2.2, rfl, _, _, rfl, rfl, .ref c, rfl, .ref e.2.1, rfl, c, e.2.1, _, e.1, _, rfl, rfl, rfl, D, hs, small_of (by have := mergeTo_len es i; omega), ?_⟩
          obtain ⟨s2, D2⟩ := step_put hc s1 D hs he
          exact ⟨_, _, rfl, s2, D2⟩
        · rintro σ H' ⟨y2, y3, rfl, s1, D⟩
          rw [List.length_map, hr2.len, mergeTo_all] at D
          exact ⟨_, _, rfl, s1, D⟩
      | @tup l as _ hl hr2 hk =>
        refine .inr ⟨_, rfl, l, rfl, ⟨_, Evl.ex_t (same_new hc) hl⟩, for_tup (K := K) (a := l) (xs := as.map V.ref) (fun i σ H' => ∃ y2 y3, σ = [some (.ref l), some (.ref c), y2, y3] ∧ Same H H' ∧ DAt P w H' c (mergeTo es i)) ⟨none, none, rfl, same_new hc, D0⟩ ?_ ?_ ?_⟩
        · rintro i σ H' _ ⟨_, _, _, s1, _⟩
          exact Evl.ex_t s1 hl
        · rintro i x σ H' hx ⟨y2, y3, rfl, s1, D⟩
          obtain ⟨a, e, rfl, he, ha⟩ := hr2.row hx
          have hs := (hk e (List.mem_of_getElem? he)).same s1
          have hlt : i < es.length := (List.getElem?_eq_some_iff.mp he).1
          refine ⟨a, _, rfl, SqT.of (s1 _ _ ha), rfl, .ref e.2.1, _, rfl, .int e.2.2, _, rfl, rfl, ?_⟩
          refine ⟨.ref c, rfl, c, _, rfl, D.rd, .ref e.2.1, rfl, e.2.1, e.1, 0, _, rfl, rfl, D.rd, hs, .int e.2.2, rfl, _, _, rfl, rfl, .ref c, rfl, .ref e.2.1, rfl, c, e.2.1, _, e.1, _, rfl, rfl, rfl, D, hs, small_of (by have := mergeTo_len es i; omega), ?_⟩
          obtain ⟨s2, D2⟩ := step_put hc s1 D hs he
          exact ⟨_, _, rfl, s2, D2⟩
        · rintro σ H' ⟨y2, y3, rfl, s1, D⟩
          rw [List.length_map, hr2.len, mergeTo_all] at D
          exact ⟨_, _, rfl, s1, D⟩
    · rintro σ H2 ⟨y2, y3, rfl, s2, D⟩
      have nd := merge_nodup es
      have hlen : (sortE (mergeD es)).length ≤ 1000 := by
        rw [(sortE_perm nd).length_eq]
        exact Nat.le_trans (merge_len es) hn
      refine ⟨.ref c, rfl, c, _, rfl, D, fun p hp => ⟨p, rfl, ⟨_, SqL.of upd_same⟩, fun d hd => ?_⟩⟩
      have ep := same_new (o := .lst ((sortK (mergeD es)).map fun b => V.ref b.2)) hp
      refine dcS_list (K := K) (a := p) (xs := (sortK (mergeD es)).map fun b => V.ref b.2) (fun i G => Same (upd H2 p (.lst ((sortK (mergeD es)).map fun b => V.ref b.2))) G ∧ DAt P w G d ((sortE (mergeD es)).take i)) ⟨same_new hd, upd_same, fun x hx => by cases hx⟩ (fun i G _ z => SqL.of (z.1 _ _ upd_same)) ?_ ?_ ?_
      · rintro i x G hx ⟨sG, DG⟩
        rw [List.getElem?_map] at hx
        cases hb : (sortK (mergeD es))[i]? with
        | none =>
          rw [hb] at hx
          cases hx
        | some b =>
          rw [hb] at hx
          cases hx
          obtain ⟨n, hv, hat, hin⟩ := sortE_at nd hb
          have Dc := (D.same (ep.trans sG))
          have hs := Dc.ks _ hin
          refine ⟨rfl, _, rfl, _, rfl, _, rfl, c, b.2, _, b.1, n, rfl, rfl, Dc.rd, hs, hv, b.2, b.1, n, _, rfl, rfl, DG, hs, small_of (by rw [List.length_take]; omega), ?_⟩
          have e1 := take_put (sortE_keys nd) hat
          rw [e1]
          refine ⟨fun a o z => (upd_ne (ne_of_none z hd)).trans (sG a o z), ?_⟩
          have := DG.put (n := n) hs
          rw [e1] at this
          exact this
      · rintro G ⟨sG, DG⟩
        have hl : ((sortK (mergeD es)).map fun b => V.ref b.2).length = (sortE (mergeD es)).length := by
          unfold sortE
          rw [List.length_map, List.length_map]
        rw [hl, List.take_length] at DG
        exact q d G ((s2.trans ep).free hd) ((s2.trans ep).trans sG) DG
      · rintro N N' x G hN ⟨h1, y, h2, z, h3, z2, h4, c1, p1, es1, x1, n1, h5, h6, h7, h8, h9, p2, k2, n2, es2, h10, h11, h12, h13, h14, h15⟩
        exact ⟨h1, y, h2, z, h3, z2, h4, c1, p1, es1, x1, n1, h5, h6, h7, h8, h9, p2, k2, n2, es2, h10, h11, h12, h13, h14, hN _ h15⟩
theorem Handed.put {H : Hp} {r : V} {es : DEs} {p C dx : Addr} {fs gs : List (Str × V)} (h : Handed K H r es) (hp : H p = some (.ins C dx fs)) : Handed K (upd H p (.ins C dx gs)) r es := by
  have tup : ∀ a xs, H a = some (.tup xs) → (upd H p (.ins C dx gs)) a = some (.tup xs) := fun a xs z => (upd_ne (ne_of z hp (by intro q; cases q))).trans z
  have rd : ∀ a o, o ≠ .ins C dx fs → Rd H a o → Rd (upd H p (.ins C dx gs)) a o := by
    intro a o no z
    rcases z with z | ⟨od, z⟩
    · exact .inl ((upd_ne (ne_of z hp no)).trans z)
    · exact .inr ⟨od, (upd_ne (ne_of z hp (by intro q; cases q))).trans z⟩
  cases h with
  | list hl hr hk =>
    refine .list ?_ (hr.mono tup) fun e he => (hk e he).mono tup
    rcases hl with z | z
    · exact .inl (rd _ _ (by intro q; cases q) z)
    · exact .inr z
  | tup ht hr hk =>
    refine .tup ?_ (hr.mono tup) fun e he => (hk e he).mono tup
    rcases ht with z | z
    · exact .inl (rd _ _ (by intro q; cases q) z)
    · exact .inr z
def HeapAt (P : Program) (w : World) (C : Addr) (H : Hp) (p : Addr) (d : Int) (es : DEs) : Prop := ∃ dx c : Addr, H p = some (.ins C dx [("held_root", .int d), ("copies", .ref c)]) ∧ DAt P w H c es
theorem HeapAt.same {C : Addr} {H H' : Hp} {p : Addr} {d : Int} {es : DEs} (h : HeapAt P w C H p d es) (s : Same H H') : HeapAt P w C H' p d es := by
  obtain ⟨dx, c, h1, h2⟩ := h
  exact ⟨dx, c, s _ _ h1, h2.same s⟩
theorem isRB_small {n : Int} (h : isRB n = true) : n.natAbs < 2 ^ 64 := by
  unfold isRB at h
  rw [Bool.and_eq_true] at h
  have := of_decide_eq_true h.1
  omega
def spHRows (P : Program) (w : World) (C : Addr) : Sp := fun vs H Q _ => ∃ (p : Addr) (d : Int) (es : DEs), vs = [.ref p] ∧ HeapAt P w C H p d es ∧ ∀ l as H', H l = none → Same H H' → H' l = some (.lst (as.map V.ref)) → RowsAt H' as es → Q (.ref l) H'
theorem ok_Heap_rows (T : Txt K mg) : FnOk P w K mg base CX0 1 T.f_Heap_rows T.d_Heap_rows ["self"] (spHRows P w T.C_Heap) := by
  refine T.F_Heap_rows.ok sc_Heap_rows (fun vs H Q E h => ?_) (fun cdv A outer s H vs Q E hr h => ?_)
  · obtain ⟨p, d, es, rfl, _⟩ := h
    rfl
  · obtain ⟨p, d, es, rfl, ⟨dx, c, hp, D⟩, q⟩ := h
    refine ⟨_, (pss_one (ps_ret (pe_callTy (call_list_itemsDS rfl) (by rfl) T.n_list (by decide +kernel) (pa_cons (pe_itemsDS (pe_fld (pv 0) rfl)) pa_nil)))), ?_⟩
    refine ⟨_, rfl, p, T.C_Heap, dx, _, _, rfl, hp, T.cl_Heap, T.n_Heap_copies, rfl, c, es, rfl, rfl, D, fun v hv => ?_⟩
    refine ⟨v, c, es, rfl, upd_same, D.same (same_new hv), fun l as H' hl s1 hL hR => ?_⟩
    exact q l as H' ((same_new hv).free hl) ((same_new hv).trans s1) hL hR
end
section
variable {base : Heap} {K : PySem.W.Frag} {mg : Str → Option Value} {P : Program} {w : World}
def spRoot (P : Program) (w : World) (C : Addr) : Sp := fun vs H Q _ => ∃ (p : Addr) (d : Int) (es : DEs), vs = [.ref p] ∧ HeapAt P w C H p d es ∧ Q (.int d) H
theorem ok_Heap_root (T : Txt K mg) : FnOk P w K mg base CX0 1 T.f_Heap_root T.d_Heap_root ["self"] (spRoot P w T.C_Heap) := by
  refine T.F_Heap_root.ok sc_Heap_root (fun vs H Q E h => ?_) (fun cdv A outer s H vs Q E hr h => ?_)
  · obtain ⟨p, d, es, rfl, _⟩ := h
    rfl
  · obtain ⟨p, d, es, rfl, ⟨dx, c, hp, _⟩, q⟩ := h
    exact ⟨_, (pss_one (ps_ret (pe_fld (pv 0) rfl))), _, rfl, p, T.C_Heap, dx, _, _, rfl, hp, T.cl_Heap, T.n_Heap_held_root, rfl, q⟩
end
section
variable {base : Heap} {K : PySem.W.Frag} {mg : Str → Option Value} {w : World}
def spHInit (T : Txt K mg) (w : World) : Sp := fun vs H Q E => ∃ (p dx : Addr) (d : Int) (r : V) (es : DEs), vs = [.ref p, .int d, r] ∧ H p = some (.ins T.C_Heap dx []) ∧ Handed K H r es ∧ Es100 es ∧ es.length ≤ 1000 ∧
  (isRB d = true → (∀ e ∈ es, rowB d e = true) → ∀ H', HeapAt PySem.Challenge.pw_grainyard_k16_sums_of_heaps w T.C_Heap H' p d (sortE (mergeD es)) → (∀ q o, H q = some o → q ≠ p → H' q = some o) → Q .non H') ∧
  (isRB d = true → ∀ i, FirstBad d es i → Throws T.e_BadRow.C (badRow i) H E) ∧ (isRB d = false → Throws T.e_BadRoot.C (badRoot (.int d)) H E)
theorem ok_Heap_init (T : Txt K mg) : FnOk PySem.Challenge.pw_grainyard_k16_sums_of_heaps w K mg base (L2.CX PySem.Challenge.pw_grainyard_k16_sums_of_heaps w) 5 T.f_Heap_init T.d_Heap_init ["self", "root", "rows"] (spHInit T w) := by
  refine T.F_Heap_init.ok sc_Heap_init (fun vs H Q E h => ?_) (fun cdv A outer s H vs Q E hr h => ?_)
  · obtain ⟨p, dx, d, r, es, rfl, _⟩ := h
    rfl
  · obtain ⟨p, dx, d, r, es, rfl, hp, hh, b, hn, q1, q2, q3⟩ := h
    refine ⟨_, (pss_cons (ps_expr (pe_call (ok_check_root T) (hr.mono (by decide)) (by rfl) T.g_check_root T.F_check_root.kp T.b_check_root .nil (passes_call (takes_of rfl rfl rfl rfl) (fun _ _ _ _ h => h)) (pa_cons (pv 1) pa_nil)))
      (pss_cons (ps_expr (pe_call (ok_check_rows T) (hr.mono (by decide)) (by rfl) T.g_check_rows T.F_check_rows.kp T.b_check_rows .nil (passes_call (takes_of rfl rfl rfl rfl) (fun _ _ _ _ h => h)) (pa_cons (pv 2) (pa_cons (pv 1) pa_nil))))
      (pss_cons (ps_fld (pv 0) (pv 1) rfl)
      (pss_one (ps_fld (pv 0) (pe_call (ok_merged T) (hr.mono (by decide)) (by rfl) T.g_merged T.F_merged.kp T.b_merged .nil pass0 (pa_cons (pv 2) pa_nil)) rfl))))), ?_⟩
    refine ⟨_, rfl, d, rfl, fun hd => ?_, q3⟩
    refine ⟨_, rfl, _, rfl, r, d, es, rfl, hh, isRB_small hd, b, fun ok H1 s1 => ?_, q2 hd⟩
    refine ⟨_, rfl, _, rfl, p, T.C_Heap, dx, [], rfl, s1 _ _ hp, T.cl_Heap, T.n_Heap_held_root, by decide, ?_⟩
    refine ⟨_, rfl, r, es, rfl, (hh.same s1).put (s1 _ _ hp), hn, fun c H2 hc s2 D => ?_⟩
    have hp2 := s2 _ _ (upd_same (H := H1) (a := p) (o := .ins T.C_Heap dx [("held_root", .int d)]))
    refine ⟨_, rfl, p, T.C_Heap, dx, _, rfl, hp2, T.cl_Heap, T.n_Heap_copies, (by show 1 < 1000; decide), ?_⟩
    refine q1 hd ok _ ⟨dx, c, upd_same, (upd_ne (ne_of D.hd hp2 (by intro z; cases z))).trans D.hd, fun x hx => (D.ks x hx).mono fun a xs z => (upd_ne (ne_of z hp2 (by intro z; cases z))).trans z⟩ fun b o z ne => ?_
    exact (upd_ne ne).trans (s2 _ _ ((upd_ne ne).trans (s1 _ _ z)))
/-- Heap(d, r), where nothing is wrong -/
theorem mk_heap {T : Txt K mg} {H : Hp} {d : Int} {r : V} {es : DEs} {R : Addr → Hp → Prop} {E : XK} (hd : isRB d = true) (hh : Handed K H r es) (b : Es100 es) (ok : ∀ e ∈ es, rowB d e = true) (hn : es.length ≤ 1000) (q : ∀ x H', H x = none → Same H H' → HeapAt PySem.Challenge.pw_grainyard_k16_sums_of_heaps w T.C_Heap H' x d (sortE (mergeD es)) → R x H') :
    ∀ x dx, H x = none → H dx = none → dx ≠ x → spHInit T w [.ref x, .int d, r] (upd (upd H dx (.own x)) x (.ins T.C_Heap dx [])) (fun v H2 => v = .non ∧ R x H2) E := by
  intro x dx nx nd ne
  have s1 : Same H (upd (upd H dx (.own x)) x (.ins T.C_Heap dx [])) := fun b o z => by
    rw [upd_ne (ne_of_none z nx), upd_ne (ne_of_none z nd)]
    exact z
  refine ⟨x, dx, d, r, es, rfl, upd_same, hh.same s1, b, hn, fun _ _ H' hA hk => ⟨rfl, q x H' nx (fun b o z => hk b o (s1 b o z) (ne_of_none z nx)) hA⟩, fun _ i fb => ?_, fun z => by rw [hd] at z; cases z⟩
  obtain ⟨⟨e, he, ez⟩, _⟩ := fb
  rw [ok e (List.mem_of_getElem? he)] at ez
  cases ez
/-- Heap(d, r), where something is wrong -/
theorem no_heap {T : Txt K mg} {H : Hp} {d : Int} {r : V} {es : DEs} {R : Addr → Hp → Prop} {E : XK} (hh : Handed K H r es) (b : Es100 es) (hn : es.length ≤ 1000) (q2 : isRB d = true → ∃ i, FirstBad d es i ∧ Throws T.e_BadRow.C (badRow i) H E) (q3 : isRB d = false → Throws T.e_BadRoot.C (badRoot (.int d)) H E) :
    ∀ x dx, H x = none → H dx = none → dx ≠ x → spHInit T w [.ref x, .int d, r] (upd (upd H dx (.own x)) x (.ins T.C_Heap dx [])) (fun v H2 => v = .non ∧ R x H2) E := by
  intro x dx nx nd ne
  have s1 : Same H (upd (upd H dx (.own x)) x (.ins T.C_Heap dx [])) := fun b o z => by
    rw [upd_ne (ne_of_none z nx), upd_ne (ne_of_none z nd)]
    exact z
  refine ⟨x, dx, d, r, es, rfl, upd_same, hh.same s1, b, hn, fun hd ok => ?_, fun hd i fb => ?_, fun z => (q3 z).up s1⟩
  · obtain ⟨i, ⟨⟨e, he, ez⟩, _⟩, _⟩ := q2 hd
    rw [ok e (List.mem_of_getElem? he)] at ez
    cases ez
  · obtain ⟨j, fb', th⟩ := q2 hd
    have : i = j := by
      obtain ⟨⟨e, he, ez⟩, g⟩ := fb
      obtain ⟨⟨e', he', ez'⟩, g'⟩ := fb'
      rcases Nat.lt_trichotomy i j with l | l | l
      · rw [g' i e l he] at ez
        cases ez
      · exact l
      · rw [g j e' l he'] at ez'
        cases ez'
    rw [this]
    exact th.up s1
end
/-! ### heaps by their sums -/
def ind (x y : Sh) : Int := if y = x then 1 else 0
def cnt (es : DEs) (x : Sh) : Int := (valD es x).getD 0
theorem ltS_irr (x : Sh) : ¬ ltS x x := by
  unfold ltS
  omega
theorem ltS_tr {x y z : Sh} (h1 : ltS x y) (h2 : ltS y z) : ltS x z := ltS_go h1 h2
theorem ltS_asym {x y : Sh} (h1 : ltS x y) (h2 : ltS y x) : False := ltS_irr x (ltS_tr h1 h2)
/-- ascending, with numbers from 1 -/
structure Asc (es : DEs) : Prop where
  up : es.Pairwise fun a b => ltS a.1 b.1
  pos : ∀ e ∈ es, 1 ≤ e.2.2
theorem Asc.nd {es : DEs} (h : Asc es) : (keysD es).Nodup := by
  refine List.pairwise_map.mpr (h.up.imp ?_)
  intro a b l z
  rw [z] at l
  exact ltS_irr _ l
theorem Asc.tail {e : Sh × Addr × Int} {es : DEs} (h : Asc (e :: es)) : Asc es := ⟨(List.pairwise_cons.mp h.up).2, fun f hf => h.pos f (List.mem_cons_of_mem _ hf)⟩
theorem asc_nil : Asc [] := ⟨.nil, fun e he => by cases he⟩
theorem asc_made {S : Sh → Prop} {M : Int} {es : DEs} (hM : 0 ≤ M) (h : Within S M es) : Asc (sortE (mergeD es)) := by
  refine ⟨sortE_up (merge_nodup es), fun e he => ?_⟩
  exact ((merge_within hM h) e ((sortE_perm (merge_nodup es)).mem_iff.mp he)).2.1
theorem made_wsum (φ : Sh → Int) (es : DEs) : wsum φ (sortE (mergeD es)) = wsum φ es := by
  rw [wsum_perm (sortE_perm (merge_nodup es)), merge_wsum]
theorem wsum_ind0 {x : Sh} : ∀ {es : DEs}, x ∉ keysD es → wsum (ind x) es = 0
  | [], _ => rfl
  | e :: es, h => by
    have h1 : e.1 ≠ x := fun z => h (z ▸ List.mem_cons_self)
    rw [wsum_cons, wsum_ind0 fun z => h (List.mem_cons_of_mem _ z)]
    unfold ind
    rw [if_neg h1]
    omega
theorem cnt_wsum {x : Sh} : ∀ {es : DEs}, (keysD es).Nodup → wsum (ind x) es = cnt es x
  | [], _ => rfl
  | e :: es, h => by
    obtain ⟨h1, h2⟩ := List.nodup_cons.mp h
    rw [wsum_cons]
    unfold cnt
    rw [valD_cons]
    by_cases z : e.1 = x
    · subst z
      rw [if_pos rfl, wsum_ind0 h1]
      unfold ind
      rw [if_pos rfl]
      show e.2.2 * 1 + 0 = e.2.2
      omega
    · rw [if_neg z, cnt_wsum h2]
      unfold ind
      rw [if_neg z]
      show e.2.2 * 0 + cnt es x = cnt es x
      omega
/-- the first keys of two ascending lists with the same numbers -/
theorem asc_same : ∀ {es fs : DEs}, Asc es → Asc fs → (∀ x, cnt es x = cnt fs x) → (es.map fun e => (e.1, e.2.2)) = fs.map fun e => (e.1, e.2.2)
  | [], [], _, _, _ => rfl
  | [], f :: fs, _, hf, h => by
    have z := h f.1
    have p := hf.pos f List.mem_cons_self
    unfold cnt at z
    rw [valD_cons, if_pos rfl] at z
    have z : (0 : Int) = f.2.2 := z
    omega
  | e :: es, [], he, _, h => by
    have z := h e.1
    have p := he.pos e List.mem_cons_self
    unfold cnt at z
    rw [valD_cons, if_pos rfl] at z
    have z : e.2.2 = (0 : Int) := z
    omega
  | e :: es, f :: fs, he, hf, h => by
    have low : ∀ {a : Sh × Addr × Int} {as : DEs} {x : Sh}, Asc (a :: as) → ltS x a.1 → cnt (a :: as) x = 0 := by
      intro a as x ha l
      unfold cnt
      have : valD (a :: as) x = none := valD_none.mpr fun z => by
        rcases List.mem_cons.mp z with q | q
        · exact ltS_irr x (q ▸ l)
        · obtain ⟨b, hb, q⟩ := List.mem_map.mp q
          have l2 := ltS_tr l ((List.pairwise_cons.mp ha.up).1 b hb)
          rw [q] at l2
          exact ltS_irr x l2
      rw [this]
      rfl
    have at_ : ∀ {a : Sh × Addr × Int} {as : DEs}, cnt (a :: as) a.1 = a.2.2 := by
      intro a as
      unfold cnt
      rw [valD_cons, if_pos rfl]
      rfl
    have pe := he.pos e List.mem_cons_self
    have pf := hf.pos f List.mem_cons_self
    have k : e.1 = f.1 := by
      by_cases z : e.1 = f.1
      · exact z
      · exfalso
        by_cases l : ltS e.1 f.1
        · have := h e.1
          rw [at_, low hf l] at this
          omega
        · have l2 : ltS f.1 e.1 := by
            refine ltS_of ?_ fun q => z q.symm
            unfold leS
            rw [decide_eq_false l]
            rfl
          have := h f.1
          rw [at_, low he l2] at this
          omega
    have v : e.2.2 = f.2.2 := by
      have := h e.1
      rw [at_, k, at_] at this
      exact this
    rw [List.map_cons, List.map_cons, k, v, asc_same he.tail hf.tail fun x => ?_]
    have z := h x
    unfold cnt at z ⊢
    rw [valD_cons, valD_cons] at z
    by_cases q : e.1 = x
    · have ne : valD es x = none := valD_none.mpr (q ▸ (List.nodup_cons.mp he.nd).1)
      have nf : valD fs x = none := valD_none.mpr (q ▸ k ▸ (List.nodup_cons.mp hf.nd).1)
      rw [ne, nf]
    · rwa [if_neg q, if_neg fun w => q (k.trans w)] at z
theorem asc_eq {es fs : DEs} (he : Asc es) (hf : Asc fs) (h : ∀ φ, wsum φ es = wsum φ fs) : (es.map fun e => (e.1, e.2.2)) = fs.map fun e => (e.1, e.2.2) := asc_same he hf fun x => by
  rw [← cnt_wsum he.nd, ← cnt_wsum hf.nd, h]
theorem nd_le : ∀ {as bs : List Sh}, as.Nodup → (∀ a ∈ as, a ∈ bs) → as.length ≤ bs.length
  | [], _, _, _ => Nat.zero_le _
  | a :: as, bs, n, h => by
    obtain ⟨n1, n2⟩ := List.nodup_cons.mp n
    obtain ⟨l, r, rfl⟩ := List.append_of_mem (h a List.mem_cons_self)
    have := nd_le (as := as) (bs := l ++ r) n2 fun b hb => by
      rcases List.mem_append.mp (h b (List.mem_cons_of_mem _ hb)) with z | z
      · exact List.mem_append_left _ z
      · rcases List.mem_cons.mp z with q | q
        · exact absurd hb (q ▸ n1)
        · exact List.mem_append_right _ q
    rw [List.length_append] at this
    rw [List.length_append, List.length_cons, List.length_cons]
    omega
theorem nd_back {as bs : List Sh} (n : as.Nodup) (h : ∀ a ∈ as, a ∈ bs) (l : bs.length = as.length) {x : Sh} (hx : x ∈ bs) : x ∈ as := by
  by_cases z : x ∈ as
  · exact z
  · exfalso
    have := nd_le (as := x :: as) (bs := bs) (List.nodup_cons.mpr ⟨z, n⟩) fun a ha => by
      rcases List.mem_cons.mp ha with q | q
      · exact q ▸ hx
      · exact h a q
    rw [List.length_cons] at this
    omega
theorem eqD_iff {es fs : DEs} (he : Asc es) (hf : Asc fs) : eqD es fs = decide ((es.map fun e => (e.1, e.2.2)) = fs.map fun e => (e.1, e.2.2)) := by
  by_cases h : (es.map fun e => (e.1, e.2.2)) = fs.map fun e => (e.1, e.2.2)
  · rw [decide_eq_true h]
    unfold eqD
    have l := congrArg List.length h
    rw [List.length_map, List.length_map] at l
    rw [decide_eq_true l, Bool.true_and, List.all_eq_true]
    intro e hm
    have : (e.1, e.2.2) ∈ fs.map fun e => (e.1, e.2.2) := h ▸ List.mem_map.mpr ⟨e, hm, rfl⟩
    obtain ⟨f, hf', q⟩ := List.mem_map.mp this
    obtain ⟨q1, q2⟩ := Prod.mk.inj q
    unfold eqE
    rw [← q1, ← q2]
    exact decide_eq_true (valD_mem hf.nd hf')
  · rw [decide_eq_false h]
    cases z : eqD es fs with
    | false => rfl
    | true =>
      exfalso
      unfold eqD at z
      rw [Bool.and_eq_true, List.all_eq_true] at z
      obtain ⟨z1, z2⟩ := z
      have z1 := of_decide_eq_true z1
      have sub : ∀ e ∈ es, ∃ f ∈ fs, f.1 = e.1 ∧ f.2.2 = e.2.2 := fun e hm => valD_some (of_decide_eq_true (z2 e hm))
      have ksub : ∀ x ∈ keysD es, x ∈ keysD fs := fun x hx => by
        obtain ⟨e, hm, rfl⟩ := List.mem_map.mp hx
        obtain ⟨f, hf', q, _⟩ := sub e hm
        exact q ▸ List.mem_map.mpr ⟨f, hf', rfl⟩
      have klen : (keysD fs).length = (keysD es).length := by
        unfold keysD
        rw [List.length_map, List.length_map]
        exact z1.symm
      refine h (asc_same he hf fun x => ?_)
      unfold cnt
      cases q : valD es x with
      | none =>
        rw [valD_none.mpr fun w => valD_none.mp q (nd_back he.nd ksub klen w)]
      | some n =>
        obtain ⟨e, hm, rfl, rfl⟩ := valD_some q
        rw [of_decide_eq_true (z2 e hm)]
theorem dpair {K : PySem.W.Frag} {H : Hp} {p : Addr} {x y : Int} (h : H p = some (.tup [.int x, .int y])) : Dp K H (.ref p) (.tuple [.int x, .int y]) := .tup (SqT.of h) (.cons (.int x) (.cons (.int y) .nil))
/-! ### lengths and sheets that are drawn -/
theorem isRB_of {d : Int} (h : IsRoot d) : isRB d = true := by
  obtain ⟨h1, h2, k, k0, k1, k2⟩ := h
  rw [← isR_of h1 h2 k0 (Int.le_of_lt k1) k2, decide_eq_false fun z => by have := V.int.inj z; omega]
  rfl
theorem IsRoot.small {d : Int} (h : IsRoot d) : d.natAbs < 2 ^ 64 := isRB_small (isRB_of h)
def LenB (d a b : Int) : Prop := 0 < vl a b d ∧ a.natAbs ≤ 10 ^ 6 ∧ b.natAbs ≤ 10 ^ 6
def ShB (d : Int) (x : Sh) : Prop := LenB d x.1 x.2.1 ∧ LenB d x.2.2.1 x.2.2.2
theorem m6 {x : Int} (h : x.natAbs ≤ 10 ^ 6) : x.natAbs < 2 ^ 100 := Nat.lt_of_le_of_lt h (by decide)
theorem m6w {x : Int} (h : x.natAbs ≤ 10 ^ 6) : x.natAbs < 2 ^ 9000 := w100 (m6 h)
theorem LenB.ok {d a b : Int} (h : LenB d a b) : LenOk d a b := ⟨h.1, m6 h.2.1, m6 h.2.2⟩
theorem ShB.ok {d : Int} {x : Sh} (h : ShB d x) : ShOk d x := ⟨h.1.ok, h.2.ok⟩
theorem ab_opp (a : Int) : ab (-a) = ab a := by
  unfold ab
  split <;> split <;> omega
theorem vl_opp (a b d : Int) : vl (-a) (-b) d = -vl a b d := by
  unfold vl
  rw [ab_opp, ab_opp]
  grind
theorem vl_one (n d : Int) (h : 0 < n) : 0 < vl n 0 d := by
  unfold vl
  rw [ab_nn (Int.le_of_lt h)]
  have := Int.mul_pos h h
  grind
theorem keep_free {b p : Addr} {H H' : Hp} (k : Keep b H H') (n : p ≠ b) (h : H' p = none) : H p = none := by
  cases e : H p with
  | none => rfl
  | some o => exact absurd (k p o n e) (by rw [h]; simp)
section
variable {base : Heap} {K : PySem.W.Frag} {mg : Str → Option Value} {P : Program} {w : World}
/-- a length, drawn -/
def GotLen (b sb : Addr) (d : Int) (H : Hp) (Q : VK) : Prop := ∀ x y p H', LenB d x y → p ≠ b → H' p = some (.tup [.int x, .int y]) → Bag H' b sb → Keep b H H' → Q (.ref p) H'
def spALen : Sp := fun vs H Q _ => ∃ (b sb : Addr) (d : Int), vs = [.ref b, .int d] ∧ Bag H b sb ∧ IsRoot d ∧ GotLen b sb d H Q
/-- the rest of a draw of a length, when the pair stands: the pair, its opposite, or a whole number -/
theorem sgn_cases (a b d : Int) : (sgnI (vl a b d) = 0 ∧ vl a b d = 0) ∨ (sgnI (vl a b d) = 1 ∧ 0 < vl a b d) ∨ (sgnI (vl a b d) = -1 ∧ 0 < vl (-a) (-b) d) := by
  rcases Int.lt_trichotomy (vl a b d) 0 with h | h | h
  · exact .inr (.inr ⟨sgnI_neg h, by rw [vl_opp]; omega⟩)
  · exact .inl ⟨by rw [h]; rfl, h⟩
  · exact .inr (.inl ⟨sgnI_pos h, h⟩)
theorem ok_a_length (T : Txt K mg) : FnOk P w K mg base CX0 4 T.f_a_length T.d_a_length ["_law_bag", "_law_root"] spALen := by
  refine T.F_a_length.ok sc_a_length (fun vs H Q E h => ?_) (fun cdv A outer s H vs Q E hr h => ?_)
  · obtain ⟨b, sb, d, rfl, _⟩ := h
    rfl
  · obtain ⟨b, sb, d, rfl, B, hd, q⟩ := h
    refine ⟨_, (pss_cons (ps_set (i := 2) sc_a_length.nd rfl (Or.inl rfl) (pe_call (ok_any_pair T) (hr.mono (by decide)) (by rfl) T.g_any_pair T.F_any_pair.kp T.b_any_pair .nil pass0 (pa_cons (pv 0) pa_nil)))
      (pss_cons (ps_if (pt_cmpR op_eq (pe_call (ok_lsign T) (hr.mono (by decide)) (by rfl) T.g_lsign T.F_lsign.kp T.b_lsign .nil pass0 (pa_cons (pv 2) (pa_cons (pv 1) pa_nil))) pe_int (nomark _)) (pss_one (ps_ret (pe_tup (pa_cons (pe_op op_add pe_int (pe_call (ok_pull T) (hr.mono (by decide)) (by rfl) T.g_pull T.F_pull.kp T.b_pull .nil pass0 (pa_cons (pv 0) (pa_cons pe_int pa_nil)))) (pa_cons pe_int pa_nil))))) pss_nil)
      (pss_one (ps_ret (pe_ifExp (pt_cmpR op_gt (pe_call (ok_lsign T) (hr.mono (by decide)) (by rfl) T.g_lsign T.F_lsign.kp T.b_lsign .nil pass0 (pa_cons (pv 2) (pa_cons (pv 1) pa_nil))) pe_int (nomark _)) (pv 2) (pe_tup (pa_cons (pe_op op_sub pe_int (pe_ix ix_tup (pv 2) pe_int (fun _ _ => rfl))) (pa_cons (pe_op op_sub pe_int (pe_ix ix_tup (pv 2) pe_int (fun _ _ => rfl))) pa_nil)))))))), ?_⟩
    refine ⟨.ref b, rfl, b, sb, rfl, B, fun x y p H1 a1 a2 a3 a4 n1 h1 B1 k1 => ?_⟩
    have bx : x.natAbs ≤ 10 ^ 6 := by omega
    have bY : y.natAbs ≤ 10 ^ 6 := by omega
    have np := B.ne n1
    refine ⟨.ref p, rfl, .int d, rfl, p, d, x, y, rfl, SqT.of h1, hd.small, m6w bx, m6w bY, ?_⟩
    rcases sgn_cases x y d with ⟨e, z⟩ | ⟨e, z⟩ | ⟨e, z⟩ <;> rw [e]
    · refine ⟨rfl, true, rfl, iteT ⟨.ref b, rfl, b, sb, 9, rfl, B1, by decide, by decide, fun n H2 z0 z1 B2 k2 => ⟨1, n, rfl, rfl, by show 2 ≤ sizeLine; decide, fun p2 hp2 => ?_⟩⟩⟩
      exact q _ _ p2 _ ⟨vl_one (1 + n) d (by omega), by omega, by decide⟩ (B2.ne hp2) upd_same (B2.new hp2) (k1.trans (k2.trans (keep_new hp2)))
    · refine ⟨rfl, false, rfl, iteF ⟨.ref p, rfl, .int d, rfl, p, d, x, y, rfl, SqT.of h1, hd.small, m6w bx, m6w bY, ?_⟩⟩
      rw [e]
      exact ⟨1, 0, rfl, rfl, true, rfl, iteT ⟨_, rfl, q x y p H1 ⟨z, bx, bY⟩ np h1 B1 k1⟩⟩
    · refine ⟨rfl, false, rfl, iteF ⟨.ref p, rfl, .int d, rfl, p, d, x, y, rfl, SqT.of h1, hd.small, m6w bx, m6w bY, ?_⟩⟩
      rw [e]
      refine ⟨-1, 0, rfl, rfl, false, rfl, iteF ⟨_, rfl, p, _, 0, .int x, rfl, rfl, SqT.of h1, atI_nat (j := 0) rfl, 0, x, rfl, rfl, _, rfl, p, _, 1, .int y, rfl, rfl, SqT.of h1, atI_nat (j := 1) rfl, 0, y, rfl, rfl, by show 2 ≤ sizeLine; decide, fun p2 hp2 => ?_⟩⟩
      refine q (0 - x) (0 - y) p2 _ ⟨?_, by omega, by omega⟩ (B1.ne hp2) upd_same (B1.new hp2) (k1.trans (keep_new hp2))
      rw [Int.zero_sub, Int.zero_sub]
      exact z
def GotSheet (b sb : Addr) (d : Int) (H : Hp) (Q : VK) : Prop := ∀ x p H', ShB d x → ShAt H' p x → Bag H' b sb → Keep b H H' → Q (.ref p) H'
def spASheet : Sp := fun vs H Q _ => ∃ (b sb : Addr) (d : Int), vs = [.ref b, .int d] ∧ Bag H b sb ∧ IsRoot d ∧ GotSheet b sb d H Q
theorem ok_a_sheet (T : Txt K mg) : FnOk P w K mg base CX0 5 T.f_a_sheet T.d_a_sheet ["_law_bag", "_law_root"] spASheet := by
  refine T.F_a_sheet.ok sc_a_sheet (fun vs H Q E h => ?_) (fun cdv A outer s H vs Q E hr h => ?_)
  · obtain ⟨b, sb, d, rfl, _⟩ := h
    rfl
  · obtain ⟨b, sb, d, rfl, B, hd, q⟩ := h
    refine ⟨_, (pss_cons (ps_set (i := 2) sc_a_sheet.nd rfl (Or.inl rfl) (pe_call (ok_a_length T) (hr.mono (by decide)) (by rfl) T.g_a_length T.F_a_length.kp T.b_a_length .nil pass0 (pa_cons (pv 0) (pa_cons (pv 1) pa_nil))))
      (pss_one (ps_ret (pe_tup (pa_cons (pv 2) (pa_cons (pe_call (ok_of T) (hr.mono (by decide)) (by rfl) T.g_of T.F_of.kp T.b_of .nil pass0 (pa_cons (pv 0) (pa_cons (pe_lst (pa_cons (pe_call (ok_a_length T) (hr.mono (by decide)) (by rfl) T.g_a_length T.F_a_length.kp T.b_a_length .nil pass0 (pa_cons (pv 0) (pa_cons (pv 1) pa_nil))) (pa_cons (pe_call (ok_a_length T) (hr.mono (by decide)) (by rfl) T.g_a_length T.F_a_length.kp T.b_a_length .nil pass0 (pa_cons (pv 0) (pa_cons (pv 1) pa_nil))) (pa_cons (pe_call (ok_a_length T) (hr.mono (by decide)) (by rfl) T.g_a_length T.F_a_length.kp T.b_a_length .nil pass0 (pa_cons (pv 0) (pa_cons (pv 1) pa_nil))) (pa_cons (pv 2) pa_nil))))) pa_nil))) pa_nil)))))), ?_⟩
    refine ⟨.ref b, rfl, .int d, rfl, b, sb, d, rfl, B, hd, fun x y p H1 l1 n1 h1 B1 k1 => ?_⟩
    refine ⟨.ref p, rfl, .ref b, rfl, .ref b, rfl, .int d, rfl, b, sb, d, rfl, B1, hd, fun x2 y2 p2 H2 l2 n2 h2 B2 k2 => ?_⟩
    refine ⟨.ref b, rfl, .int d, rfl, b, sb, d, rfl, B2, hd, fun x3 y3 p3 H3 l3 n3 h3 B3 k3 => ?_⟩
    refine ⟨.ref b, rfl, .int d, rfl, b, sb, d, rfl, B3, hd, fun x4 y4 p4 H4 l4 n4 h4 B4 k4 => ?_⟩
    refine ⟨.ref p, rfl, by show 4 ≤ sizeLine; decide, fun l hl => ?_⟩
    refine ⟨b, sb, l, _, rfl, B4.new hl, upd_same, B4.ne hl, by simp, by simp, fun i v H5 hv B5 k5 => ⟨by show 2 ≤ sizeLine; decide, fun t ht => ?_⟩⟩
    have k45 : Keep b H4 H5 := (keep_new hl).trans k5
    have kk := k1.trans (k2.trans (k3.trans (k4.trans k45)))
    have e := same_new (o := .tup [.ref p, v]) ht
    have g1 := e _ _ ((k2.trans (k3.trans (k4.trans k45))) _ _ n1 h1)
    have fin : ∀ (x' y' : Int) (p' : Addr), v = .ref p' → LenB d x' y' → H5 p' = some (.tup [.int x', .int y']) → Q (.ref t) (upd H5 t (.tup [.ref p, v])) := by
      rintro x' y' p' rfl l' h'
      exact q (x, y, x', y') t _ ⟨l1, l'⟩ ⟨p, p', upd_same, g1, e _ _ h'⟩ (B5.same e) (kk.trans (keep_of e))
    match i, hv with
    | 0, hv => cases hv; exact fin x2 y2 p2 rfl l2 ((k3.trans (k4.trans k45)) _ _ n2 h2)
    | 1, hv => cases hv; exact fin x3 y3 p3 rfl l3 ((k4.trans k45) _ _ n3 h3)
    | 2, hv => cases hv; exact fin x4 y4 p4 rfl l4 (k45 _ _ n4 h4)
    | 3, hv => cases hv; exact fin x y p rfl l1 ((k2.trans (k3.trans (k4.trans k45))) _ _ n1 h1)
    | n + 4, hv => simp at hv
def spCount : Sp := fun vs H Q _ => ∃ b sb : Addr, vs = [.ref b] ∧ Bag H b sb ∧ ∀ n H', 1 ≤ n → n ≤ 10 ^ 6 → Bag H' b sb → Keep b H H' → Q (.int n) H'
theorem ok_some_count (T : Txt K mg) : FnOk P w K mg base CX0 3 T.f_some_count T.d_some_count ["_law_bag"] spCount := by
  refine T.F_some_count.ok sc_some_count (fun vs H Q E h => ?_) (fun cdv A outer s H vs Q E hr h => ?_)
  · obtain ⟨b, sb, rfl, _⟩ := h
    rfl
  · obtain ⟨b, sb, rfl, B, q⟩ := h
    refine ⟨_, (pss_one (ps_ret (pe_call (ok_of T) (hr.mono (by decide)) (by rfl) T.g_of T.F_of.kp T.b_of .nil pass0 (pa_cons (pv 0) (pa_cons (pe_lst (pa_cons pe_int (pa_cons pe_int (pa_cons pe_int (pa_cons pe_int (pa_cons pe_int (pa_cons pe_int (pa_cons pe_int (pa_cons (pe_op op_add pe_int (pe_call (ok_pull T) (hr.mono (by decide)) (by rfl) T.g_pull T.F_pull.kp T.b_pull .nil pass0 (pa_cons (pv 0) (pa_cons (pe_op op_pow pe_int pe_int) pa_nil)))) pa_nil))))))))) pa_nil))))), ?_⟩
    refine ⟨.ref b, rfl, .ref b, rfl, 10, 6, rfl, rfl, ⟨by decide, by decide, by decide⟩, b, sb, _, rfl, B, (by decide), (by decide), fun z H1 z0 z1 B1 k1 => ⟨1, z, rfl, rfl, by show 8 ≤ sizeLine; decide, fun l hl => ?_⟩⟩
    have z2 : z < 1000000 := z1
    refine ⟨b, sb, l, _, rfl, B1.new hl, upd_same, B1.ne hl, by simp, by simp, fun i v H2 hv B2 k2 => ?_⟩
    have kk := k1.trans ((keep_new hl).trans k2)
    match i, hv with
    | 0, hv => cases hv; exact q 1 H2 (by decide) (by decide) B2 kk
    | 1, hv => cases hv; exact q 1 H2 (by decide) (by decide) B2 kk
    | 2, hv => cases hv; exact q 1 H2 (by decide) (by decide) B2 kk
    | 3, hv => cases hv; exact q 2 H2 (by decide) (by decide) B2 kk
    | 4, hv => cases hv; exact q 3 H2 (by decide) (by decide) B2 kk
    | 5, hv => cases hv; exact q 6 H2 (by decide) (by decide) B2 kk
    | 6, hv => cases hv; exact q 12 H2 (by decide) (by decide) B2 kk
    | 7, hv => cases hv; exact q (1 + z) H2 (by omega) (by omega) B2 kk
    | n + 8, hv => simp at hv
end
/-! ### rows and stocks that are drawn -/
/-- the rows es, in a list that the program has made -/
def RowsL (H : Hp) (l : Addr) (es : DEs) : Prop := ∃ as : List Addr, H l = some (.lst (as.map V.ref)) ∧ RowsAt H as es ∧ ∀ e ∈ es, ShAt H e.2.1 e.1
theorem RowsL.mono {H H' : Hp} {l : Addr} {es : DEs} (h : RowsL H l es) (kl : ∀ xs, H l = some (.lst xs) → H' l = some (.lst xs)) (k : ∀ p xs, H p = some (.tup xs) → H' p = some (.tup xs)) : RowsL H' l es := by
  obtain ⟨as, h1, h2, h3⟩ := h
  exact ⟨as, kl _ h1, h2.mono k, fun e he => (h3 e he).mono k⟩
theorem RowsL.same {H H' : Hp} {l : Addr} {es : DEs} (h : RowsL H l es) (s : Same H H') : RowsL H' l es := h.mono (fun _ z => s _ _ z) fun _ _ z => s _ _ z
theorem RowsL.keep {H H' : Hp} {l b sb : Addr} {es : DEs} (h : RowsL H l es) (B : Bag H b sb) (n : l ≠ b) (k : Keep b H H') : RowsL H' l es := h.mono (fun _ z => k _ _ n z) (tup_keep B k)
theorem RowsL.snoc {H : Hp} {l t p : Addr} {es : DEs} {x : Sh} {n : Int} (h : RowsL H l es) (ht : H t = some (.tup [.ref p, .int n])) (hp : ShAt H p x) : ∃ xs, H l = some (.lst xs) ∧ xs.length = es.length ∧ RowsL (upd H l (.lst (xs ++ [.ref t]))) l (es ++ [(x, p, n)]) := by
  obtain ⟨as, h1, h2, h3⟩ := h
  refine ⟨_, h1, by rw [List.length_map]; exact h2.len, as ++ [t], by rw [upd_same, List.map_append]; rfl, ?_, fun e he => ?_⟩
  · have r2 : RowsAt (upd H l (.lst (as.map V.ref ++ [.ref t]))) as es := h2.mono (tup_put h1)
    unfold RowsAt at r2 ⊢
    exact Paired.snoc (a := t) (b := (x, p, n)) (tup_put h1 _ _ ht) r2
  · rcases List.mem_append.mp he with he | he
    · exact (h3 e he).mono (tup_put h1)
    · rw [List.mem_singleton.mp he]
      exact hp.mono (tup_put h1)
theorem RowsL.handed {K : PySem.W.Frag} {H : Hp} {l : Addr} {es : DEs} (h : RowsL H l es) : Handed K H (.ref l) es := by
  obtain ⟨as, h1, h2, h3⟩ := h
  exact .list (SqL.of h1) h2 h3
def rowD (e : Sh × Addr × Int) : PyData := .tuple [encS e.1, .int e.2.2]
theorem sh_dp {K : PySem.W.Frag} {H : Hp} {p : Addr} {x : Sh} (h : ShAt H p x) : Dp K H (.ref p) (encS x) := by
  obtain ⟨u, v, h1, h2, h3⟩ := h
  exact .tup (SqT.of h1) (.cons (dpair h2) (.cons (dpair h3) .nil))
theorem RowsL.dp {K : PySem.W.Frag} {H : Hp} {l : Addr} {es : DEs} (h : RowsL H l es) : Dp K H (.ref l) (.list (es.map rowD)) := by
  obtain ⟨as, h1, h2, h3⟩ := h
  refine .lst (SqL.of h1) ?_
  clear h1
  revert h3
  induction h2 with
  | nil => exact fun _ => .nil
  | @cons a e as es r t ih =>
    intro h3
    exact .cons (.tup (SqT.of r) (.cons (sh_dp (h3 e List.mem_cons_self)) (.cons (.int _) .nil))) (ih fun f hf => h3 f (List.mem_cons_of_mem _ hf))
theorem rowD_can (e : Sh × Addr × Int) : (rowD e).canLay0 = true ∧ (rowD e).depth = 3 := by
  unfold rowD encS
  constructor
  · simp [PyData.canLay0, PyData.canLayAll0]
  · simp [PyData.depth, PyData.depthAll]
theorem rows_shaped (es : DEs) : SeqAt.shaped (.list (es.map rowD)) = true := by
  have h : ∀ es : DEs, PyData.canLayAll0 (es.map rowD) = true ∧ PyData.depthAll (es.map rowD) ≤ 3 := by
    intro es
    induction es with
    | nil => exact ⟨by simp [PyData.canLayAll0], by simp [PyData.depthAll]⟩
    | cons e es ih =>
      obtain ⟨r1, r2⟩ := rowD_can e
      constructor
      · simp [PyData.canLayAll0, r1, ih.1]
      · simp [PyData.depthAll, r2, ih.2]
  obtain ⟨h1, h2⟩ := h es
  unfold SeqAt.shaped
  rw [Bool.and_eq_true]
  refine ⟨by simp [PyData.canLay0, h1], decide_eq_true ?_⟩
  simp only [PyData.depth]
  omega
theorem rows_nil (es : DEs) : PyData.eqv (.list (es.map rowD)) (.list []) = es.isEmpty := by
  cases es with
  | nil => simp [PyData.eqv, PyData.eqvAll]
  | cons e es => simp [PyData.eqv, PyData.eqvAll]
theorem RowsL.more {H : Hp} {l : Addr} {es fs : DEs} {bs : List Addr} {L : Addr} (R : RowsL H l es) (hb : RowsAt H bs fs) (hk : ∀ e ∈ fs, ShAt H e.2.1 e.1) (hL : H L = some (.lst (bs.map V.ref))) :
    ∃ xs, H l = some (.lst xs) ∧ xs.length = es.length ∧ ∀ q, H q = none → RowsL (upd H q (.lst (xs ++ bs.map V.ref))) q (es ++ fs) := by
  obtain ⟨as, h1, h2, h3⟩ := R
  refine ⟨_, h1, by rw [List.length_map]; exact h2.len, fun q hq => ⟨as ++ bs, by rw [upd_same, List.map_append], ?_, fun e he => ?_⟩⟩
  · have app : ∀ {as : List Addr} {es : DEs}, RowsAt H as es → RowsAt H (as ++ bs) (es ++ fs) := by
      intro as es h
      induction h with
      | nil => exact hb
      | cons r _ ih => exact Paired.cons r ih
    exact (app h2).mono fun a xs z => (same_new hq) _ _ z
  · refine ShAt.same (same_new hq) ?_
    rcases List.mem_append.mp he with he | he
    · exact h3 e he
    · exact hk e he
theorem RowsL.step {H G : Hp} {D t p : Addr} {fs : DEs} {i : Nat} {x : Sh} {n : Int} (hD : H D = none) (s : Same H G) (R : RowsL G D (fs.take i)) (hf : fs[i]? = some (x, p, n)) (ht : G t = none) (hp : ShAt G p x) :
    ∃ xs, (upd G t (.tup [.ref p, .int n])) D = some (.lst xs) ∧ xs.length ≤ i ∧ Same H (upd (upd G t (.tup [.ref p, .int n])) D (.lst (xs ++ [.ref t]))) ∧ RowsL (upd (upd G t (.tup [.ref p, .int n])) D (.lst (xs ++ [.ref t]))) D (fs.take (i + 1)) := by
  have e := same_new (o := .tup [.ref p, .int n]) ht
  obtain ⟨xs, g1, g2, g3⟩ := (R.same e).snoc (t := t) upd_same (hp.same e)
  refine ⟨xs, g1, by rw [g2, List.length_take]; omega, fun a o z => (upd_ne (ne_of_none z hD)).trans (e _ _ (s a o z)), ?_⟩
  rw [List.take_add_one, hf]
  exact g3
section
variable {base : Heap} {K : PySem.W.Frag} {mg : Str → Option Value} {P : Program} {w : World}
def spSomeRows : Sp := fun vs H Q _ => ∃ (b sb : Addr) (d m : Int), vs = [.ref b, .int d, .int m] ∧ Bag H b sb ∧ IsRoot d ∧ 0 ≤ m ∧ m ≤ 100 ∧
  ∀ l es H', H l = none → RowsL H' l es → Within (ShB d) (10 ^ 6) es → (es.length : Int) ≤ m → Bag H' b sb → Keep b H H' → Q (.ref l) H'
theorem ok_some_rows (T : Txt K mg) : FnOk P w K mg base CX0 6 T.f_some_rows T.d_some_rows ["_law_bag", "_law_root", "_law_most"] spSomeRows := by
  refine T.F_some_rows.ok sc_some_rows (fun vs H Q E h => ?_) (fun cdv A outer s H vs Q E hr h => ?_)
  · obtain ⟨b, sb, d, m, rfl, _⟩ := h
    rfl
  · obtain ⟨b, sb, d, m, rfl, B, hd, m0, m1, q⟩ := h
    refine ⟨_, (pss_cons (ps_set (i := 3) sc_some_rows.nd rfl (Or.inl rfl) (pe_lst pa_nil))
      (pss_cons (ps_for PassesOwn.never rfl (pi_range1 (by rfl) T.n_range (pa_cons (pe_call (ok_pull T) (hr.mono (by decide)) (by rfl) T.g_pull T.F_pull.kp T.b_pull .nil pass0 (pa_cons (pv 0) (pa_cons (pe_op op_add (pv 2) pe_int) pa_nil))) pa_nil)) (pg_name (i := 4) sc_some_rows.nd rfl (Or.inl rfl)) (pss_cons (ps_set (i := 5) sc_some_rows.nd rfl (Or.inl rfl) (pe_call (ok_a_sheet T) (hr.mono (by decide)) (by rfl) T.g_a_sheet T.F_a_sheet.kp T.b_a_sheet .nil pass0 (pa_cons (pv 0) (pa_cons (pv 1) pa_nil))))
      (pss_cons (ps_if (PW.pt (pw_and (pt_cmpR (op_neD hr.units) (pv 3) (pe_lst pa_nil) (nomark _)) (pw_and1 (pt_cmpR op_eq (pe_call (ok_pull T) (hr.mono (by decide)) (by rfl) T.g_pull T.F_pull.kp T.b_pull .nil pass0 (pa_cons (pv 0) (pa_cons pe_int pa_nil))) pe_int (nomark _))))) (pss_one (ps_set (i := 5) sc_some_rows.nd rfl (Or.inl rfl) (pe_ix ix_tup (pe_call (ok_of T) (hr.mono (by decide)) (by rfl) T.g_of T.F_of.kp T.b_of .nil pass0 (pa_cons (pv 0) (pa_cons (pv 3) pa_nil))) pe_int (fun _ _ => rfl)))) pss_nil)
      (pss_one (ps_expr (pe_bm PySem.F.plainAttrs_list PySem.F.slot_list_append PySem.F.type_list_append mt_append (pv 3) (pa_cons (pe_tup (pa_cons (pv 5) (pa_cons (pe_call (ok_some_count T) (hr.mono (by decide)) (by rfl) T.g_some_count T.F_some_count.kp T.b_some_count .nil pass0 (pa_cons (pv 0) pa_nil)) pa_nil))) pa_nil)))))))
      (pss_one (ps_ret (pv 3))))), ?_⟩
    refine ⟨Nat.zero_le _, fun l hl => ?_⟩
    have nl := B.ne hl
    have nl2 := B.ne2 hl
    have B0 := B.new (o := .lst []) hl
    refine ⟨.ref b, rfl, _, rfl, m, 1, rfl, rfl, b, sb, _, rfl, B0, by omega, Nat.lt_of_le_of_lt (show (m + 1).natAbs ≤ 101 by omega) (by decide), fun z H1 z0 z1 B1 k1 => ?_⟩
    have h1 : H1 l = some (.lst []) := k1 _ _ nl upd_same
    refine ⟨z, rfl, by omega, by omega, for_range (lo := 0) (n := z.toNat) (fun i σ H' => ∃ y4 y5 es, σ = [some (.ref b), some (.int d), some (.int m), some (.ref l), y4, y5] ∧ RowsL H' l es ∧ Within (ShB d) (10 ^ 6) es ∧ es.length = i ∧ Bag H' b sb ∧ Keep b H H')
      ⟨none, none, [], rfl, ⟨[], h1, .nil, fun e he => by cases he⟩, (fun e he => by cases he), rfl, B1, (keep_new hl).trans k1⟩ ?_ ?_⟩
    · rintro i σ H2 hi ⟨y4, y5, es, rfl, R2, W2, e2, B2, k2⟩
      refine ⟨.ref b, rfl, .int d, rfl, b, sb, d, rfl, B2, hd, fun x p H3 hx hp B3 k3 => ?_⟩
      have R3 := R2.keep B2 nl k3
      -- behind the test
      have rest : ∀ (p : Addr) (x : Sh) (H5 : Hp), ShB d x → ShAt H5 p x → RowsL H5 l es → Bag H5 b sb → Keep b H H5 → tBM K "list" rAppend (tVar 3) (tCons (tTup (tCons (tVar 5) (tCons (tCall spCount [] E0 (tCons (tVar 0) tNil)) tNil))) tNil) [some (.ref b), some (.int d), some (.int m), some (.ref l), some (.int (0 + (i : Int))), some (.ref p)] H5 fun _ H' => ∃ y4 y5 es, [some (V.ref b), some (.int d), some (.int m), some (.ref l), some (.int (0 + (i : Int))), some (.ref p)] = [some (.ref b), some (.int d), some (.int m), some (.ref l), y4, y5] ∧ RowsL H' l es ∧ Within (ShB d) (10 ^ 6) es ∧ es.length = i + 1 ∧ Bag H' b sb ∧ Keep b H H' := by
        intro p x H5 hx hp R5 B5 k5
        obtain ⟨as, hl5, _⟩ := id R5
        refine ⟨.ref l, rfl, .inl ⟨rfl, _, SqL.of hl5⟩, .ref p, rfl, .ref b, rfl, b, sb, rfl, B5, fun n H6 n0 n1 B6 k6 => ⟨by show 2 ≤ sizeLine; decide, fun t ht => ?_⟩⟩
        have k7 := k6.trans (keep_new (o := .tup [.ref p, .int n]) ht)
        have R7 := R5.keep B5 nl k7
        have p7 := hp.mono (tup_keep B5 k7)
        obtain ⟨xs, g1, g2, g3⟩ := R7.snoc (t := t) (p := p) (x := x) (n := n) upd_same p7
        refine ⟨l, xs, .ref t, rfl, rfl, g1, small1000 (by omega), _, _, _, rfl, g3, ?_, by rw [List.length_append, e2]; rfl, (B6.new ht).put nl nl2, ?_⟩
        · intro e he
          rcases List.mem_append.mp he with he | he
          · exact W2 e he
          · rw [List.mem_singleton.mp he]
            exact ⟨hx, n0, n1⟩
        · exact fun a o na z => (upd_ne (ne_of_none z hl)).trans ((k5.trans k7) a o na z)
      refine ⟨_, rfl, Nat.zero_le _, fun nn hnn => ?_⟩
      have s4 := same_new (o := .lst []) hnn
      refine ⟨_, .list [], (R3.same s4).dp, .lst (SqL.of upd_same) .nil, rows_shaped es, by decide +kernel, ?_⟩
      rw [rows_nil]
      have B4 := B3.same s4
      have k4 := k2.trans (k3.trans (keep_of s4))
      cases es with
      | nil => exact ⟨false, rfl, iteF (iteF (rest p x _ hx (hp.same s4) (R3.same s4) B4 k4))⟩
      | cons e es =>
        refine ⟨true, rfl, iteT ⟨_, rfl, b, sb, 4, rfl, B4, by decide, by decide, fun z5 H5 _ _ B5 k5 => ⟨rfl, _, rfl, ?_⟩⟩⟩
        have R5 := (R3.same s4).keep B4 nl k5
        obtain ⟨as, hl5, ra5, ks5⟩ := id R5
        refine ite2 (fun _ => ?_) (fun _ => rest p x H5 hx ((hp.same s4).mono (tup_keep B4 k5)) R5 B5 (k4.trans k5))
        refine ⟨.ref b, rfl, .ref l, rfl, b, sb, l, _, rfl, B5, hl5, nl, ?_, ?_, fun j v H6 hv B6 k6 => ?_⟩
        · rw [List.length_map, ra5.len]
          exact Nat.succ_pos _
        · rw [List.length_map, ra5.len, e2]
          omega
        · obtain ⟨a, f, rfl, hf, ha⟩ := ra5.row hv
          have mf := List.mem_of_getElem? hf
          refine ⟨a, _, 0, .ref f.2.1, rfl, rfl, SqT.of (tup_keep B5 k6 _ _ ha), atI_nat (j := 0) rfl, ?_⟩
          exact rest f.2.1 f.1 H6 (W2 f mf).1 ((ks5 f mf).mono (tup_keep B5 k6)) (R5.keep B5 nl k6) B6 (k4.trans (k5.trans k6))
    · rintro σ H2 ⟨y4, y5, es, rfl, R2, W2, e2, B2, k2⟩
      exact ⟨_, rfl, q l es H2 hl R2 W2 (by omega) B2 k2⟩
end
/-! ### stocks, listings -/
section
variable {base : Heap} {K : PySem.W.Frag} {mg : Str → Option Value} {P : Program} {w : World}
def spStock (K : PySem.W.Frag) (P : Program) (w : World) : Sp := fun vs H Q _ => ∃ (l : Addr) (es : DEs), vs = [.ref l] ∧ RowsL H l es ∧ es.length ≤ 1000 ∧ NewD P w H (mergeD es) Q
theorem ok_stock_of (T : Txt K mg) : FnOk P w K mg base CX0 1 T.f_stock_of T.d_stock_of ["_law_rows"] (spStock K P w) := by
  refine T.F_stock_of.ok sc_stock_of (fun vs H Q E h => ?_) (fun cdv A outer s H vs Q E hr h => ?_)
  · obtain ⟨l, es, rfl, _⟩ := h
    rfl
  · obtain ⟨l, es, rfl, ⟨as, hl, hr2, hk⟩, hn, q⟩ := h
    refine ⟨_, (pss_cons (ps_set (i := 1) sc_stock_of.nd rfl (Or.inl rfl) pe_dnewS)
      (pss_cons (ps_for PassesOwn.never rfl (pi_list (pv 0)) (pg_tup (by rfl) (pgs_cons (pg_name (i := 2) sc_stock_of.nd rfl (Or.inl rfl)) (pgs_cons (pg_name (i := 3) sc_stock_of.nd rfl (Or.inl rfl)) pgs_nil))) (pss_one (ps_sput hr.units (pv 1) (pv 2) (pe_op op_add (pe_sget2 hr.units (pv 1) (pv 2) pe_int ⟨rfl, rfl, rfl, rfl⟩) (pv 3)) rfl)))
      (pss_one (ps_ret (pv 1))))), ?_⟩
    intro c hc
    have D0 : DAt P w (upd H c (DS P w c [])) c [] := ⟨upd_same, fun x hx => by cases hx⟩
    refine ⟨_, rfl, l, rfl, ⟨_, SqL.of ((same_new hc) _ _ hl)⟩, for_list (K := K) (a := l) (xs := as.map V.ref) (fun i σ H' => ∃ y2 y3, σ = [some (.ref l), some (.ref c), y2, y3] ∧ Same H H' ∧ DAt P w H' c (mergeTo es i)) ⟨none, none, rfl, same_new hc, D0⟩ ?_ ?_ ?_⟩
    · rintro i σ H' _ ⟨_, _, _, s1, _⟩
      exact SqL.of (s1 _ _ hl)
    · rintro i x σ H' hx ⟨y2, y3, rfl, s1, D⟩
      obtain ⟨a, e, rfl, he, ha⟩ := hr2.row hx
      have hs := (hk e (List.mem_of_getElem? he)).same s1
      have hlt : i < es.length := (List.getElem?_eq_some_iff.mp he).1
      refine ⟨a, _, rfl, SqT.of (s1 _ _ ha), rfl, .ref e.2.1, _, rfl, .int e.2.2, _, rfl, rfl, ?_⟩
      refine ⟨.ref c, rfl, c, _, rfl, D.rd, .ref e.2.1, rfl, e.2.1, e.1, 0, _, rfl, rfl, D.rd, hs, .int e.2.2, rfl, _, _, rfl, rfl, .ref c, rfl, .ref e.2.1, rfl, c, e.2.1, _, e.1, _, rfl, rfl, rfl, D, hs, small_of (by have := mergeTo_len es i; omega), ?_⟩
      obtain ⟨s2, D2⟩ := step_put hc s1 D hs he
      exact ⟨_, _, rfl, s2, D2⟩
    · rintro σ H' ⟨y2, y3, rfl, s1, D⟩
      rw [List.length_map, hr2.len, mergeTo_all] at D
      exact ⟨_, rfl, q c H' hc s1 D⟩
def spListed (P : Program) (w : World) : Sp := fun vs H Q _ => ∃ (d : Addr) (es : DEs), vs = [.ref d] ∧ DAt P w H d es ∧ (keysD es).Nodup ∧ es.length ≤ 1000 ∧ ∀ l H', H l = none → Same H H' → RowsL H' l (sortE es) → Q (.ref l) H'
theorem ok_listed (T : Txt K mg) : FnOk P w K mg base CX0 1 T.f_listed T.d_listed ["_law_stock"] (spListed P w) := by
  refine T.F_listed.ok sc_listed (fun vs H Q E h => ?_) (fun cdv A outer s H vs Q E hr h => ?_)
  · obtain ⟨d, es, rfl, _⟩ := h
    rfl
  · obtain ⟨d, es, rfl, D, nd, hn, q⟩ := h
    refine ⟨_, (pss_one (ps_ret (pe_lc (own := [("_law_sheet", 1)]) (g := (gName 1)) (tt := tYes) (te := tTup (tCons (tVar 1) (tCons (tSGet P w (tVar 0) (tVar 1)) tNil))) (by rfl) sc_listed.nd (pi_list (pe_callB (cr_sortedLS hr.units) (by rfl) T.n_sorted (by decide +kernel) (pa_cons (pe_callTy (call_list_DS rfl) (by rfl) T.n_list (by decide +kernel) (pa_cons (pv 0) pa_nil)) pa_nil))) (blkOk_by (own := [("_law_sheet", 1)]) (N := ["_law_stock", "_law_sheet"]) (sc := defScope s_listed) (by decide +kernel)) (fun _ _ _ _ _ => (pg_name (i := 1) sc_listed.nd rfl (Or.inl rfl))) (fun _ _ _ _ _ => pts_nil) (fun _ _ _ _ _ => (pe_tup (pa_cons (pv 1) (pa_cons (pe_sget hr.units (pv 0) (pv 1) (fun _ _ => rfl)) pa_nil))))))), ?_⟩
    refine ⟨.ref d, rfl, d, es, rfl, D, fun l0 h0 => ?_⟩
    have e0 := same_new (o := .lst (es.map fun e => V.ref e.2.1)) h0
    refine ⟨l0, es.map fun e => (e.1, e.2.1), rfl, ?_, ?_, fun l1 h1 => ?_⟩
    · rw [upd_same, List.map_map]
      rfl
    · intro b hb
      obtain ⟨e, he, rfl⟩ := List.mem_map.mp hb
      exact (D.ks e he).same e0
    have e1 := same_new (o := .lst ((sortK es).map fun b => V.ref b.2)) h1
    have e01 := e0.trans e1
    refine ⟨l1, rfl, ⟨_, SqL.of upd_same⟩, fun D2 hD2 => ?_⟩
    have hlen : (sortE es).length ≤ 1000 := by
      rw [(sortE_perm nd).length_eq]
      exact hn
    refine lc_list (K := K) (a := l1) (xs := (sortK es).map fun b => V.ref b.2) (fun i G => Same (upd (upd H l0 (.lst (es.map fun e => V.ref e.2.1))) l1 (.lst ((sortK es).map fun b => V.ref b.2))) G ∧ RowsL G D2 ((sortE es).take i)) ⟨same_new hD2, [], upd_same, .nil, fun e he => by cases he⟩ (fun i G _ z => SqL.of (z.1 _ _ upd_same)) ?_ ?_
    · rintro i x G hx ⟨sG, RG⟩
      rw [List.getElem?_map] at hx
      cases hb : (sortK es)[i]? with
      | none =>
        rw [hb] at hx
        cases hx
      | some b =>
        rw [hb] at hx
        cases hx
        obtain ⟨n, hv, hat, hin⟩ := sortE_at nd hb
        have Dc := D.same (e01.trans sG)
        have hs := Dc.ks _ hin
        refine ⟨rfl, _, rfl, _, rfl, _, rfl, d, b.2, _, b.1, n, rfl, rfl, Dc.rd, hs, hv, by show 2 ≤ sizeLine; decide, fun t ht => ?_⟩
        obtain ⟨xs, g1, g2, g3, g4⟩ := RowsL.step hD2 sG RG hat ht hs
        have hi := (List.getElem?_eq_some_iff.mp hat).1
        exact ⟨xs, g1, small1000 (by omega), g3, g4⟩
    · rintro G ⟨sG, RG⟩
      have hl : ((sortK es).map fun b => V.ref b.2).length = (sortE es).length := by
        unfold sortE
        rw [List.length_map, List.length_map]
      rw [hl, List.take_length] at RG
      exact q D2 G (e01.free hD2) (e01.trans sG) RG
end
/-! ### rows that are in order already -/
theorem fold_new : ∀ (es acc : DEs), (keysD (acc ++ es)).Nodup → es.foldl addE acc = acc ++ es
  | [], acc, _ => by simp
  | e :: es, acc, h => by
    have h' : (keysD acc ++ e.1 :: keysD es).Nodup := by
      have : keysD (acc ++ e :: es) = keysD acc ++ e.1 :: keysD es := by
        unfold keysD
        rw [List.map_append, List.map_cons]
      rwa [this] at h
    have hn : valD acc e.1 = none := valD_none.mpr fun z => (List.nodup_append.mp h').2.2 _ z _ List.mem_cons_self rfl
    have e1 : addE acc e = acc ++ [e] := by
      unfold addE
      rw [putD_new hn, hn]
      show acc ++ [(e.1, e.2.1, 0 + e.2.2)] = _
      rw [Int.zero_add]
    rw [List.foldl_cons, e1, fold_new es (acc ++ [e]) (by rw [List.append_assoc]; exact h), List.append_assoc]
    rfl
theorem merge_id {es : DEs} (h : (keysD es).Nodup) : mergeD es = es := by
  have := fold_new es [] h
  simpa [mergeD] using this
theorem sort_id {es : DEs} (h : Asc es) : sortE es = es := by
  have k : sortK es = es.map fun e => (e.1, e.2.1) := by
    unfold sortK
    refine List.mergeSort_of_pairwise ?_
    rw [List.pairwise_map]
    refine h.up.imp fun {a b} l => ?_
    unfold leS
    rw [decide_eq_false fun z => ltS_asym l z]
    rfl
  unfold sortE
  rw [k, List.map_map, List.map_congr_left (g := id) fun e he => ?_, List.map_id]
  show (e.1, e.2.1, (valD es e.1).getD 0) = e
  rw [valD_mem h.nd he]
  rfl
theorem made_sorted {es : DEs} (nd : (keysD es).Nodup) (pos : ∀ e ∈ es, 1 ≤ e.2.2) : sortE (mergeD (sortE es)) = sortE es := by
  rw [merge_id (sortE_keys nd)]
  exact sort_id ⟨sortE_up nd, fun e he => pos e ((sortE_perm nd).mem_iff.mp he)⟩
/-! ### heaps of stocks, whether a heap is the one that is due -/
section
variable {base : Heap} {K : PySem.W.Frag} {mg : Str → Option Value} {P : Program} {w : World}
theorem Bag.ext {H : Hp} {b sb p : Addr} {φ : Heap → Prop} (B : Bag H b sb) (hp : H p = some (.ext φ)) : p ≠ b := by
  obtain ⟨ns, i, j, m, c, B⟩ := B
  exact ne_of hp B.hb (by intro z; cases z)
theorem Bag.ins {H : Hp} {b sb p C dx : Addr} {fs : List (Str × V)} (B : Bag H b sb) (hp : H p = some (.ins C dx fs)) : p ≠ b := by
  obtain ⟨ns, i, j, m, c, B⟩ := B
  exact ne_of hp B.hb (by intro z; cases z)
theorem DAt.keep {H H' : Hp} {b sb d : Addr} {es : DEs} (D : DAt P w H d es) (B : Bag H b sb) (k : Keep b H H') : DAt P w H' d es := ⟨k _ _ (B.ext D.hd) D.hd, fun x hx => (D.ks x hx).mono (tup_keep B k)⟩
theorem HeapAt.keep {C : Addr} {H H' : Hp} {b sb p : Addr} {d : Int} {es : DEs} (h : HeapAt P w C H p d es) (B : Bag H b sb) (k : Keep b H H') : HeapAt P w C H' p d es := by
  obtain ⟨dx, c, h1, h2⟩ := h
  exact ⟨dx, c, k _ _ (B.ins h1) h1, h2.keep B k⟩
end
section
variable {base : Heap} {K : PySem.W.Frag} {mg : Str → Option Value} {w : World}
theorem Within.rowB {d M : Int} {es : DEs} (h : Within (ShB d) M es) : ∀ e ∈ es, rowB d e = true := fun e he => by
  obtain ⟨h1, h2, _⟩ := h e he
  unfold Gy.rowB
  rw [decide_eq_true h2, h1.ok.b.1]
  rfl
theorem Within.es100 {d M : Int} {es : DEs} (h : Within (ShB d) M es) : Es100 es := fun e he => (h e he).1.ok.b.2
def spHeapOf (T : Txt K mg) (w : World) : Sp := fun vs H Q _ => ∃ (c : Addr) (d M : Int) (es : DEs), vs = [.int d, .ref c] ∧ IsRoot d ∧ DAt PySem.Challenge.pw_grainyard_k16_sums_of_heaps w H c es ∧ (keysD es).Nodup ∧ Within (ShB d) M es ∧ es.length ≤ 1000 ∧ ∀ p H', H p = none → Same H H' → HeapAt PySem.Challenge.pw_grainyard_k16_sums_of_heaps w T.C_Heap H' p d (sortE es) → Q (.ref p) H'
theorem ok_heap_of (T : Txt K mg) : FnOk PySem.Challenge.pw_grainyard_k16_sums_of_heaps w K mg base CX0 7 T.f_heap_of T.d_heap_of ["_law_root", "_law_stock"] (spHeapOf T w) := by
  refine T.F_heap_of.ok sc_heap_of (fun vs H Q E h => ?_) (fun cdv A outer s H vs Q E hr h => ?_)
  · obtain ⟨c, d, M, es, rfl, _⟩ := h
    rfl
  · obtain ⟨c, d, M, es, rfl, hd, D, nd, wi, hn, q⟩ := h
    refine ⟨_, (pss_one (ps_ret (pe_make T.M_Heap (ok_Heap_init T) (hr.mono (by decide)) (by rfl) T.g_Heap T.b_Heap_init .nil pass_never (pa_cons (pv 0) (pa_cons (pe_call (ok_listed T) (hr.mono (by decide)) (by rfl) T.g_listed T.F_listed.kp T.b_listed .nil pass0 (pa_cons (pv 1) pa_nil)) pa_nil))))), ?_⟩
    refine ⟨_, rfl, _, rfl, c, es, rfl, D, nd, hn, fun l H1 hl s1 R => ?_⟩
    have wi' := wi.perm (sortE_perm nd)
    refine mk_heap (T := T) (w := w) (isRB_of hd) R.handed wi'.es100 wi'.rowB (by rw [(sortE_perm nd).length_eq]; exact hn) fun x H2 hx s2 hA => ?_
    rw [made_sorted nd fun e he => (wi e he).2.1] at hA
    exact q x H2 (s1.free hx) (s1.trans s2) hA
end
def rowsE (es : DEs) : List (Sh × Int) := es.map fun e => (e.1, e.2.2)
/-! ### lambdas that are kept, each of them called out of a comprehension
A function object that is made is told of in the heap (ObjO), so that it can be kept in a list; Acts says what a call of it does, wherever
its maker's frame lies below; pe_lcK is a list comprehension whose item may use that frame. The courses follow my own parts lamd (the
making, the call) and ds4 (the block, the loop). -/
/-- what is known of the one object at a -/
def ObjO (a : Addr) (φ : Obj → Prop) : HO := .ext fun h => ∃ o, h.get? a = some o ∧ φ o
theorem objO_ok {P : Program} {w : World} {H : Hp} {h : Heap} {a : Addr} {o : Obj} {φ : Obj → Prop} (e : h.get? a = some o) (p : φ o) : ObjOk P w H h a (ObjO a φ) :=
  ⟨⟨o, e, p⟩, ⟨o, e⟩, fun _ _ ⟨o', e', p'⟩ k => ⟨o', k _ e', p'⟩⟩
theorem objO_tbl {a : Addr} {φ : Obj → Prop} (ps : Array Value) : ObjO a φ ≠ .tbl ps := fun z => by
  unfold ObjO at z
  cases z
section
variable {X : Cx} {pins : List (Addr × Obj)} {σ : L2.St} {H : Hp} {s : Shared}
/-- a function without defaults; one whose only default stands in the tuple at D; that tuple -/
def IsFn0 (q : Str) (params : Arguments) (body : Expr) (scope : Scope) (cl : List (Str × Addr)) (c' : Addr) : Obj → Prop := fun o => ∃ pm ctv, o = PySem.W.kla_obj "<lambda>" q params body scope cl pm c' ctv
def IsFnD (q : Str) (params : Arguments) (body : Expr) (scope : Scope) (cl : List (Str × Addr)) (c' D : Addr) : Obj → Prop := fun o => ∃ doc pm ctv, o = PySem.W.kdv_obj "<lambda>" q params (.expr body) scope cl (.ref D) doc pm c' ctv
/-- the lambda that X has made stands at f -/
def Kept0 (X : Cx) (params : Arguments) (body : Expr) (scope : Scope) (H : Hp) (f : Addr) : Prop := ∃ c', H f = some (ObjO f (IsFn0 (X.env.qual ++ "<lambda>") params body scope (cloFrom X.env.cells scope.names []) c')) ∧ H c' = some (LamX.CodeO c' (X.env.qual ++ "<lambda>"))
def KeptD (X : Cx) (params : Arguments) (body : Expr) (scope : Scope) (H : Hp) (f : Addr) : Prop := ∃ (c' D : Addr) (u : Value), H f = some (ObjO f (IsFnD (X.env.qual ++ "<lambda>") params body scope (cloFrom X.env.cells scope.names []) c' D)) ∧ H D = some (ObjO D fun o => o = PySem.W.kdv_tup [u]) ∧
  H c' = some (LamX.CodeO c' (X.env.qual ++ "<lambda>"))
theorem Kept0.ext {params : Arguments} {body : Expr} {scope : Scope} {H H' : Hp} {f : Addr} (h : Kept0 X params body scope H f) (e : LamX.ExtN H H') : Kept0 X params body scope H' f := by
  obtain ⟨c', h1, h2⟩ := h
  exact ⟨c', e _ _ h1 objO_tbl, e _ _ h2 LamX.codeO_ne⟩
theorem KeptD.ext {params : Arguments} {body : Expr} {scope : Scope} {H H' : Hp} {f : Addr} (h : KeptD X params body scope H f) (e : LamX.ExtN H H') : KeptD X params body scope H' f := by
  obtain ⟨c', D, u, h1, h2, h3⟩ := h
  exact ⟨c', D, u, e _ _ h1 objO_tbl, e _ _ h2 objO_tbl, e _ _ h3 LamX.codeO_ne⟩
/-- the table with a new row -/
theorem tabs_more {T : List (Addr × Str)} {H H' : Hp} {P c' : Addr} {q : Str} {ps : Array Value} {pos : Pos} (hu : ∀ p ∈ T, p.1 = P → p.2 = q) (hT : LamX.Tabs T H) (hP : H P = some (.tbl ps)) (ht : PySem.TriplesOk ps.toList)
    (ha : ∀ (pos : Pos) (cv : Value), codeAmong pos ps.toList = some cv → ∃ c, cv = .ref c ∧ H c = some (LamX.CodeO c q)) (e : LamX.ExtN H H') (eo : ∀ b ps', b ≠ P → H b = some (.tbl ps') → H' b = some (.tbl ps'))
    (eP : H' P = some (.tbl (ps ++ #[rawInt pos.line, rawInt pos.col, .ref c']))) (ec : H' c' = some (LamX.CodeO c' q)) : LamX.Tabs T H' := by
  intro p hp
  by_cases isP : p.1 = P
  · rw [hu p hp isP, isP]
    have lst : (ps ++ #[rawInt pos.line, rawInt pos.col, .ref c']).toList = ps.toList ++ [rawInt pos.line, rawInt pos.col, .ref c'] := by simp
    refine ⟨_, eP, lst ▸ PySem.TriplesOk_snoc _ _ _ _ ht, fun p' cv am => ?_⟩
    rcases LamX.among_app _ ht (lst ▸ am) with z | rfl
    · obtain ⟨c0, z1, z2⟩ := ha p' cv z
      exact ⟨c0, z1, e _ _ z2 LamX.codeO_ne⟩
    · exact ⟨c', rfl, ec⟩
  · obtain ⟨ps', a1, a2, a3⟩ := hT p hp
    refine ⟨ps', eo _ _ isP a1, a2, fun p' cv am => ?_⟩
    obtain ⟨c0, z1, z2⟩ := a3 p' cv am
    exact ⟨c0, z1, e _ _ z2 LamX.codeO_ne⟩
theorem extN_new {H H1 : Hp} {a : Addr} {o : HO} (e : LamX.ExtN H H1) (n : H1 a = none) : LamX.ExtN H (upd H1 a o) := fun b u h k => (upd_ne (ne_of_none (e b u h k) n)).trans (e b u h k)
theorem tabs_new {T : List (Addr × Str)} {H : Hp} {a : Addr} {o : HO} (t : LamX.Tabs T H) (n : H a = none) : LamX.Tabs T (upd H a o) := t.ext fun _ _ h => (upd_ne (ne_of_none h n)).trans h
/-- a lambda is made and kept -/
def tMk (T : List (Addr × Str)) (R : Hp → Addr → Prop) : TE := fun _ H Q => LamX.Tabs T H ∧ ∀ f H1, LamX.ExtN H H1 → LamX.Tabs T H1 → R H1 f → Q (.ref f) H1
theorem pe_mk0 {T : List (Addr × Str)} {c P : Addr} {params : Arguments} {body : Expr} {scope : Scope} {pos : Pos} (TB : LamX.TabB X.base X.mg c P) (hcode : X.env.code = .ref c)
    (hm : (P, X.env.qual ++ "<lambda>") ∈ T) (hu : ∀ p ∈ T, p.1 = P → p.2 = X.env.qual ++ "<lambda>") (hdef : defaultsOf params X.env = ([], [])) (L : LamX.LamS X.env.scope scope) :
    PE X (.Lambda params body scope pos) (tMk T (Kept0 X params body scope)) := by
  constructor
  rintro pins s σ H Q I ⟨hT, h⟩
  apply PySem.W.kla_eval hdef
  obtain ⟨ps, hP, ht, ha⟩ := hT _ hm
  have bP : s.heap.BuiltinsAt X.mg P := TB.bm.keeps I.bk
  have atP : s.heap.get? P = some { cls := .none, data := .fields ps } := I.hok P _ hP
  cases found : codeAmong pos ps.toList with
  | some cv =>
    obtain ⟨c', rfl, hco⟩ := ha pos cv found
    apply PySem.W.kla_makeFunctionHit (mg := X.mg) (c := c) (P := P) (ps := ps) (closure_ok (L.has I.ok)) I.ok.glob (I.mod.glob.keeps I.bk) hcode (TB.code.keeps I.bk) atP ht found bP
    intro ctv h' tk keep sz
    have J := I.laid (t' := tk) (h' := h'.push _) (fun b o e => Heap.get?_push_of_some _ (keep b o e)) sz (objO_ok (φ := IsFn0 (X.env.qual ++ "<lambda>") params body scope (cloFrom X.env.cells scope.names []) c') (Heap.get?_push_size _ rfl) ⟨(X.mg "__name__").getD .none, ctv, rfl⟩)
    have n := I.hok.fresh sz
    exact ⟨.ref h'.objs.size, _, J, rfl, h _ _ (extN_new (LamX.ExtN.refl H) n) (tabs_new hT n) ⟨c', upd_same, (upd_ne (ne_of_none hco n)).trans hco⟩⟩
  | none =>
    apply PySem.W.kla_makeFunction (mg := X.mg) (c := c) (P := P) (ps := ps) (closure_ok (L.has I.ok)) I.ok.glob (I.mod.glob.keeps I.bk) hcode (TB.code.keeps I.bk) atP ht found TB.gP bP
    rintro c' ctv h' tk hx ge lt ⟨c2, oc, vs, t, e2, hoc, hdat, hv⟩ htb
    cases e2
    have newC : H c' = none := I.hok.fresh ge
    have I1 := LamX.inv_table (t' := tk) (more := #[rawInt pos.line, rawInt pos.col, .ref c']) (h' := h') (q := X.env.qual ++ "<lambda>") I hP hx htb ge ⟨oc, vs, t, hoc, hdat, hv⟩
    have e1 : LamX.ExtN H (upd (upd H P (.tbl (ps ++ #[rawInt pos.line, rawInt pos.col, .ref c']))) c' (LamX.CodeO c' (X.env.qual ++ "<lambda>"))) := by
      intro b o e n
      have bP : b ≠ P := fun z => by rw [z, hP] at e; exact n _ (Option.some.inj e).symm
      rw [upd_ne (ne_of_none e newC), upd_ne bP]
      exact e
    have cP : P ≠ c' := fun z => by rw [z, newC] at hP; cases hP
    have T1 := tabs_more hu hT hP ht ha e1 (fun b ps' bP e => by rw [upd_ne (ne_of_none e newC), upd_ne bP]; exact e) (by rw [upd_ne cP, upd_same]) upd_same
    have hc1 : (upd (upd H P (.tbl (ps ++ #[rawInt pos.line, rawInt pos.col, .ref c']))) c' (LamX.CodeO c' (X.env.qual ++ "<lambda>"))) c' = some (LamX.CodeO c' (X.env.qual ++ "<lambda>")) := upd_same
    generalize upd (upd H P (.tbl (ps ++ #[rawInt pos.line, rawInt pos.col, .ref c']))) c' (LamX.CodeO c' (X.env.qual ++ "<lambda>")) = H1 at I1 e1 T1 hc1
    have n1 : H1 h'.objs.size = none := I1.hok.fresh (Nat.le_refl _)
    have J := I1.laid (t' := tk) (h' := h'.push _) (fun b o e => Heap.get?_push_of_some _ e) (Nat.le_refl _) (objO_ok (φ := IsFn0 (X.env.qual ++ "<lambda>") params body scope (cloFrom X.env.cells scope.names []) c') (Heap.get?_push_size _ rfl) ⟨(X.mg "__name__").getD .none, ctv, rfl⟩)
    exact ⟨.ref h'.objs.size, _, J, rfl, h _ _ (extN_new e1 n1) (tabs_new T1 n1) ⟨c', upd_same, (upd_ne (ne_of_none hc1 n1)).trans hc1⟩⟩
theorem pe_mkD {T : List (Addr × Str)} {c P : Addr} {params : Arguments} {body d : Expr} {v0 : V} {scope : Scope} {pos : Pos} {b : Str} (TB : LamX.TabB X.base X.mg c P) (hcode : X.env.code = .ref c)
    (hm : (P, X.env.qual ++ "<lambda>") ∈ T) (hu : ∀ p ∈ T, p.1 = P → p.2 = X.env.qual ++ "<lambda>") (hk0 : params.kw_defaults = []) (hd : params.defaults = [d]) (pd : PE X d (tC v0)) (L : LamD X.N X.env.scope scope b) :
    PE X (.Lambda params body scope pos) (tMk T (KeptD X params body scope)) := by
  constructor
  rintro pins s σ H Q I ⟨hT, h⟩
  refine PySem.W.kdv_lam (by rw [hd]; rfl) hk0 ?_
  rw [hd]
  refine PySem.W.kdv_all1 (thn (pd.run pins s σ H (fun _ H' => H' = H) I rfl) ?_)
  rintro u s1 ⟨v, H', I1, _, rfl⟩
  refine PySem.W.kdv_all0 ?_
  rw [makeFunction_eq]
  simp only [List.zip_nil_right, List.filterMap_nil, List.isEmpty_nil, if_true, pure_bind, List.isEmpty_cons, Bool.false_eq_true, if_false]
  refine wpAny_bind (wpAny_newTextTuple ?_)
  have nD : H' s1.heap.objs.size = none := I1.hok.fresh (Nat.le_refl _)
  have I2 := I1.laid (t' := s1.toks) (h' := s1.heap.push _) (fun b o e => Heap.get?_push_of_some _ e) (Nat.le_refl _) (objO_ok (φ := fun o => o = PySem.W.kdv_tup [u]) (Heap.get?_push_size _ rfl) rfl)
  have e2 := extN_new (o := ObjO s1.heap.objs.size fun o => o = PySem.W.kdv_tup [u]) (LamX.ExtN.refl H') nD
  have hT2 := tabs_new (o := ObjO s1.heap.objs.size fun o => o = PySem.W.kdv_tup [u]) hT nD
  have hD : (upd H' s1.heap.objs.size (ObjO s1.heap.objs.size fun o => o = PySem.W.kdv_tup [u])) s1.heap.objs.size = some (ObjO s1.heap.objs.size fun o => o = PySem.W.kdv_tup [u]) := upd_same
  generalize upd H' s1.heap.objs.size (ObjO s1.heap.objs.size fun o => o = PySem.W.kdv_tup [u]) = H2 at I2 e2 hT2 hD
  generalize s1.heap.objs.size = D at *
  generalize hs2 : ({ s1 with heap := s1.heap.push (PySem.W.kdv_tup [u]) } : Shared) = s2 at *
  obtain ⟨ps, hP, ht, ha⟩ := hT2 _ hm
  have bP : s2.heap.BuiltinsAt X.mg P := TB.bm.keeps I2.bk
  have atP : s2.heap.get? P = some { cls := .none, data := .fields ps } := I2.hok P _ hP
  cases found : codeAmong pos ps.toList with
  | some cv =>
    obtain ⟨c', rfl, hco⟩ := ha pos cv found
    refine PySem.W.kdv_makeTailHit (mg := X.mg) (c := c) (P := P) (ps := ps) (closure_ok (L.has I2.ok)) I2.ok.glob (I2.mod.glob.keeps I2.bk) hcode (TB.code.keeps I2.bk) atP ht found bP ?_
    intro ctv doc h' tk keep sz
    have J := I2.laid (t' := tk) (h' := h'.push _) (fun b o e => Heap.get?_push_of_some _ (keep b o e)) sz (objO_ok (φ := IsFnD (X.env.qual ++ "<lambda>") params body scope (cloFrom X.env.cells scope.names []) c' D) (Heap.get?_push_size _ rfl) ⟨doc, (X.mg "__name__").getD .none, ctv, rfl⟩)
    have n := I2.hok.fresh sz
    exact ⟨.ref h'.objs.size, _, J, rfl, h _ _ (extN_new e2 n) (tabs_new hT2 n) ⟨c', D, u, upd_same, (upd_ne (ne_of_none hD n)).trans hD, (upd_ne (ne_of_none hco n)).trans hco⟩⟩
  | none =>
    refine PySem.W.kdv_makeTail (mg := X.mg) (c := c) (P := P) (ps := ps) (closure_ok (L.has I2.ok)) I2.ok.glob (I2.mod.glob.keeps I2.bk) hcode (TB.code.keeps I2.bk) atP ht found TB.gP bP ?_
    rintro c' ctv doc h' tk hx ge lt ⟨c2, oc, vs, t, eq2, hoc, hdat, hv⟩ htb
    cases eq2
    have newC : H2 c' = none := I2.hok.fresh ge
    have I3 := LamX.inv_table (t' := tk) (more := #[rawInt pos.line, rawInt pos.col, .ref c']) (h' := h') (q := X.env.qual ++ "<lambda>") I2 hP hx htb ge ⟨oc, vs, t, hoc, hdat, hv⟩
    have e3 : LamX.ExtN H2 (upd (upd H2 P (.tbl (ps ++ #[rawInt pos.line, rawInt pos.col, .ref c']))) c' (LamX.CodeO c' (X.env.qual ++ "<lambda>"))) := by
      intro b o e n
      have bP : b ≠ P := fun z => by rw [z, hP] at e; exact n _ (Option.some.inj e).symm
      rw [upd_ne (ne_of_none e newC), upd_ne bP]
      exact e
    have cP : P ≠ c' := fun z => by rw [z, newC] at hP; cases hP
    have T3 := tabs_more hu hT2 hP ht ha e3 (fun b ps' bP e => by rw [upd_ne (ne_of_none e newC), upd_ne bP]; exact e) (by rw [upd_ne cP, upd_same]) upd_same
    have hc3 : (upd (upd H2 P (.tbl (ps ++ #[rawInt pos.line, rawInt pos.col, .ref c']))) c' (LamX.CodeO c' (X.env.qual ++ "<lambda>"))) c' = some (LamX.CodeO c' (X.env.qual ++ "<lambda>")) := upd_same
    have hD3 := e3 _ _ hD objO_tbl
    generalize upd (upd H2 P (.tbl (ps ++ #[rawInt pos.line, rawInt pos.col, .ref c']))) c' (LamX.CodeO c' (X.env.qual ++ "<lambda>")) = H3 at I3 e3 T3 hc3 hD3
    have n3 : H3 h'.objs.size = none := I3.hok.fresh (Nat.le_refl _)
    have J := I3.laid (t' := tk) (h' := h'.push _) (fun b o e => Heap.get?_push_of_some _ e) (Nat.le_refl _) (objO_ok (φ := IsFnD (X.env.qual ++ "<lambda>") params body scope (cloFrom X.env.cells scope.names []) c' D) (Heap.get?_push_size _ rfl) ⟨doc, (X.mg "__name__").getD .none, ctv, rfl⟩)
    exact ⟨.ref h'.objs.size, _, J, rfl, h _ _ (extN_new (e2.trans e3) n3) (tabs_new T3 n3) ⟨c', D, u, upd_same, (upd_ne (ne_of_none hD3 n3)).trans hD3, (upd_ne (ne_of_none hc3 n3)).trans hc3⟩⟩
end
/-! ### what a call of a kept lambda does -/
section
variable {X : Cx} {k : Nat} {params : Arguments} {body : Expr} {scope : Scope} {t : XK → TE}
/-- wherever X's frame lies below, a call of the lambda that R tells of is read as t -/
def Acts (X : Cx) (k : Nat) (R : Hp → Addr → Prop) (t : XK → TE) : Prop := (∀ H f, R H f → ∃ c' q, H c' = some (LamX.CodeO c' q)) ∧
  ∀ (CXg : CXT) (Eg : XK) (Ng : List Str) (qg : Str) (sg : Scope) (g : Addr) (cdg : Value) (A : Around) (stack : List Env) (sB : Shared) (HB : Hp) (pn : List (Addr × Obj)) (xe : Value → Shared → Prop) (W : WX) (E : XK) (σ : L2.St) (f : Addr) (i : Nat) (a : Str) (p1 p2 : Pos),
    (∀ pZ σZ HZ s1, Inv ((cxOf CXg X.prog X.w X.K X.mg X.base Ng qg sg g cdg A stack sB HB Eg).tr pn xe) pZ σZ HZ s1 → ∃ pins, Inv X pins σ HZ s1) →
    Takes ((cxOf CXg X.prog X.w X.K X.mg X.base Ng qg sg g cdg A stack sB HB Eg).tr pn xe) W → (∀ cls d σ' H', E cls d H' → W cls d σ' H') → Room (k + 1) (A.deeper (envOfC qg sg sB.heap.objs.size g cdg)) →
    Ng[i]? = some a → Vis sg a → (a == ("__debug__" : Str)) = false → (a == ("__classdict__" : Str)) = false →
    PE ((cxOf CXg X.prog X.w X.K X.mg X.base Ng qg sg g cdg A stack sB HB Eg).tr pn xe) (.Call (.Name a p1) [] [] p2) (fun σZ HZ Q => σZ[i]? = some (some (.ref f)) ∧ R HZ f ∧ t E σ HZ Q)
theorem acts0 (L : LamX.LamS X.env.scope scope) (hbind : ∀ (q : Str) (cl : List (Str × Addr)) (pm cv ctv : Value), bindArgs (PySem.W.kla_fn "<lambda>" q params body scope cl pm cv ctv) ⟨[], []⟩ = pure [])
    (hbody : ∀ (A : Around) (outer : List Env) (s : Shared) (H : Hp) (E : XK) (f c' : Addr), Room k (A.deeper (LamX.lamEnv X scope s.heap.objs.size f c')) → PE (LamX.lamCx X A outer s H E scope f c') body (t E)) : Acts X k (Kept0 X params body scope) t := by
  refine ⟨fun H f h => ?_, ?_⟩
  · obtain ⟨c', _, h⟩ := h
    exact ⟨c', _, h⟩
  intro CXg Eg Ng qg sg g cdg A stack sB HB pn xe W E σ f i a p1 p2 maker tk hW hr hN hv hd hcd
  constructor
  rintro pZ sZ σZ HZ Q IZ ⟨hs, ⟨c', hf, hc⟩, ht⟩
  apply wpAny_Call_Name_kw
  refine thn ((pe_var (pos := p1) (i := i) hN hv hd hcd).run pZ sZ σZ HZ (fun v H1 => v = .ref f ∧ H1 = HZ) IZ ⟨.ref f, hs, rfl, rfl⟩) ?_
  rintro u1 s1 ⟨v, H1, I1, r1, rfl, rfl⟩
  cases (show u1 = Value.ref f from r1)
  obtain ⟨pins, IX⟩ := maker _ _ _ _ I1
  obtain ⟨⟨of, at_f, pm, ctv, rfl⟩, _, _⟩ := I1.hok f _ hf
  obtain ⟨⟨oc, vs, tk', hoc, hdc, hvc⟩, _, _⟩ := I1.hok c' _ hc
  apply PySem.W.callWith_F0 ⟨_, _, _, _, at_f⟩
  have rc : codeAny (model X.prog X.w) (A.deeper (envOfC qg sg sB.heap.objs.size g cdg)) (.call (.ref f) ⟨[], []⟩) (CR (L2.CX X.prog X.w) (envOfC qg sg sB.heap.objs.size g cdg :: stack) X.prog X.w H1 s1 Q E) s1 := by
    apply PySem.W.kla_callFunE hr.depth at_f rfl L.co L.gen rfl ⟨c', oc, vs, tk', rfl, hoc, hdc, hvc⟩
    rw [hbind]
    apply wpAny_pure
    refine wpAny_newFunctionEnv (fun y hy => (L.own y hy).2) (fun y hy => nomatch hy) (fun h₁ hns hsb => ?_) L.kind
    refine ⟨I1.nolimit.fresh _ hsb, ?_⟩
    show codeAny _ _ (.expr body (LamX.lamEnv X scope s1.heap.objs.size f c')) _ _
    have kp : ∀ b o, s1.heap.get? b = some o → h₁.get? b = some o := fun b o e => hsb.extBut b o (Nat.ne_of_lt (Heap.lt_size e)) (Heap.get?_push_of_some _ e)
    have J := LamX.lam_start2 (E := E) (f := f) (c' := c') (tk := s1.toks + ([] : List (Str × Value)).length) IX L I1.env0 hr.hd Un.refl hns kp
    apply PySem.W.kla_codeExpr
    refine wpAny_mono ((hbody _ _ s1 H1 E f c' (hr.deeper _)).run [] _ _ H1 Q J ht) ?_ (fun _ _ z => z)
    rintro v' s' ⟨w', H', J', rv, q⟩
    exact ⟨w', H', J'.os, J'.bare, J'.base, J'.hok, rv, q⟩
  have hx : Passes (L2.CX X.prog X.w) ((cxOf CXg X.prog X.w X.K X.mg X.base Ng qg sg g cdg A stack sB HB Eg).tr pn xe) E := passes_call tk hW
  refine wpAny_call (codeAny_mono rc fun r s' hq => ?_)
  cases r with
  | error e => exact hx pZ σZ H1 s1 e s' I1 hq
  | ok fl => cases fl with
    | ret u => exact I1.after hq
    | next | brk | cont => exact False.elim hq
theorem actsD {b : Str} (L : LamD X.N X.env.scope scope b) (hbind : ∀ (q : Str) (cl : List (Str × Addr)) (D : Addr) (u doc pm cv ctv : Value), ∃ k, bindArgs (PySem.W.kdv_fn "<lambda>" q params (.expr body) scope cl (.ref D) doc pm cv ctv) ⟨[], []⟩ = seqItems? (.ref D) >>= k ∧ k (some #[u]) = pure [(b, u)])
    (hbody : ∀ (A : Around) (outer : List Env) (s : Shared) (H : Hp) (E : XK) (f c' : Addr), Room k (A.deeper (LamX.lamEnv X scope s.heap.objs.size f c')) → PE (LamX.lamCx X A outer s H E scope f c') body (t E)) : Acts X k (KeptD X params body scope) t := by
  refine ⟨fun H f h => ?_, ?_⟩
  · obtain ⟨c', _, _, _, _, h⟩ := h
    exact ⟨c', _, h⟩
  intro CXg Eg Ng qg sg g cdg A stack sB HB pn xe W E σ f i a p1 p2 maker tk hW hr hN hv hd hcd
  constructor
  rintro pZ sZ σZ HZ Q IZ ⟨hs, ⟨c', D, u, hf, hD, hc⟩, ht⟩
  apply wpAny_Call_Name_kw
  refine thn ((pe_var (pos := p1) (i := i) hN hv hd hcd).run pZ sZ σZ HZ (fun v H1 => v = .ref f ∧ H1 = HZ) IZ ⟨.ref f, hs, rfl, rfl⟩) ?_
  rintro u1 s1 ⟨v, H1, I1, r1, rfl, rfl⟩
  cases (show u1 = Value.ref f from r1)
  obtain ⟨pins, IX⟩ := maker _ _ _ _ I1
  obtain ⟨⟨of, at_f, doc, pm, ctv, rfl⟩, _, _⟩ := I1.hok f _ hf
  obtain ⟨⟨od, at_D, rfl⟩, _, _⟩ := I1.hok D _ hD
  obtain ⟨⟨oc, vs, tk', hoc, hdc, hvc⟩, _, _⟩ := I1.hok c' _ hc
  apply PySem.W.callWith_F0 ⟨_, _, _, _, at_f⟩
  obtain ⟨kb, b1, b2⟩ := hbind (X.env.qual ++ "<lambda>") (cloFrom X.env.cells scope.names []) D u doc pm (.ref c') ctv
  have bd : BindsTo s1 (PySem.W.kdv_fn "<lambda>" (X.env.qual ++ "<lambda>") params (.expr body) scope (cloFrom X.env.cells scope.names []) (.ref D) doc pm (.ref c') ctv) ⟨[], []⟩ [(b, u)] := BindsTo.of_defaults rfl at_D rfl b1 b2
  have rc : codeAny (model X.prog X.w) (A.deeper (envOfC qg sg sB.heap.objs.size g cdg)) (.call (.ref f) ⟨[], []⟩) (CR (L2.CX X.prog X.w) (envOfC qg sg sB.heap.objs.size g cdg :: stack) X.prog X.w H1 s1 Q E) s1 := by
    refine PySem.W.kla_callFunE hr.depth at_f rfl L.co L.gen rfl ⟨c', oc, vs, tk', rfl, hoc, hdc, hvc⟩ (bd _ _ _ _ ?_)
    refine wpAny_newFunctionEnv (fun y hy => (L.own y hy).2) (fun y hy => ?_) (fun h₁ hns hsb => ?_) L.kind
    · cases List.mem_singleton.mp hy
      exact L.par
    refine ⟨I1.nolimit.fresh _ hsb, ?_⟩
    show codeAny _ _ (.expr body (LamX.lamEnv X scope s1.heap.objs.size f c')) _ _
    have kp : ∀ b o, s1.heap.get? b = some o → h₁.get? b = some o := fun b o e => hsb.extBut b o (Nat.ne_of_lt (Heap.lt_size e)) (Heap.get?_push_of_some _ e)
    have J := lamd_start (E := E) (f := f) (c' := c') (tk := s1.toks + [(b, u)].length) IX L I1.env0 hr.hd Un.refl hns kp
    apply PySem.W.kla_codeExpr
    refine wpAny_mono ((hbody _ _ s1 H1 E f c' (hr.deeper _)).run [] _ _ H1 Q J ht) ?_ (fun _ _ z => z)
    rintro v' s' ⟨w', H', J', rv, q⟩
    exact ⟨w', H', J'.os, J'.bare, J'.base, J'.hok, rv, q⟩
  have hx : Passes (L2.CX X.prog X.w) ((cxOf CXg X.prog X.w X.K X.mg X.base Ng qg sg g cdg A stack sB HB Eg).tr pn xe) E := passes_call tk hW
  refine wpAny_call (codeAny_mono rc fun r s' hq => ?_)
  cases r with
  | error e => exact hx pZ σZ H1 s1 e s' I1 hq
  | ok fl => cases fl with
    | ret u => exact I1.after hq
    | next | brk | cont => exact False.elim hq
end
/-! ### a list comprehension whose item may use the frame around it -/
/-- what one turn is asked: the target, the item, then the list with it -/
def TurnK (g : TG) (te : TE) (vs : List Nat) (σ : L2.St) (D : Addr) (N : Hp → Prop) (x : V) (H : Hp) : Prop :=
  g x (wipe σ vs) H fun τ G => wipe τ vs = wipe σ vs ∧ te τ G fun y G1 => ∃ acc, G1 D = some (.lst acc) ∧ acc.length < sizeLine ∧ N (upd G1 D (.lst (acc ++ [y])))
def tLcK (wi : TI) (g : TG) (te : L2.St → TE) (vs : List Nat) : TE := fun σ H Q => wi σ H fun J G => ∀ D, G D = none → ∃ W : Nat → Nat → Hp → Prop, (∃ m, W 0 m (upd G D (.lst []))) ∧
  ∀ i m G1, W i m G1 → (J.stop i G1 ∧ Q (.ref D) G1) ∨ (J.go i G1 ∧ ∀ x G2, J.yld i G1 x G2 → TurnK g (te σ) vs σ D (fun G3 => ∃ m', m' < m ∧ W (i + 1) m' G3) x G2)
section
variable {X : Cx}
/-- the frame around a block, seen from within -/
def InnerOf (X : Cx) (σ : L2.St) (B : Cx) : Prop := ∀ pB τ G s', Inv B pB τ G s' → ∃ pins, Inv X pins σ G s'
theorem pe_lcK {elt tg iter : Expr} {scope : Scope} {own : List (Str × Nat)} {pos : Pos} {wi : TI} {g : TG} {te : L2.St → TE} (hc : X.calm = true) (hN : X.N.Nodup) (hi : PI X tg iter wi) (ok : BlkOk X.N X.env.scope scope own)
    (hg : ∀ (s : Shared) (G : Hp) (C : Addr) (cl : List (Str × Addr)) (fp : List Addr), PG (X.blk s G scope (compEnvC scope cl C X.env) fp) tg g)
    (he : ∀ (σ : L2.St) (s : Shared) (G : Hp) (C : Addr) (cl : List (Str × Addr)) (fp : List Addr), InnerOf X σ (X.blk s G scope (compEnvC scope cl C X.env) fp) → PE (X.blk s G scope (compEnvC scope cl C X.env) fp) elt (te σ))
    (hf : ∀ y, foldedSetIterable iter X.env y = pure y := by intro _; rfl) : PE X (.ListComp elt [⟨tg, iter, [], 0⟩] scope pos) (tLcK wi g te (own.map (·.2))) := by
  refine ⟨fun pins s σ H Q I h => ?_⟩
  rw [eval_ListComp]
  have cells : ∀ y ∈ scope.names, y.2 = .free → ∃ c, X.env.cells.lookup y.1 = some c := fun y hy e => (ok.free y hy e).elim (fun z => I.ok.has _ (.inl z)) fun z => I.ok.has _ (.inr z)
  refine wpAny_comprehension_free (use := none) rfl hf (closure_ok cells) ok.kind (fun y hy e => (ok.uniq y hy).trans (congrArg some e)) (thn (hi.run pins s σ H _ I h) fun _ s1 h1 => thn h1 fun _ s2 h2 => ?_)
  obtain ⟨it, fp, tn, J, G, rfl, I2, T, st, fpo, q⟩ := h2
  refine wpAny_newObj_type (newEnv_comp ?_) (by show 0 ≤ sizeLine; decide)
  obtain ⟨W, ⟨m0, w0⟩, turn⟩ := q s2.heap.objs.size (I2.hok.fresh (Nat.le_refl _))
  have I3 : Inv X pins σ (upd G s2.heap.objs.size (.lst [])) { s2 with heap := s2.heap.push { cls := .type "list", data := .seq ([] : List Value).toArray } } :=
    I2.laid (t' := s2.toks) (fun _ _ e => Heap.get?_push_of_some _ e) (Nat.le_refl _) ⟨Nat.zero_le _, [], 0, .nil, Heap.get?_push_size _ rfl⟩
  have low : ∀ b ∈ fp, b < s2.heap.objs.size := fun b hb => let ⟨_, e, _⟩ := T.obj _ _ st b hb; Heap.lt_size e
  have st3 : tn 0 (s2.heap.push { cls := .type "list", data := .seq ([] : List Value).toArray }) := T.keep _ _ _ st fun _ _ _ e => Heap.get?_push_of_some _ e
  generalize hD : s2.heap.objs.size = D at I3 w0 turn low ⊢
  have fp3 : ∀ b ∈ fp, FpOk X pins (upd G D (.lst [])) b := fun b hb => ⟨(upd_ne (Nat.ne_of_lt (low b hb))).trans (fpo b hb).1, (fpo b hb).2⟩
  generalize upd G D (.lst []) = G3 at I3 w0 fp3
  have big : D < (s2.heap.push { cls := .type "list", data := .seq ([] : List Value).toArray }).objs.size := by
    rw [Heap.size_push, hD]
    exact Nat.lt_succ_self _
  generalize hs3 : ({ s2 with heap := s2.heap.push { cls := .type "list", data := .seq ([] : List Value).toArray } } : Shared) = s3 at I3 ⊢
  have st3 : tn 0 s3.heap := by rw [← hs3]; exact st3
  have big : D < s3.heap.objs.size := by rw [← hs3]; exact big
  have I4 := block_start I3 ok hN fun b hb => ⟨fp3 b hb, Nat.lt_trans (low b hb) big⟩
  have inner : ∀ {ce : Env}, InnerOf X σ (X.blk s3 G3 scope ce fp) := fun {ce} pB τ G' s' IB => ⟨pins, I3.call' (ch := fp) IB.os IB.base IB.hok IB.bare fun b hb => by
    obtain ⟨_, f1, _, f3, f4, f5⟩ := fp3 b hb
    exact ⟨f3, f1, f4, f5⟩⟩
  have pg := hg s3 G3 s3.heap.objs.size (cellsFrom (s3.heap.objs.size + 1) scope.names (cloFrom X.env.cells scope.names [])) fp
  have pe := he σ s3 G3 s3.heap.objs.size (cellsFrom (s3.heap.objs.size + 1) scope.names (cloFrom X.env.cells scope.names [])) fp inner
  have st4 : tn 0 (pushCells (s3.heap.push { cls := .type "dict", data := .dict #[] }) scope.names) := T.keep _ _ _ st3 fun _ _ _ e => pushCells_keeps _ _ _ _ (Heap.get?_push_of_some _ e)
  have locs : (compEnvC scope (cellsFrom (s3.heap.objs.size + 1) scope.names (cloFrom X.env.cells scope.names [])) s3.heap.objs.size X.env).locals = s3.heap.objs.size := rfl
  show codeAny (model X.prog X.w) X.A (.compStart _ 0 (.ref it) (.ref D) (compEnvC scope (cellsFrom (s3.heap.objs.size + 1) scope.names (cloFrom X.env.cells scope.names [])) s3.heap.objs.size X.env)) (compPost (model X.prog X.w) X.A X.xe none (EP X pins σ Q) (.ref D) s3.heap.objs.size) _
  generalize compEnvC scope (cellsFrom (s3.heap.objs.size + 1) scope.names (cloFrom X.env.cells scope.names [])) s3.heap.objs.size X.env = ce at I4 pg pe locs ⊢
  have goes : codeAny (model X.prog X.w) X.A (.compLoop (.ListComp elt [⟨tg, iter, [], 0⟩] scope pos) 0 (.ref it) (.ref D) ce) (compPost (model X.prog X.w) X.A X.xe none (EP X pins σ Q) (.ref D) s3.heap.objs.size) { s3 with heap := pushCells (s3.heap.push { cls := .type "dict", data := .dict #[] }) scope.names } := by
    refine compLoop_any (fun n s' => ∃ i, Next (X.blk s3 G3 scope ce fp) fp tn (wipe σ (own.map (·.2))) i (W i n) s') ?_ m0 ⟨0, G3, I4, st4, fun b hb => (fp3 b hb).1, w0⟩
    rintro n s5 ⟨i, G5, I5, st5, nf5, w5⟩
    rcases turn i n G5 w5 with ⟨stop, fin⟩ | ⟨go, step⟩
    · refine thnF (T.done (X.blk s3 G3 scope ce fp) rfl rfl rfl hc i [] s5 _ G5 (fun _ _ => False) I5 (blk_idle I5 nf5) st5 stop) fun r s6 ⟨hr, I6⟩ => ?_
      subst hr
      have back : Inv X pins σ G5 s6 := I3.call' (ch := fp) I6.os I6.base I6.hok I6.bare fun b hb => by
        obtain ⟨_, f1, _, f3, f4, f5⟩ := fp3 b hb
        exact ⟨f3, f1, f4, f5⟩
      have free : G5 s3.heap.objs.size = none := by
        rw [← locs]
        exact I6.free
      obtain ⟨mm, ns, _⟩ := I6.loc
      have ns : s6.heap.Ns s3.heap.objs.size mm := by
        rw [← locs]
        exact ns
      obtain ⟨f0, f1, _, f3, f4, f5⟩ := I3.fpOk (H' := G5) (Nat.le_refl _) free
      exact ⟨mm, ns, fun h' sb => ⟨.ref D, G5, back.turned (t' := s6.toks) (fun b o hb e => (sb.2 b hb).trans e) f0 f1 f3 f4 f5, rfl, fin⟩⟩
    · have idle : ∀ {τ : L2.St} {G : Hp} {s : Shared}, Inv (X.blk s3 G3 scope ce fp) [] τ G s → (∀ b ∈ fp, G b = none) → ∀ b ∈ fp, FpOk (X.blk s3 G3 scope ce fp) [] G b := blk_idle
      refine thnF (T.item (X.blk s3 G3 scope ce fp) rfl rfl rfl hc i [] s5 _ G5 (fun _ _ => False) I5 (idle I5 nf5) st5 go) fun r s6 zz => ?_
      obtain ⟨u, hr, h6⟩ := zz
      subst hr
      refine thnF h6 fun _ s7 zz => ?_
      obtain ⟨x, G7, I7, ru, yl, st7, nf7⟩ := zz
      have I7p := I7.pinned (idle I7 nf7) (T.obj _ _ st7)
      refine thnF (pg.run _ s7 _ G7 x u _ I7p ru (step x G7 yl)) fun _ s8 zz => ?_
      obtain ⟨τ, G8, I8, hw, q8⟩ := zz
      refine wpAny_pure ?_
      rw [if_pos rfl]
      refine thnF (pe.run _ s8 τ G8 _ I8 q8) fun z s9 zz => ?_
      obtain ⟨y, G9, I9, ry, acc, hA, hl, m', hm, w'⟩ := zz
      refine app_ok (X := X.blk s3 G3 scope ce fp) I9 hA hl ry fun s10 I10 => ⟨m', hm, i + 1, ?_⟩
      exact turn_ends T st7 I10 hw w'
  exact codeAny_compStart_list goes (T.self X.A 0 _ _ _ st4 goes)
end
/-! ### asking a kept lambda -/
section
variable {X : Cx} {k j : Nat} {an : Str} {p p2 pos : Pos}
/-- what the asking def makes of a kept lambda at the j-th name -/
def tAskK (X : Cx) (k j : Nat) (TT : (XK → Hp → VK → Prop) → Hp → VK → Prop) (σ : L2.St) : TE := fun τ H Q => ∃ (f : Addr) (R : Hp → Addr → Prop) (t : XK → TE), Acts X k R t ∧ τ[j]? = some (some (.ref f)) ∧ R H f ∧ TT (fun E H' Q' => R H' f ∧ t E σ H' Q') H Q
theorem pe_askK {x a : Str} {g : Addr} {pg : Arguments} {bg : List Stmt} {sg : Scope} {dV kV doc pm cdv ct oc : Value} {ann od : Option Addr} {osl : Array (Option Value)} {Ng : List Str} {TT : (XK → Hp → VK → Prop) → Hp → VK → Prop} {σ : L2.St} {B : Cx}
    (eqs : B.prog = X.prog ∧ B.w = X.w ∧ B.K = X.K ∧ B.mg = X.mg ∧ B.base = X.base) (inn : InnerOf X σ B) (hg : Gl B x) (hm : B.mg x = some (.ref g)) (hk : PySem.W.keepIn B.K (.ref g) = true)
    (lk : B.K.lookup g = some ⟨oc, od, .func (PySem.W.fnOf x x pg bg sg dV kV doc pm ann cdv ct), osl⟩) (hcg : PySem.W.codeIn B.K cdv x = true) (hb : L2.Binds B.K (PySem.W.fnOf x x pg bg sg dV kV doc pm ann cdv ct) [a] []) (Sg : FnScope Ng [a] sg) (hNg : Ng[0]? = some a) (hva : Vis sg a)
    (hG : ∀ q, LamX.GivesTo B Ng x sg g cdv bg a q TT) (hr : Room (k + 2) B.A) (pa : PE B (.Name an p2) (tVar j))
    (hdb : (x == ("__debug__" : Str)) = false := by decide) (hd : (a == ("__debug__" : Str)) = false := by decide) (hcd : (a == ("__classdict__" : Str)) = false := by decide) :
    PE B (.Call (.Name x p) [.Name an p2] [] pos) (tAskK X k j TT σ) := by
  obtain ⟨e1, e2, e3, e4, e5⟩ := eqs
  constructor
  rintro pins s τ H Q I ⟨f, R, t, act, hj, hR, h⟩
  obtain ⟨c', q, hco⟩ := act.1 H f hR
  apply wpAny_Call_Name_kw
  refine ld_glob I hg hm ?_ hdb
  refine PySem.W.callWith_K (h₀ := B.base) I.ok.mod.kin hk ?_ (by rfl) (by rfl)
  show wpAny _ _ (spliced ((false, eval (.Name an p2) B.env) :: backTo pos (starEach [] B.env))) _ _ s
  apply Calls.spliced_cons
  refine thn (pa.run pins s τ H (fun v H1 => v = .ref f ∧ H1 = H) I ⟨.ref f, hj, rfl, rfl⟩) ?_
  rintro u s1 ⟨v, H1, I1, r1, rfl, rfl⟩
  cases (show u = Value.ref f from r1)
  refine Calls.spliced_nil ⟨I1.kIn, ?_⟩
  have rc : codeAny (model B.prog B.w) B.A (.call (.ref g) ⟨[.ref f], []⟩) (CR C8.CX0 B.stack B.prog B.w H1 s1 Q C8.E0) s1 := by
    refine LamX.run_ofS (N := Ng) (ps := [a]) (us := [.ref f]) (vs := [.ref f]) lk hcg Sg hr I1.env0 (hb s1 [.ref f] I1.kIn rfl) (.cons rfl .nil) rfl fun hr' => ?_
    refine (hG q f c' s1 H1 Q (fun E HZ Q' => R HZ f ∧ t E σ HZ Q') ?_ hco h).imp fun t' z => ⟨z.1.nox, z.2⟩
    intro W pn xe E p1 p2 tk hW
    have maker : ∀ pZ σZ HZ s2, Inv ((cxOf C8.CX0 B.prog B.w B.K B.mg B.base Ng x sg g cdv B.A B.stack s1 H1 C8.E0).tr pn xe) pZ σZ HZ s2 → ∃ pins, Inv X pins σ HZ s2 := fun pZ σZ HZ s2 IZ =>
      inn _ _ _ _ (I1.call' (ch := []) IZ.os IZ.base IZ.hok IZ.bare fun b hb => nomatch hb)
    have act2 := act.2 C8.CX0 C8.E0 Ng x sg g cdv B.A B.stack s1 H1 pn xe W E σ f 0 a p1 p2
    rw [← e1, ← e2, ← e3, ← e4, ← e5] at act2
    have z := act2 maker tk hW hr' hNg hva hd hcd
    exact ⟨fun pZ sZ σZ HZ Q' IZ hz => z.run pZ sZ σZ HZ Q' IZ ⟨hz.1, hz.2.2.1, hz.2.2.2⟩⟩
  refine wpAny_call (codeAny_mono rc fun r s2 hq => ?_)
  cases r with
  | error e => exact (show False from hq).elim
  | ok fl => cases fl with
    | ret u => exact I1.after hq
    | next | brk | cont => exact False.elim hq
end
section
variable {X : Cx} {k j : Nat} {an : Str} {p p2 pos : Pos} {s : Shared} {G : Hp} {scope : Scope} {ce : Env} {fp : List Addr} {σ : L2.St}
/-- _law_try(a), out of a block -/
theorem pe_tryK (T : Txt X.K X.mg) (inn : InnerOf X σ (X.blk s G scope ce fp)) (hg : Gl (X.blk s G scope ce fp) "_law_try") (hr : Room (k + 3) X.A) (pa : PE (X.blk s G scope ce fp) (.Name an p2) (tVar j)) :
    PE (X.blk s G scope ce fp) (.Call (.Name "_law_try" p) [.Name an p2] [] pos) (tAskK X (k + 1) j (TTry X.K T.r_GrainError T.r_GrainMissing T.e_NothingLeft.C) σ) := by
  obtain ⟨oc2, od2, kV2, doc2, pm2, an2, cdv2, ct2, osl2, eT, lkT, cdT⟩ := T.F_try.ex
  have bT := T.b_try
  rw [eT] at bT lkT
  exact pe_askK (B := X.blk s G scope ce fp) ⟨rfl, rfl, rfl, rfl, rfl⟩ inn hg T.g_try T.F_try.kp lkT cdT bT sc_try rfl (Or.inl rfl) (fun q => try_gives T rfl rfl (k := k) hr) hr pa
end
/-! ### raise of an own error of any base with one argument, a name
As my pmkE0 (raise0), with the argument in the error's tuple. -/
section
variable {X : Cx} {pins : List (Addr × Obj)} {σ : L2.St} {H : Hp} {s : Shared} {C : Addr}
def bare1 (C : Addr) (u : Value) (h : Heap) : Heap := (h.push (PySem.W.kdv_tup [u])).push (PySem.HandSPX.excO C h.objs.size)
theorem bare1_keeps {u : Value} {h : Heap} : ∀ b o, h.get? b = some o → (bare1 C u h).get? b = some o := fun _ _ z => Heap.get?_push_of_some _ (Heap.get?_push_of_some _ z)
theorem bare1_at {u : Value} {h : Heap} : (bare1 C u h).get? (h.objs.size + 1) = some (PySem.HandSPX.excO C h.objs.size) := by
  have z := Heap.get?_push_size (h.push (PySem.W.kdv_tup [u])) (o := PySem.HandSPX.excO C h.objs.size) rfl
  rwa [Heap.size_push] at z
theorem bare1_inv {u : Value} (I : Inv X pins σ H s) : Inv X pins σ (upd H (s.heap.objs.size + 1) (exo (s.heap.objs.size + 1) C none)) { s with heap := bare1 C u s.heap } :=
  I.laid (t' := s.toks) bare1_keeps (Nat.le_succ _) (exo_ok bare1_at)
/-- the argument, then what is told of the raise -/
def ToldE1 (C : Addr) (fF : List V → List (Str × V)) (te : TE) : L2.St → Hp → XK → Prop := fun σ H Q => te σ H fun v H1 => ∀ d G, H1 d = none → Same H1 G → G d = some (.xd (fF [v])) → Q (.ref C) (some d) G
theorem pmkE1 {B newId initId : String} {bmB : List Value} {CX : CXT} {x n : Str} {fI : Addr} {k : Nat} {fd : FuncData} {ps : List Str} {fF : List V → List (Str × V)} {np p pos : Pos} {te : TE} (E : ErB B newId initId bmB) (T : ErC X.K C newId bmB)
    (iC : PySem.W.findIn X.K (.ref C) "__init__" = some (some (.ref fI))) (tI : PySem.W.typeIn X.K (.ref fI) = some (.type "function")) (ini : FnOk X.prog X.w X.K X.mg X.base CX k fI fd ps (spIni C 1 fF)) (room : Room (k + 1) X.A)
    (binds : Binds X.K fd ps []) (none : Vals [] []) (never : Passes CX X (fun _ _ _ => False)) (gl : Gl X x) (named : X.mg x = some (.ref C)) (arg : PE X (.Name n np) te) (plain : (x == ("__debug__" : Str)) = false := by decide) : PMk X (.Call (.Name x p) [.Name n np] [] pos) (ToldE1 C fF te) := by
  intro pins s σ H Q I q
  apply wpAny_Call_Name_kw
  refine ld_glob I gl named ?_ plain
  refine PySem.W.callWith_K (h₀ := X.base) I.ok.mod.kin T.kp ?_ (by rfl) (by rfl)
  show wpAny _ _ (spliced ((false, eval (.Name n np) X.env) :: backTo pos (starEach [] X.env))) _ _ s
  apply Calls.spliced_cons
  refine thn (arg.run pins s σ H _ I q) ?_
  rintro u s1 ⟨v, H1, I1, r1, q1⟩
  refine Calls.spliced_nil ⟨I1.kIn, wpAny_call ?_⟩
  have J := bare1_inv (C := C) (u := u) I1
  have na : H1 (s1.heap.objs.size + 1) = .none := I1.hok.fresh (Nat.le_succ _)
  have asked : spIni C 1 fF [.ref (s1.heap.objs.size + 1), v] (upd H1 (s1.heap.objs.size + 1) (exo (s1.heap.objs.size + 1) C .none)) (fun w G => w = .non ∧ ∃ d, Made (upd H1 (s1.heap.objs.size + 1) (exo (s1.heap.objs.size + 1) C .none)) G (s1.heap.objs.size + 1) C d (fF [v])) (fun _ _ _ => False) :=
    ⟨_, [v], rfl, rfl, upd_same, fun d G m => ⟨rfl, d, m⟩⟩
  have two : Vals [V.ref (s1.heap.objs.size + 1), v] [Value.ref (s1.heap.objs.size + 1), u] := .cons rfl (.cons r1 .nil)
  have count : ([Value.ref (s1.heap.objs.size + 1), u] ++ []).length = ps.length := ini.len _ _ _ _ asked
  have ran := ini.run _ X.stack _ _ ⟨[.ref (s1.heap.objs.size + 1), u], []⟩ _ _ _ _ (room.make C [u] []) (J.env0.make C [u] []) (binds _ [.ref (s1.heap.objs.size + 1), u] J.kIn count) two asked
  obtain ⟨_, _, _, _, bm, _, _, _, _, _, _, _, _, _, _, hC, hbm⟩ := T.cls
  refine PySem.HandSPX.call_own (rest := [u]) E.fb (fun Y => PySem.W.excTail_contains Y bm hbm) (I1.kIn _ _ hC) (PySem.W.looks_findIn I1.kIn iC) (fun self => PySem.W.bind_fn I1.kIn self tI) (by show 1 ≤ sizeLine; decide) (codeAny_mono ran ?_)
  intro r s' back
  cases r with
  | error er => exact never pins σ _ _ er s' J back
  | ok f =>
    cases f with
    | ret u' =>
      obtain ⟨w', G, os', bare', un, hok, rv, rfl, d, m⟩ := back
      have free : H1 d = .none := (upd_ne m.2.1).symm.trans m.1
      have told : Q (.ref C) (some d) (upd (del G (s1.heap.objs.size + 1)) d (.xd (fF [v]))) := by
        refine q1 d _ free (fun b o z => ?_) upd_same
        have nb := ne_of_none z na
        rw [upd_ne (ne_of_none z free), del_ne nb]
        exact m.2.2.2.2 b o nb ((upd_ne nb).trans z)
      exact ⟨rv, mk_end (raises_own T.ex T.ty) I1 (Nat.le_succ _) bare1_keeps un hok os' bare' m.2.2.1 m.2.2.2.1 free told⟩
    | _ => exact back.elim
end
/-! ### sums, differences and multiples of heaps, with what is wrong told -/
theorem dVx {x y : Int} : decide (V.int x = V.int y) = decide (x = y) := by
  by_cases h : x = y
  · rw [h, decide_eq_true rfl, decide_eq_true rfl]
  · rw [decide_eq_false h, decide_eq_false fun z => h (V.int.inj z)]
def otherRoot : List (Str × V) := [("word", .str "OtherRoot")]
def badCount (n : V) : List (Str × V) := [("number", n), ("word", .str "BadCount")]
def noSheet (p : Addr) : List (Str × V) := [("sheet", .ref p), ("word", .str "NoSheet")]
/-- entries that a heap may have, with at most N sheets of at most M -/
structure GoodB (d : Int) (N : Nat) (M : Int) (es : DEs) : Prop where
  asc : Asc es
  wi : Within (ShB d) M es
  len : es.length ≤ N
theorem made_in {es : DEs} {e : Sh × Addr × Int} (he : e ∈ sortE (mergeD es)) : e.2.2 = wsum (ind e.1) es := by
  rw [← made_wsum, cnt_wsum (sortE_keys (merge_nodup es))]
  unfold cnt
  rw [valD_mem (sortE_keys (merge_nodup es)) he]
  rfl
theorem goodB_made {d : Int} {es : DEs} {N : Nat} {M : Int} (h : Within (ShB d) M es) (hM : 0 ≤ M) (hn : es.length ≤ N) {M' : Int} (hb : ∀ x, wsum (ind x) es ≤ M') : GoodB d N M' (sortE (mergeD es)) := by
  have p := sortE_perm (merge_nodup es)
  refine ⟨asc_made hM h, fun e he => ?_, by rw [p.length_eq]; exact Nat.le_trans (merge_len es) hn⟩
  have z := merge_within hM h e (p.mem_iff.mp he)
  exact ⟨z.1, z.2.1, by rw [made_in he]; exact hb _⟩
theorem cnt_le {S : Sh → Prop} {M : Int} {es : DEs} (h : Within S M es) (hM : 0 ≤ M) (x : Sh) : cnt es x ≤ M := by
  unfold cnt
  cases z : valD es x with
  | none => exact hM
  | some n =>
    obtain ⟨e, he, _, rfl⟩ := valD_some z
    exact (h e he).2.2
theorem cnt_nn {S : Sh → Prop} {M : Int} {es : DEs} (h : Within S M es) (x : Sh) : 0 ≤ cnt es x := by
  unfold cnt
  cases z : valD es x with
  | none => exact Int.le_refl _
  | some n =>
    obtain ⟨e, he, _, rfl⟩ := valD_some z
    have := (h e he).2.1
    show 0 ≤ e.2.2
    omega
theorem pick {φ : Sh → Int} {x : Sh} : ∀ {es : DEs}, (keysD es).Nodup → x ∈ keysD es → (es.map fun e => ind x e.1 * φ e.1).sum = φ x
  | [], _, h => by cases h
  | e :: es, n, h => by
    obtain ⟨n1, n2⟩ := List.nodup_cons.mp n
    rw [List.map_cons, List.sum_cons]
    have far : ∀ {es : DEs}, x ∉ keysD es → (es.map fun e => ind x e.1 * φ e.1).sum = 0 := by
      intro es
      induction es with
      | nil => exact fun _ => rfl
      | cons f fs ih =>
        intro h
        have h1 : f.1 ≠ x := fun z => h (z ▸ List.mem_cons_self)
        rw [List.map_cons, List.sum_cons, ih fun z => h (List.mem_cons_of_mem _ z)]
        unfold ind
        rw [if_neg h1]
        omega
    by_cases z : e.1 = x
    · subst z
      rw [far n1]
      unfold ind
      rw [if_pos rfl]
      omega
    · rw [pick n2 ((List.mem_cons.mp h).resolve_left fun q => z q.symm)]
      unfold ind
      rw [if_neg z]
      omega
def wk (φ : Sh → Int) (es fs : DEs) : Int := (es.map fun e => cnt fs e.1 * φ e.1).sum
theorem cnt_cons {f : Sh × Addr × Int} {fs : DEs} (n : f.1 ∉ keysD fs) (x : Sh) : cnt (f :: fs) x = ind f.1 x * f.2.2 + cnt fs x := by
  unfold cnt ind
  rw [valD_cons]
  by_cases z : f.1 = x
  · subst z
    rw [if_pos rfl, if_pos rfl, valD_none.mpr n]
    show f.2.2 = 1 * f.2.2 + 0
    omega
  · rw [if_neg z, if_neg fun q => z q.symm]
    omega
theorem wk_cons (φ : Sh → Int) {f : Sh × Addr × Int} {fs : DEs} (n : f.1 ∉ keysD fs) : ∀ es : DEs, wk φ es (f :: fs) = f.2.2 * (es.map fun e => ind f.1 e.1 * φ e.1).sum + wk φ es fs
  | [] => by simp [wk]
  | e :: es => by
    have ih := wk_cons φ n es
    unfold wk at ih ⊢
    rw [List.map_cons, List.sum_cons, List.map_cons, List.sum_cons, List.map_cons, List.sum_cons, ih, cnt_cons n]
    grind
theorem wk_all (φ : Sh → Int) {es : DEs} (ne : (keysD es).Nodup) : ∀ {fs : DEs}, (keysD fs).Nodup → (∀ x ∈ keysD fs, x ∈ keysD es) → wk φ es fs = wsum φ fs
  | [], _, _ => by
    have : ∀ es : DEs, wk φ es [] = 0 := by
      intro es
      induction es with
      | nil => rfl
      | cons e es ih =>
        unfold wk at ih ⊢
        rw [List.map_cons, List.sum_cons, ih]
        show 0 * φ e.1 + 0 = 0
        omega
    exact this es
  | f :: fs, nf, h => by
    obtain ⟨n1, n2⟩ := List.nodup_cons.mp nf
    rw [wk_cons φ n1, pick ne (h _ List.mem_cons_self), wk_all φ ne n2 fun x hx => h x (List.mem_cons_of_mem _ hx), wsum_cons]
def subE (es fs : DEs) : DEs := es.map fun e => (e.1, e.2.1, e.2.2 - cnt fs e.1)
def posE (e : Sh × Addr × Int) : Bool := decide (e.2.2 > 0)
theorem subE_wsum (φ : Sh → Int) (fs : DEs) : ∀ es : DEs, wsum φ (subE es fs) = wsum φ es - wk φ es fs
  | [] => by simp [subE, wsum, wk]
  | e :: es => by
    have ih := subE_wsum φ fs es
    show wsum φ ((e.1, e.2.1, e.2.2 - cnt fs e.1) :: subE es fs) = _
    rw [wsum_cons, wsum_cons, ih]
    unfold wk
    rw [List.map_cons, List.sum_cons]
    show (e.2.2 - cnt fs e.1) * φ e.1 + _ = _
    grind
theorem pos_wsum (φ : Sh → Int) : ∀ {es : DEs}, (∀ e ∈ es, 0 ≤ e.2.2) → wsum φ (es.filter posE) = wsum φ es
  | [], _ => rfl
  | e :: es, h => by
    have ih := pos_wsum φ (es := es) fun f hf => h f (List.mem_cons_of_mem _ hf)
    have h0 := h e List.mem_cons_self
    rw [List.filter_cons, wsum_cons]
    by_cases z : e.2.2 > 0
    · have pz : posE e = true := decide_eq_true z
      rw [if_pos pz, wsum_cons, ih]
    · have pz : ¬ posE e = true := fun q => z (of_decide_eq_true q)
      rw [if_neg pz, ih, show e.2.2 = 0 by omega]
      omega
theorem RowsL.push {H G : Hp} {D t p : Addr} {fs : DEs} {x : Sh} {n : Int} (hD : H D = none) (s : Same H G) (R : RowsL G D fs) (ht : G t = none) (hp : ShAt G p x) :
    ∃ xs, (upd G t (.tup [.ref p, .int n])) D = some (.lst xs) ∧ xs.length = fs.length ∧ Same H (upd (upd G t (.tup [.ref p, .int n])) D (.lst (xs ++ [.ref t]))) ∧ RowsL (upd (upd G t (.tup [.ref p, .int n])) D (.lst (xs ++ [.ref t]))) D (fs ++ [(x, p, n)]) := by
  have e := same_new (o := .tup [.ref p, .int n]) ht
  obtain ⟨xs, g1, g2, g3⟩ := (R.same e).snoc (t := t) upd_same (hp.same e)
  exact ⟨xs, g1, g2, fun a o z => (upd_ne (ne_of_none z hD)).trans (e _ _ (s a o z)), g3⟩
def scaleE (n : Int) (es : DEs) : DEs := es.map fun e => (e.1, e.2.1, e.2.2 * n)
theorem scaleE_wsum (n : Int) (φ : Sh → Int) : ∀ es : DEs, wsum φ (scaleE n es) = n * wsum φ es
  | [] => by simp [scaleE, wsum]
  | e :: es => by
    show wsum φ ((e.1, e.2.1, e.2.2 * n) :: scaleE n es) = _
    rw [wsum_cons, wsum_cons, scaleE_wsum n φ es]
    show e.2.2 * n * φ e.1 + n * wsum φ es = n * (e.2.2 * φ e.1 + wsum φ es)
    grind
section
variable {base : Heap} {K : PySem.W.Frag} {mg : Str → Option Value} {w : World}
def NewB (T : Txt K mg) (w : World) (H : Hp) (d : Int) (N : Nat) (M : Int) (S : (Sh → Int) → Int) (Q : VK) : Prop := ∀ p H' es, H p = none → Same H H' → HeapAt PySem.Challenge.pw_grainyard_k16_sums_of_heaps w T.C_Heap H' p d es → GoodB d N M es → (∀ φ, wsum φ es = S φ) → Q (.ref p) H'
def spSameX (T : Txt K mg) (w : World) : Sp := fun vs H Q E => ∃ (p q : Addr) (d d' : Int) (es fs : DEs), vs = [.ref p, .ref q] ∧ HeapAt PySem.Challenge.pw_grainyard_k16_sums_of_heaps w T.C_Heap H p d es ∧ HeapAt PySem.Challenge.pw_grainyard_k16_sums_of_heaps w T.C_Heap H q d' fs ∧ (d = d' → Q .non H) ∧ (d ≠ d' → Throws T.e_OtherRoot.C otherRoot H E)
theorem ok_check_same_root (T : Txt K mg) : FnOk PySem.Challenge.pw_grainyard_k16_sums_of_heaps w K mg base (L2.CX PySem.Challenge.pw_grainyard_k16_sums_of_heaps w) 3 T.f_check_same_root T.d_check_same_root ["one", "other"] (spSameX T w) := by
  refine T.F_check_same_root.okX sc_check_same_root (fun vs H Q E h => ?_) (fun cdv A outer s H vs Q E hr h => ?_)
  · obtain ⟨p, q, d, d', es, fs, rfl, _⟩ := h
    rfl
  · obtain ⟨p, q, d, d', es, fs, rfl, hA, hB, k1, k2⟩ := h
    refine ⟨_, (pss_one (ps_if (pt_cmpR op_ne (pe_prop (pv 0) T.cl_Heap T.pr_Heap_root (ok_Heap_root T) (hr.mono (by decide)) T.b_Heap_root .nil pass0 rfl) (pe_prop (pv 1) T.cl_Heap T.pr_Heap_root (ok_Heap_root T) (hr.mono (by decide)) T.b_Heap_root .nil pass0 rfl) (nomark _)) (pss_one (ps_raise rfl (takes_of rfl rfl rfl rfl) (pmkE0 erb_VE T.e_OtherRoot.T.ox T.e_OtherRoot.iC T.e_OtherRoot.tI (ini_OtherRoot T) (hr.mono (by decide)) (bi_OtherRoot T) .nil pass0 (by rfl) T.e_OtherRoot.g))) pss_nil)), ?_⟩
    obtain ⟨dx, c, hp, _⟩ := id hA
    obtain ⟨dy, c', hq, _⟩ := id hB
    refine ⟨_, rfl, p, dx, _, rfl, hp, p, d, es, rfl, hA, _, rfl, q, dy, _, rfl, hq, q, d', fs, rfl, hB, rfl, _, rfl, ?_⟩
    by_cases z : d = d'
    · rw [decide_eq_true (congrArg V.int z)]
      exact iteF (k1 z)
    · rw [decide_eq_false fun e => z (V.int.inj e)]
      exact iteT (k2 z)
def spHAdd (T : Txt K mg) (w : World) : Sp := fun vs H Q E => ∃ (p q : Addr) (d d' : Int) (es fs : DEs) (N N' : Nat) (M M' : Int), vs = [.ref p, .ref q] ∧ HeapAt PySem.Challenge.pw_grainyard_k16_sums_of_heaps w T.C_Heap H p d es ∧ HeapAt PySem.Challenge.pw_grainyard_k16_sums_of_heaps w T.C_Heap H q d' fs ∧
  (d = d' → isRB d = true ∧ GoodB d N M es ∧ GoodB d N' M' fs ∧ 0 ≤ M ∧ 0 ≤ M' ∧ N + N' ≤ 1000 ∧ NewB T w H d (N + N') (M + M') (fun φ => wsum φ es + wsum φ fs) Q) ∧ (d ≠ d' → Throws T.e_OtherRoot.C otherRoot H E)
theorem ok_Heap_add (T : Txt K mg) : FnOk PySem.Challenge.pw_grainyard_k16_sums_of_heaps w K mg base (L2.CX PySem.Challenge.pw_grainyard_k16_sums_of_heaps w) 7 T.f_Heap_add T.d_Heap_add ["self", "other"] (spHAdd T w) := by
  refine T.F_Heap_add.okX sc_Heap_add (fun vs H Q E h => ?_) (fun cdv A outer s H vs Q E hr h => ?_)
  · obtain ⟨p, q, d, d', es, fs, N, N', M, M', rfl, _⟩ := h
    rfl
  · obtain ⟨p, q, d, d', es, fs, N, N', M, M', rfl, hA, hB, k, bad⟩ := h
    refine ⟨_, (pss_cons (ps_expr (pe_call (ok_check_same_root T) (hr.mono (by decide)) (by rfl) T.g_check_same_root T.F_check_same_root.kp T.b_check_same_root .nil (passes_call (takes_of rfl rfl rfl rfl) (fun _ _ _ _ h => h)) (pa_cons (pv 0) (pa_cons (pv 1) pa_nil))))
      (pss_one (ps_ret (pe_make T.M_Heap (ok_Heap_init T) (hr.mono (by decide)) (by rfl) T.g_Heap T.b_Heap_init .nil pass_never (pa_cons (pe_fld (pv 0) rfl) (pa_cons (pe_op op_cat (pe_meth0 (pv 0) T.cl_Heap T.m_Heap_rows (ok_Heap_rows T) (hr.mono (by decide)) T.b_Heap_rows .nil pass0) (pe_meth0 (pv 1) T.cl_Heap T.m_Heap_rows (ok_Heap_rows T) (hr.mono (by decide)) T.b_Heap_rows .nil pass0)) pa_nil)))))), ?_⟩
    obtain ⟨dx, c, hp, DA⟩ := id hA
    obtain ⟨dy, c', hq, DB⟩ := id hB
    refine ⟨_, rfl, _, rfl, p, q, d, d', es, fs, rfl, hA, hB, fun e => ?_, bad⟩
    subst e
    obtain ⟨hd, gA, gB, m0, m1, hn, k⟩ := k rfl
    have l1 := gA.len
    have l2 := gB.len
    refine ⟨_, rfl, p, T.C_Heap, dx, _, _, rfl, hp, T.cl_Heap, T.n_Heap_held_root, rfl, _, rfl, p, dx, _, rfl, hp, rfl, p, d, es, rfl, hA, fun la as H1 n1 s1 hl1 R1 => ?_⟩
    refine ⟨_, rfl, q, dy, _, rfl, s1 _ _ hq, rfl, q, d, fs, rfl, hB.same s1, fun lb bs H2 n2 s2 hl2 R2 => ?_⟩
    have R1' : RowsAt H2 as es := R1.mono fun a xs z => s2 _ _ z
    have e1 := R1.len
    have e2 := R2.len
    refine ⟨la, lb, _, _, rfl, rfl, s2 _ _ hl1, hl2, ?_, fun lc n3 => ?_⟩
    · rw [List.length_map, List.length_map, e1, e2]
      exact Nat.le_of_lt (small1000 (by omega))
    have R : RowsL H2 la es := ⟨as, s2 _ _ hl1, R1', fun e he => (DA.ks e he).same (s1.trans s2)⟩
    obtain ⟨xs, g1, g2, g3⟩ := R.more (L := lb) (bs := bs) (fs := fs) R2 (fun e he => (DB.ks e he).same (s1.trans s2)) hl2
    cases (s2 _ _ hl1).symm.trans g1
    have W : Within (ShB d) (M + M') (es ++ fs) := fun e he => by
      rcases List.mem_append.mp he with he | he
      · have := gA.wi e he
        exact ⟨this.1, this.2.1, by omega⟩
      · have := gB.wi e he
        exact ⟨this.1, this.2.1, by omega⟩
    have lE : (es ++ fs).length ≤ N + N' := by
      rw [List.length_append]
      omega
    refine mk_heap (T := T) (w := w) hd (g3 lc n3).handed W.es100 W.rowB (by omega) fun x H3 nx s3 hX => ?_
    have s13 := (s1.trans s2).trans (same_new (o := .lst (as.map V.ref ++ bs.map V.ref)) n3)
    refine k x H3 _ (s13.free nx) (s13.trans s3) hX (goodB_made W (by omega) lE fun x => ?_) fun φ => by rw [made_wsum, wsum_app]
    rw [wsum_app, cnt_wsum gA.asc.nd, cnt_wsum gB.asc.nd]
    have := cnt_le gA.wi m0 x
    have := cnt_le gB.wi m1 x
    omega
def spCnt (P : Program) (w : World) (C : Addr) : Sp := fun vs H Q _ => ∃ (p t : Addr) (d : Int) (es : DEs) (x : Sh), vs = [.ref p, .ref t] ∧ HeapAt P w C H p d es ∧ ShAt H t x ∧ Q (.int (cnt es x)) H
theorem ok_Heap_count (T : Txt K mg) : FnOk PySem.Challenge.pw_grainyard_k16_sums_of_heaps w K mg base CX0 1 T.f_Heap_count T.d_Heap_count ["self", "sheet"] (spCnt PySem.Challenge.pw_grainyard_k16_sums_of_heaps w T.C_Heap) := by
  refine T.F_Heap_count.ok sc_Heap_count (fun vs H Q E h => ?_) (fun cdv A outer s H vs Q E hr h => ?_)
  · obtain ⟨p, t, d, es, x, rfl, _⟩ := h
    rfl
  · obtain ⟨p, t, d, es, x, rfl, ⟨dx, c, hp, D⟩, ht, q⟩ := h
    exact ⟨_, (pss_one (ps_ret (pe_sget2 hr.units (pe_fld (pv 0) rfl) (pv 1) pe_int ⟨rfl, rfl, rfl, rfl⟩))), _, rfl, p, T.C_Heap, dx, _, _, rfl, hp, T.cl_Heap, T.n_Heap_copies, rfl, c, es, rfl, D.rd, .ref t, rfl, t, x, 0, es, rfl, rfl, D.rd, ht, q⟩def spHMul (T : Txt K mg) (w : World) : Sp := fun vs H Q E => ∃ (p : Addr) (n d : Int) (es : DEs) (N : Nat) (M : Int), vs = [.ref p, .int n] ∧ HeapAt PySem.Challenge.pw_grainyard_k16_sums_of_heaps w T.C_Heap H p d es ∧ (0 ≤ n → isRB d = true ∧ GoodB d N M es ∧ 0 ≤ M ∧ N ≤ 1000 ∧ n < 2 ^ 60 ∧ NewB T w H d N (M * n) (fun φ => n * wsum φ es) Q) ∧
  (n < 0 → Throws T.e_BadCount.C (badCount (.int n)) H E)
theorem ok_Heap_mul (T : Txt K mg) : FnOk PySem.Challenge.pw_grainyard_k16_sums_of_heaps w K mg base (L2.CX PySem.Challenge.pw_grainyard_k16_sums_of_heaps w) 7 T.f_Heap_mul T.d_Heap_mul ["self", "other"] (spHMul T w) := by
  refine T.F_Heap_mul.okX sc_Heap_mul (fun vs H Q E h => ?_) (fun cdv A outer s H vs Q E hr h => ?_)
  · obtain ⟨p, n, d, es, N, M, rfl, _⟩ := h
    rfl
  · obtain ⟨p, n, d, es, N, M, rfl, hA, k, bad⟩ := h
    refine ⟨_, (pss_cons (ps_if (pt_cmpR op_lt (pv 1) pe_int (nomark _)) (pss_one (ps_raise rfl (takes_of rfl rfl rfl rfl) (pmk_oex (oex_of T.e_BadCount) T.e_BadCount.iC T.e_BadCount.tI (ini_BadCount T) (hr.mono (by decide)) (bi_BadCount T) .nil pass0 (by rfl) T.e_BadCount.g (pa_cons (pv 1) pa_nil)))) pss_nil)
      (pss_cons (ps_if (pt_cmpR op_eq (pv 1) pe_int (nomark _)) (pss_one (ps_ret (pe_make T.M_Heap (ok_Heap_init T) (hr.mono (by decide)) (by rfl) T.g_Heap T.b0_Heap_init T.v0_Heap_init pass_never (pa_cons (pe_fld (pv 0) rfl) pa_nil)))) pss_nil)
      (pss_one (ps_ret (pe_make T.M_Heap (ok_Heap_init T) (hr.mono (by decide)) (by rfl) T.g_Heap T.b_Heap_init .nil pass_never (pa_cons (pe_fld (pv 0) rfl) (pa_cons (pe_lc (own := [("sheet", 2), ("count", 3)]) (g := (gTup K 2 (gCons (gName 2) (gCons (gName 3) gNil)))) (tt := tYes) (by rfl) sc_Heap_mul.nd (pi_list (pe_meth0 (pv 0) T.cl_Heap T.m_Heap_rows (ok_Heap_rows T) (hr.mono (by decide)) T.b_Heap_rows .nil pass0)) (blkOk_by (own := [("sheet", 2), ("count", 3)]) (N := ["self", "other", "sheet", "count"]) (sc := defScope s_Heap_mul) (by decide +kernel)) (fun _ _ _ _ _ => (pg_tup (by rfl) (pgs_cons (pg_name (i := 2) sc_Heap_mul.nd rfl (Or.inl rfl)) (pgs_cons (pg_name (i := 3) sc_Heap_mul.nd rfl (Or.inl rfl)) pgs_nil)))) (fun _ _ _ _ _ => pts_nil) (fun _ _ _ _ _ => (pe_tup (pa_cons (pv 2) (pa_cons (pe_op op_mul (pv 3) (pv 1)) pa_nil))))) pa_nil))))))), ?_⟩
    obtain ⟨dx, c, hp, D⟩ := id hA
    refine ⟨_, rfl, n, 0, rfl, rfl, _, rfl, ?_⟩
    by_cases n0 : 0 ≤ n
    case neg =>
      rw [decide_eq_true (by omega)]
      exact iteT ⟨_, rfl, mk_use rfl (by decide) fun x Hf hx s1 f1 => bad (by omega) x Hf hx s1 f1⟩
    obtain ⟨hd, g, m0, hN, n1, k⟩ := k n0
    have l1 := g.len
    rw [decide_eq_false (by omega)]
    refine iteF ⟨_, rfl, rfl, _, rfl, ite2 (fun z => ?_) (fun z => ?_)⟩
    · rw [dVx] at z
      have z := of_decide_eq_true z
      subst z
      have nil0 : sortE (mergeD []) = [] := by simp [sortE, sortK, mergeD]
      refine ⟨_, rfl, p, T.C_Heap, dx, _, _, rfl, hp, T.cl_Heap, T.n_Heap_held_root, rfl, ?_⟩
      refine mk_heap (T := T) (w := w) (es := []) hd (Handed.none T.z0_Heap_init.sq) (fun e he => by cases he) (fun e he => by cases he) (Nat.zero_le _) fun x H1 nx s1 hX => ?_
      rw [nil0] at hX
      refine k x H1 [] nx s1 hX ⟨asc_nil, (fun e he => by cases he), Nat.zero_le _⟩ fun φ => ?_
      show (0 : Int) = 0 * wsum φ es
      omega
    · rw [dVx] at z
      have z : n ≠ 0 := fun q => z (decide_eq_true q)
      refine ⟨_, rfl, p, T.C_Heap, dx, _, _, rfl, hp, T.cl_Heap, T.n_Heap_held_root, rfl, _, rfl, p, dx, _, rfl, hp, rfl, p, d, es, rfl, hA, fun l as H1 n2 s1 hl R => ?_⟩
      refine ⟨l, rfl, ⟨_, SqL.of hl⟩, fun L hL => ?_⟩
      refine lc_list (K := K) (a := l) (xs := as.map V.ref) (fun i G => Same H1 G ∧ RowsL G L ((scaleE n es).take i)) ⟨same_new hL, [], upd_same, .nil, fun e he => by cases he⟩ (fun i G _ z => SqL.of (z.1 _ _ hl)) ?_ ?_
      · rintro i x G hx ⟨sG, RG⟩
        obtain ⟨a, e, rfl, he, ha⟩ := R.row hx
        have hs := (D.ks e (List.mem_of_getElem? he)).same (s1.trans sG)
        refine ⟨a, _, rfl, SqT.of (sG _ _ ha), rfl, .ref e.2.1, _, rfl, .int e.2.2, _, rfl, rfl, rfl, ?_⟩
        refine ⟨_, rfl, _, rfl, _, rfl, e.2.2, n, rfl, rfl, .inr ⟨by omega, by omega⟩, by show 2 ≤ sizeLine; decide, fun t ht => ?_⟩
        have hat : (scaleE n es)[i]? = some (e.1, e.2.1, e.2.2 * n) := by
          unfold scaleE
          rw [List.getElem?_map, he]
          rfl
        obtain ⟨xs, g1, g2, g3, g4⟩ := RowsL.step hL sG RG hat ht hs
        have hi := (List.getElem?_eq_some_iff.mp he).1
        exact ⟨xs, g1, small1000 (by omega), g3, g4⟩
      · rintro G ⟨sG, RG⟩
        have hll : (as.map V.ref).length = (scaleE n es).length := by
          unfold scaleE
          rw [List.length_map, List.length_map]
          exact R.len
        rw [hll, List.take_length] at RG
        have W : Within (ShB d) (M * n) (scaleE n es) := fun e he => by
          obtain ⟨f, hf, rfl⟩ := List.mem_map.mp he
          obtain ⟨w1, w2, w3⟩ := g.wi f hf
          refine ⟨w1, ?_, Int.mul_le_mul_of_nonneg_right w3 n0⟩
          show 1 ≤ f.2.2 * n
          have := Int.mul_pos (show 0 < f.2.2 by omega) (show 0 < n by omega)
          omega
        have lE : (scaleE n es).length ≤ N := by
          unfold scaleE
          rw [List.length_map]
          exact l1
        refine mk_heap (T := T) (w := w) hd RG.handed W.es100 W.rowB (by omega) fun x H3 nx s3 hX => ?_
        refine k x H3 _ ((s1.trans sG).free nx) ((s1.trans sG).trans s3) hX (goodB_made W (Int.mul_nonneg m0 n0) lE fun y => ?_) fun φ => by rw [made_wsum, scaleE_wsum]
        rw [scaleE_wsum, cnt_wsum g.asc.nd, Int.mul_comm]
        exact Int.mul_le_mul_of_nonneg_right (cnt_le g.wi m0 y) n0
def spHSub (T : Txt K mg) (w : World) : Sp := fun vs H Q E => ∃ (p q : Addr) (d d' : Int) (es fs : DEs) (N N' : Nat) (M M' : Int), vs = [.ref p, .ref q] ∧ HeapAt PySem.Challenge.pw_grainyard_k16_sums_of_heaps w T.C_Heap H p d es ∧ HeapAt PySem.Challenge.pw_grainyard_k16_sums_of_heaps w T.C_Heap H q d' fs ∧
  (d = d' → isRB d = true ∧ GoodB d N M es ∧ GoodB d N' M' fs ∧ 0 ≤ M ∧ N ≤ 1000 ∧ ((∀ f ∈ fs, f.2.2 ≤ cnt es f.1) → NewB T w H d N M (fun φ => wsum φ es - wsum φ fs) Q) ∧ (∀ (i : Nat) (f : Sh × Addr × Int), fs[i]? = some f → cnt es f.1 < f.2.2 → (∀ (j : Nat) (g : Sh × Addr × Int), j < i → fs[j]? = some g → g.2.2 ≤ cnt es g.1) → Throws T.e_NoSheet.C (noSheet f.2.1) H E)) ∧
  (d ≠ d' → Throws T.e_OtherRoot.C otherRoot H E)
theorem ok_Heap_sub (T : Txt K mg) : FnOk PySem.Challenge.pw_grainyard_k16_sums_of_heaps w K mg base (L2.CX PySem.Challenge.pw_grainyard_k16_sums_of_heaps w) 7 T.f_Heap_sub T.d_Heap_sub ["self", "other"] (spHSub T w) := by
  refine T.F_Heap_sub.okX sc_Heap_sub (fun vs H Q E h => ?_) (fun cdv A outer s H vs Q E hr h => ?_)
  · obtain ⟨p, q, d, d', es, fs, N, N', M, M', rfl, _⟩ := h
    rfl
  · obtain ⟨p, q, d, d', es, fs, N, N', M, M', rfl, hA, hB, k, bad⟩ := h
    refine ⟨_, (pss_cons (ps_expr (pe_call (ok_check_same_root T) (hr.mono (by decide)) (by rfl) T.g_check_same_root T.F_check_same_root.kp T.b_check_same_root .nil (passes_call (takes_of rfl rfl rfl rfl) (fun _ _ _ _ h => h)) (pa_cons (pv 0) (pa_cons (pv 1) pa_nil))))
      (Evl.pss_cut (ps_for (passes_of rfl) rfl (pi_list (pe_meth0 (pv 1) T.cl_Heap T.m_Heap_rows (ok_Heap_rows T) (hr.mono (by decide)) T.b_Heap_rows .nil pass0)) (pg_tup (by rfl) (pgs_cons (pg_name (i := 3) sc_Heap_sub.nd rfl (Or.inl rfl)) (pgs_cons (pg_name (i := 4) sc_Heap_sub.nd rfl (Or.inl rfl)) pgs_nil))) (pss_one (ps_if (pt_cmpR op_lt (pe_meth (pv 0) T.cl_Heap T.m_Heap_count (ok_Heap_count T) (hr.mono (by decide)) T.b_Heap_count .nil pass0 (pa_cons (pv 3) pa_nil)) (pv 4) (nomark _)) (pss_one (ps_raise rfl (takes_of rfl rfl rfl rfl) (pmkE1 erb_LE T.e_NoSheet.T.ox T.e_NoSheet.iC T.e_NoSheet.tI (ini_NoSheet T) (hr.mono (by decide)) (bi_NoSheet T) .nil pass0 (by rfl) T.e_NoSheet.g (pv 3)))) pss_nil)))
      (pss_cons (ps_setLc (i := 2) (own := [("sheet", 3), ("count", 4)]) (g := (gTup K 2 (gCons (gName 3) (gCons (gName 4) gNil)))) (tt := tYes) (te := tTup (tCons (tVar 3) (tCons (tOp _ (tVar 4) (tMeth T.C_Heap "count" (spCnt PySem.Challenge.pw_grainyard_k16_sums_of_heaps w T.C_Heap) [] E0 (tVar 1) (tCons (tVar 3) tNil))) tNil))) (by rfl) sc_Heap_sub.nd rfl rfl (sw_true rfl rfl rfl (by decide +kernel)) (pi_list (pe_meth0 (pv 0) T.cl_Heap T.m_Heap_rows (ok_Heap_rows T) (hr.mono (by decide)) T.b_Heap_rows .nil pass0)) (blkOk_by (own := [("sheet", 3), ("count", 4)]) (N := ["self", "other", "left", "sheet", "count"]) (sc := defScope s_Heap_sub) (by decide +kernel)) (fun _ _ _ _ _ => (pg_tup (by rfl) (pgs_cons (pg_name (i := 3) sc_Heap_sub.nd rfl (Or.inl rfl)) (pgs_cons (pg_name (i := 4) sc_Heap_sub.nd rfl (Or.inl rfl)) pgs_nil)))) (fun _ _ _ _ _ => pts_nil) (fun _ _ _ _ _ => (pe_tup (pa_cons (pv 3) (pa_cons (pe_op op_sub (pv 4) (pe_meth (pv 1) T.cl_Heap T.m_Heap_count (ok_Heap_count T) (hr.mono (by decide)) T.b_Heap_count .nil pass0 (pa_cons (pv 3) pa_nil))) pa_nil)))))
      (pss_one (ps_ret (pe_make T.M_Heap (ok_Heap_init T) (hr.mono (by decide)) (by rfl) T.g_Heap T.b_Heap_init .nil pass_never (pa_cons (pe_fld (pv 0) rfl) (pa_cons (pe_lc (own := [("sheet", 3), ("count", 4)]) (g := (gTup K 2 (gCons (gName 3) (gCons (gName 4) gNil)))) (te := tTup (tCons (tVar 3) (tCons (tVar 4) tNil))) (by rfl) sc_Heap_sub.nd (pi_list (pv 2)) (blkOk_by (own := [("sheet", 3), ("count", 4)]) (N := ["self", "other", "left", "sheet", "count"]) (sc := defScope s_Heap_sub) (by decide +kernel)) (fun _ _ _ _ _ => (pg_tup (by rfl) (pgs_cons (pg_name (i := 3) sc_Heap_sub.nd rfl (Or.inl rfl)) (pgs_cons (pg_name (i := 4) sc_Heap_sub.nd rfl (Or.inl rfl)) pgs_nil)))) (fun _ _ _ _ _ => (pts_one (pt_cmpR op_gt (pv 4) pe_int (nomark _)))) (fun _ _ _ _ _ => (pe_tup (pa_cons (pv 3) (pa_cons (pv 4) pa_nil))))) pa_nil)))))))), ?_⟩
    obtain ⟨dx, c, hp, DA⟩ := id hA
    obtain ⟨dy, c', hq, DB⟩ := id hB
    refine ⟨_, rfl, _, rfl, p, q, d, d', es, fs, rfl, hA, hB, fun e => ?_, bad⟩
    subst e
    obtain ⟨hd, gA, gB, m0, hN, k, miss⟩ := k rfl
    have l1 := gA.len
    refine ⟨fun σ H' => ∃ y3 y4, σ = [some (.ref p), some (.ref q), none, y3, y4] ∧ Same H H' ∧ ∀ f ∈ fs, f.2.2 ≤ cnt es f.1, ?_, ?_⟩
    · refine ⟨_, rfl, q, dy, _, rfl, hq, rfl, q, d, fs, rfl, hB, fun l as H1 n1 s1 hl R => ?_⟩
      refine ⟨l, rfl, ⟨_, SqL.of hl⟩, for_list (K := K) (a := l) (xs := as.map V.ref) (fun i σ H' => ∃ y3 y4, σ = [some (.ref p), some (.ref q), none, y3, y4] ∧ H' = H1 ∧ ∀ j g, j < i → fs[j]? = some g → g.2.2 ≤ cnt es g.1) ⟨none, none, rfl, rfl, fun j g hj => absurd hj (Nat.not_lt_zero _)⟩ (fun i σ H' _ z => by obtain ⟨_, _, _, e, _⟩ := z; rw [e]; exact SqL.of hl) ?_ ?_⟩
      · rintro i x σ G hx ⟨y3, y4, rfl, rfl, good⟩
        obtain ⟨a, f, rfl, hf, ha⟩ := R.row hx
        have mf := List.mem_of_getElem? hf
        refine ⟨a, _, rfl, SqT.of ha, rfl, .ref f.2.1, _, rfl, .int f.2.2, _, rfl, rfl, ?_⟩
        refine ⟨_, rfl, p, dx, _, rfl, s1 _ _ hp, rfl, _, rfl, p, f.2.1, d, es, f.1, rfl, hA.same s1, (DB.ks f mf).same s1, _, rfl, _, _, rfl, rfl, _, rfl, ?_⟩
        by_cases z : cnt es f.1 < f.2.2
        · rw [decide_eq_true z]
          exact iteT ⟨_, rfl, fun x Hf hx s2 f2 => (miss i f hf z good).up s1 x Hf hx s2 f2⟩
        · rw [decide_eq_false z]
          refine iteF ⟨_, _, rfl, rfl, fun j g hj hg => ?_⟩
          rcases Nat.lt_succ_iff_lt_or_eq.mp hj with l | rfl
          · exact good j g l hg
          · cases hf.symm.trans hg
            omega
      · rintro σ G ⟨y3, y4, rfl, rfl, good⟩
        refine ⟨_, _, rfl, s1, fun f hf => ?_⟩
        obtain ⟨j, hj⟩ := List.mem_iff_getElem?.mp hf
        exact good j f (by rw [List.length_map, R.len]; exact (List.getElem?_eq_some_iff.mp hj).1) hj
    · rintro σ H1 ⟨y3, y4, rfl, s1, le⟩
      have k := k le
      have hA1 := hA.same s1
      refine ⟨_, rfl, p, dx, _, rfl, s1 _ _ hp, rfl, p, d, es, rfl, hA1, fun l as H2 n2 s2 hl R => ?_⟩
      have s12 := s1.trans s2
      refine ⟨l, rfl, ⟨_, SqL.of hl⟩, fun L hL => ?_⟩
      have low : ∀ x, 0 ≤ cnt fs x := fun x => cnt_nn gB.wi x
      refine lc_list (K := K) (a := l) (xs := as.map V.ref) (fun i G => Same H2 G ∧ RowsL G L ((subE es fs).take i)) ⟨same_new hL, [], upd_same, .nil, fun e he => by cases he⟩ (fun i G _ z => SqL.of (z.1 _ _ hl)) ?_ ?_
      · rintro i x G hx ⟨sG, RG⟩
        obtain ⟨a, e, rfl, he, ha⟩ := R.row hx
        have hs := (DA.ks e (List.mem_of_getElem? he)).same (s12.trans sG)
        refine ⟨a, _, rfl, SqT.of (sG _ _ ha), rfl, .ref e.2.1, _, rfl, .int e.2.2, _, rfl, rfl, rfl, ?_⟩
        refine ⟨_, rfl, _, rfl, _, rfl, q, dy, _, rfl, (s12.trans sG) _ _ hq, rfl, _, rfl, q, e.2.1, d, fs, e.1, rfl, hB.same (s12.trans sG), hs, _, _, rfl, rfl, by show 2 ≤ sizeLine; decide, fun t ht => ?_⟩
        have hat : (subE es fs)[i]? = some (e.1, e.2.1, e.2.2 - cnt fs e.1) := by
          unfold subE
          rw [List.getElem?_map, he]
          rfl
        obtain ⟨xs, g1, g2, g3, g4⟩ := RowsL.step hL sG RG hat ht hs
        have hi := (List.getElem?_eq_some_iff.mp he).1
        exact ⟨xs, g1, small1000 (by omega), g3, g4⟩
      · rintro G ⟨sG, RG⟩
        have hll : (as.map V.ref).length = (subE es fs).length := by
          unfold subE
          rw [List.length_map, List.length_map]
          exact R.len
        rw [hll, List.take_length] at RG
        have sl : (subE es fs).length = es.length := by
          unfold subE
          rw [List.length_map]
        have sg := s12.trans sG
        obtain ⟨bs, hLs, Rb, kb⟩ := RG
        refine ⟨_, rfl, p, T.C_Heap, dx, _, _, rfl, sg _ _ hp, T.cl_Heap, T.n_Heap_held_root, rfl, _, rfl, L, rfl, ⟨_, SqL.of hLs⟩, fun L2 hL2 => ?_⟩
        refine lc_list (K := K) (a := L) (xs := bs.map V.ref) (fun i G' => Same G G' ∧ RowsL G' L2 (((subE es fs).take i).filter posE)) ⟨same_new hL2, [], upd_same, .nil, fun e he => by cases he⟩ (fun i G' _ z => SqL.of (z.1 _ _ hLs)) ?_ ?_
        · rintro i x G' hx ⟨s', R'⟩
          obtain ⟨a, e, rfl, he, ha⟩ := Rb.row hx
          have hs := (kb e (List.mem_of_getElem? he)).same s'
          have hi := (List.getElem?_eq_some_iff.mp he).1
          have tk : ((subE es fs).take (i + 1)).filter posE = ((subE es fs).take i).filter posE ++ [e].filter posE := by
            rw [List.take_add_one, he, List.filter_append]
            rfl
          refine ⟨a, _, rfl, SqT.of (s' _ _ ha), rfl, .ref e.2.1, _, rfl, .int e.2.2, _, rfl, rfl, rfl, ?_⟩
          refine ⟨_, rfl, e.2.2, 0, rfl, rfl, _, rfl, ite2 (fun z => ?_) (fun z => ?_)⟩
          · refine ⟨_, rfl, _, rfl, by show 2 ≤ sizeLine; decide, fun t ht => ?_⟩
            obtain ⟨xs, g1, g2, g3, g4⟩ := RowsL.push (n := e.2.2) hL2 s' R' ht hs
            have pz : posE e = true := z
            refine ⟨xs, g1, ?_, g3, ?_⟩
            · rw [g2]
              have := List.length_filter_le posE ((subE es fs).take i)
              rw [List.length_take] at this
              exact small1000 (by omega)
            · rw [tk, show [e].filter posE = [e] by rw [List.filter_cons, if_pos pz]; rfl]
              exact g4
          · have pz : ¬ posE e = true := z
            refine ⟨s', ?_⟩
            rw [tk, show [e].filter posE = [] by rw [List.filter_cons, if_neg pz]; rfl, List.append_nil]
            exact R'
        · rintro G' ⟨s', R'⟩
          have hll2 : (bs.map V.ref).length = (subE es fs).length := by
            rw [List.length_map]
            exact Rb.len
          rw [hll2, List.take_length] at R'
          have keys : ∀ x ∈ keysD fs, x ∈ keysD es := fun x hx => by
            obtain ⟨f, hf, rfl⟩ := List.mem_map.mp hx
            have h1 := le f hf
            have h2 := gB.asc.pos f hf
            by_cases z : f.1 ∈ keysD es
            · exact z
            · exfalso
              unfold cnt at h1
              rw [valD_none.mpr z] at h1
              have h1 : f.2.2 ≤ 0 := h1
              omega
          have nn : ∀ e ∈ subE es fs, 0 ≤ e.2.2 := fun e he => by
            obtain ⟨g, hg, rfl⟩ := List.mem_map.mp he
            show 0 ≤ g.2.2 - cnt fs g.1
            have h1 : cnt fs g.1 ≤ g.2.2 := by
              have h0 := gA.asc.pos g hg
              cases z : valD fs g.1 with
              | none =>
                unfold cnt
                rw [z]
                show 0 ≤ g.2.2
                omega
              | some m =>
                obtain ⟨f, hf, f1, f2⟩ := valD_some z
                have h2 := le f hf
                have h3 : cnt es f.1 = g.2.2 := by
                  unfold cnt
                  rw [f1, valD_mem gA.asc.nd hg]
                  rfl
                have h4 : cnt fs g.1 = f.2.2 := by
                  unfold cnt
                  rw [z, f2]
                  rfl
                omega
            omega
          have sum : ∀ φ, wsum φ ((subE es fs).filter posE) = wsum φ es - wsum φ fs := fun φ => by
            rw [pos_wsum φ nn, subE_wsum, wk_all φ gA.asc.nd gB.asc.nd keys]
          have W : Within (ShB d) M ((subE es fs).filter posE) := fun e he => by
            obtain ⟨he, pz⟩ := List.mem_filter.mp he
            have pz := of_decide_eq_true pz
            obtain ⟨g, hg, rfl⟩ := List.mem_map.mp he
            obtain ⟨w1, w2, w3⟩ := gA.wi g hg
            have := low g.1
            have pz : g.2.2 - cnt fs g.1 > 0 := pz
            exact ⟨w1, by show 1 ≤ g.2.2 - cnt fs g.1; omega, by show g.2.2 - cnt fs g.1 ≤ M; omega⟩
          have lE : ((subE es fs).filter posE).length ≤ N := by
            have := List.length_filter_le posE (subE es fs)
            omega
          refine mk_heap (T := T) (w := w) hd R'.handed W.es100 W.rowB (by omega) fun x H3 nx s3 hX => ?_
          have sa := sg.trans s'
          refine k x H3 _ (sa.free nx) (sa.trans s3) hX (goodB_made W m0 lE fun y => ?_) fun φ => by rw [made_wsum, sum]
          rw [sum, cnt_wsum gA.asc.nd, cnt_wsum gB.asc.nd]
          have := cnt_le gA.wi m0 y
          have := low y
          omega
end
/-! ### whether a heap is the one that is due, the sheets at other places -/
section
variable {base : Heap} {K : PySem.W.Frag} {mg : Str → Option Value} {w : World}
theorem LkAll.rows2 {H : Hp} {n : Nat} : ∀ {as bs : List Addr} {es fs : DEs}, RowsAt H as es → RowsAt H bs fs → (∀ e ∈ es, ShAt H e.2.1 e.1) → (∀ e ∈ fs, ShAt H e.2.1 e.1) → rowsE es = rowsE fs → LkAll H (n + 3) (as.map V.ref) (bs.map V.ref) := by
  intro as bs es fs r
  unfold RowsAt at r
  induction r generalizing bs fs with
  | nil =>
    intro r' _ _ e
    cases r' with
    | nil => exact .nil
    | cons _ _ => cases e
  | cons r t ih =>
    intro r' k k' e
    cases r' with
    | nil => cases e
    | cons r' t' =>
      obtain ⟨e1, e2⟩ := List.cons.inj e
      obtain ⟨ex, en⟩ := Prod.mk.inj e1
      obtain ⟨u, v, h1, h2, h3⟩ := k _ List.mem_cons_self
      obtain ⟨u', v', g1, g2, g3⟩ := k' _ List.mem_cons_self
      rw [ex] at h2 h3
      exact .cons (Lk.tups r r' (by simp) (.cons (Lk.tups h1 g1 (by simp) (.cons (Lk.pair h2 g2 rfl rfl) (.cons (Lk.pair h3 g3 rfl rfl) .nil))) (.cons (Lk.int en) .nil))) (ih t' (fun e he => k e (List.mem_cons_of_mem _ he)) (fun e he => k' e (List.mem_cons_of_mem _ he)) e2)
def spIsHeap (T : Txt K mg) (w : World) : Sp := fun vs H Q _ => ∃ (p c : Addr) (d : Int) (es fs : DEs), vs = [.ref p, .int d, .ref c] ∧ HeapAt PySem.Challenge.pw_grainyard_k16_sums_of_heaps w T.C_Heap H p d es ∧ DAt PySem.Challenge.pw_grainyard_k16_sums_of_heaps w H c fs ∧ (keysD fs).Nodup ∧ fs.length ≤ 1000 ∧ rowsE es = rowsE (sortE fs) ∧ ∀ H', Same H H' → Q (.bl true) H'
theorem ok_is_heap (T : Txt K mg) : FnOk PySem.Challenge.pw_grainyard_k16_sums_of_heaps w K mg base CX0 7 T.f_is_heap T.d_is_heap ["_law_heap", "_law_root", "_law_stock"] (spIsHeap T w) := by
  refine T.F_is_heap.ok sc_is_heap (fun vs H Q E h => ?_) (fun cdv A outer s H vs Q E hr h => ?_)
  · obtain ⟨p, c, d, es, fs, rfl, _⟩ := h
    rfl
  · obtain ⟨p, c, d, es, fs, rfl, hA, D, nd, hn, ee, q⟩ := h
    refine ⟨_, (pss_one (ps_ret (pe_and (pe_callB call_isi (by rfl) T.n_isinstance (by decide +kernel) (pa_cons (pv 0) (pa_cons (pe_glob (v := .ref T.C_Heap) (by rfl) T.g_Heap rfl) pa_nil))) (pe_one (pe_call (ok_like T) (hr.mono (by decide)) (by rfl) T.g_like T.F_like.kp T.b_like .nil pass0 (pa_cons (pe_lst (pa_cons (pe_prop (pv 0) T.cl_Heap T.pr_Heap_root (ok_Heap_root T) (hr.mono (by decide)) T.b_Heap_root .nil pass0 rfl) (pa_cons (pe_meth0 (pv 0) T.cl_Heap T.m_Heap_rows (ok_Heap_rows T) (hr.mono (by decide)) T.b_Heap_rows .nil pass0) pa_nil))) (pa_cons (pe_lst (pa_cons (pv 1) (pa_cons (pe_call (ok_listed T) (hr.mono (by decide)) (by rfl) T.g_listed T.F_listed.kp T.b_listed .nil pass0 (pa_cons (pv 2) pa_nil)) pa_nil))) pa_nil))))))), ?_⟩
    obtain ⟨dx, cc, hp, DA⟩ := id hA
    refine ⟨_, rfl, .ref p, .ref T.C_Heap, .ref T.C_Heap, .ref T.C_Heap, true, rfl, ClsV.own _, TyX.base (TyOf.ins hp T.cl_Heap T.ca_Heap T.hn T.ht T.mo_Heap), by simp [PySem.W.kitOne], true, rfl, iteT ?_⟩
    refine ⟨_, rfl, p, dx, _, rfl, hp, p, d, _, rfl, hA, _, rfl, p, dx, _, rfl, hp, rfl, p, d, _, rfl, hA, fun l as H1 hl s1 h1 R1 => ⟨by show 2 ≤ sizeLine; decide, fun l1 n1 => ?_⟩⟩
    have e1 := same_new (o := .lst [.int d, .ref l]) n1
    refine ⟨_, rfl, _, rfl, c, fs, rfl, (D.same s1).same e1, nd, hn, fun l2 H2 hl2 s2 R2 => ⟨by show 2 ≤ sizeLine; decide, fun l3 n3 => ?_⟩⟩
    have e3 := same_new (o := .lst [.int d, .ref l2]) n3
    have ln : es.length ≤ 1000 := by
      have e := congrArg List.length ee
      unfold rowsE at e
      rw [List.length_map, List.length_map, (sortE_perm nd).length_eq] at e
      omega
    have s23 := s2.trans e3
    have L1 : RowsL H1 l es := ⟨as, h1, R1, fun e he => (DA.ks e he).same s1⟩
    obtain ⟨as1, g1, g2, g3⟩ := (L1.same e1).same s23
    obtain ⟨as2, k1, k2, k3⟩ := R2.same e3
    refine ⟨_, _, rfl, Lk.lists (s23 _ _ upd_same) upd_same (by simp) (.cons (Lk.int rfl) (.cons (Lk.lists g1 k1 (by rw [List.length_map, g2.len]; exact ln) (LkAll.rows2 g2 k2 g3 k3 ee)) .nil)), fun H' s' => q _ ((s1.trans e1).trans (s23.trans s'))⟩
end
/-! ### the items of a list, in another order -/
theorem pop_perm {α : Type} {y : α} : ∀ {xs : List α} {k : Nat}, xs[k]? = some y → (y :: xs.eraseIdx k).Perm xs
  | [], _, h => by simp at h
  | x :: xs, 0, h => by
    cases h
    exact .refl _
  | x :: xs, k + 1, h => by
    have h' : xs[k]? = some y := by simpa using h
    rw [List.eraseIdx_cons_succ]
    exact (List.Perm.swap x y _).trans ((pop_perm h').cons x)
section
variable {base : Heap} {K : PySem.W.Frag} {mg : Str → Option Value} {P : Program} {w : World}
def spMixed : Sp := fun vs H Q _ => ∃ (b sb l : Addr) (xs : List V), vs = [.ref b, .ref l] ∧ Bag H b sb ∧ H l = some (.lst xs) ∧ l ≠ b ∧ xs.length ≤ 1000 ∧ ∀ q ys H', H q = none → ys.Perm xs → H' q = some (.lst ys) → Bag H' b sb → Keep b H H' → Q (.ref q) H'
theorem ok_mixed (T : Txt K mg) : FnOk P w K mg base CX0 2 T.f_mixed T.d_mixed ["_law_bag", "_law_some"] spMixed := by
  refine T.F_mixed.ok sc_mixed (fun vs H Q E h => ?_) (fun cdv A outer s H vs Q E hr h => ?_)
  · obtain ⟨b, sb, l, xs, rfl, _⟩ := h
    rfl
  · obtain ⟨b, sb, l, xs, rfl, B, hl, nl, hn, q⟩ := h
    refine ⟨_, (pss_cons (ps_par (i := 3) (j := 4) (by rfl) sc_mixed.nd rfl rfl (by decide) rfl rfl (pa_cons (pe_callTy call_list_of (by rfl) T.n_list (by decide +kernel) (pa_cons (pv 1) pa_nil)) (pa_cons (pe_lst pa_nil) pa_nil)) (by rfl))
      (pss_cons (ps_for PassesOwn.never rfl (pi_range1 (by rfl) T.n_range (pa_cons (pe_callB call_len_seq (by rfl) T.n_len (by decide +kernel) (pa_cons (pv 1) pa_nil)) pa_nil)) (pg_name (i := 2) sc_mixed.nd rfl (Or.inl rfl)) (pss_one (ps_expr (pe_bm PySem.F.plainAttrs_list PySem.F.slot_list_append PySem.F.type_list_append mt_append (pv 4) (pa_cons (pe_bm PySem.F.plainAttrs_list PySem.F.slot_list_pop PySem.F.type_list_pop mt_popAt (pv 3) (pa_cons (pe_call (ok_pull T) (hr.mono (by decide)) (by rfl) T.g_pull T.F_pull.kp T.b_pull .nil pass0 (pa_cons (pv 0) (pa_cons (pe_callB call_len_seq (by rfl) T.n_len (by decide +kernel) (pa_cons (pv 3) pa_nil)) pa_nil))) pa_nil)) pa_nil)))))
      (pss_one (ps_ret (pv 4))))), ?_⟩
    refine ⟨_, rfl, l, xs, rfl, .inl (SqL.of hl), fun lf hlf => ⟨Nat.zero_le _, fun ft hft => ?_⟩⟩
    have e1 := same_new (o := .lst xs) hlf
    have e2 := same_new (o := .lst []) hft
    have e12 := e1.trans e2
    have nf := B.ne hlf
    have nf2 := B.ne2 hlf
    have nt := (B.same e1).ne hft
    have nt2 := (B.same e1).ne2 hft
    have nft : lf ≠ ft := fun z => by
      rw [← z, upd_same] at hft
      cases hft
    refine ⟨_, _, rfl, ?_⟩
    refine ⟨_, rfl, l, xs, rfl, .inl (SqL.of (e12 _ _ hl)), xs.length, rfl, by omega, by omega, for_range (lo := 0) (n := xs.length) (fun i σ H' => ∃ y2 zs ys, σ = [some (.ref b), some (.ref l), y2, some (.ref lf), some (.ref ft)] ∧ H' lf = some (.lst zs) ∧ H' ft = some (.lst ys) ∧ zs.length + i = xs.length ∧ (ys ++ zs).Perm xs ∧ Bag H' b sb ∧ Keep b H H') ⟨none, xs, [], rfl, e2 _ _ upd_same, upd_same, rfl, .refl _, B.same e12, keep_of e12⟩ ?_ ?_⟩
    · rintro i σ H2 hi ⟨y2, zs, ys, rfl, h1, h2, hn2, pm, B2, k2⟩
      refine ⟨.ref ft, rfl, .inl ⟨rfl, _, SqL.of h2⟩, .ref lf, rfl, .inl ⟨rfl, _, SqL.of h1⟩, _, rfl, _, rfl, lf, zs, rfl, .inl (SqL.of h1), b, sb, _, rfl, B2, by omega, Nat.lt_of_le_of_lt (show ((zs.length : Nat) : Int).natAbs ≤ 1000 by omega) (by decide), fun z H3 z0 z1 B3 k3 => ?_⟩
      have h1' := k3 _ _ nf h1
      have h2' := k3 _ _ nt h2
      have lt : z.toNat < zs.length := by omega
      refine ⟨lf, zs, z, z.toNat, zs[z.toNat], rfl, rfl, h1', by omega, by omega, seqIndex_of z0 (by omega), List.getElem?_eq_getElem lt, ?_⟩
      have at_ : zs[z.toNat]? = some zs[z.toNat] := List.getElem?_eq_getElem lt
      refine ⟨ft, ys, _, rfl, rfl, (upd_ne nft.symm).trans h2', small1000 ?_, _, _, _, rfl, (upd_ne nft).trans upd_same, upd_same, ?_, ?_, (B3.put nf nf2).put nt nt2, ?_⟩
      · have := pm.length_eq
        rw [List.length_append] at this
        omega
      · rw [List.length_eraseIdx_of_lt lt]
        omega
      · rw [List.append_assoc]
        exact ((pop_perm at_).append_left ys).trans pm
      · intro a o na z
        rw [upd_ne (ne_of_none z (e1.free hft)), upd_ne (ne_of_none z hlf)]
        exact (k2.trans k3) a o na z
    · rintro σ H2 ⟨y2, zs, ys, rfl, h1, h2, hn2, pm, B2, k2⟩
      obtain rfl : zs = [] := List.eq_nil_of_length_eq_zero (by omega)
      rw [List.append_nil] at pm
      exact ⟨_, rfl, q ft ys H2 (e1.free hft) pm h2 B2 k2⟩
end
/-! ### what is left of a stock -/
section
variable {base : Heap} {K : PySem.W.Frag} {mg : Str → Option Value} {P : Program} {w : World}
def leftE (es fs : DEs) : DEs := (subE es fs).filter posE
theorem leftE_next {es fs : DEs} (nd : (keysD es).Nodup) {i : Nat} {e : Sh × Addr × Int} (he : es[i]? = some e) :
    (0 < e.2.2 - cnt fs e.1 → putD (leftE (es.take i) fs) e.1 e.2.1 (e.2.2 - cnt fs e.1) = leftE (es.take (i + 1)) fs) ∧ (¬ 0 < e.2.2 - cnt fs e.1 → leftE (es.take (i + 1)) fs = leftE (es.take i) fs) := by
  have app : leftE (es.take (i + 1)) fs = leftE (es.take i) fs ++ [(e.1, e.2.1, e.2.2 - cnt fs e.1)].filter posE := by
    unfold leftE subE
    rw [List.take_add_one, he, List.map_append, List.filter_append]
    rfl
  constructor
  · intro h
    have pz : posE (e.1, e.2.1, e.2.2 - cnt fs e.1) = true := decide_eq_true h
    rw [app, List.filter_cons, if_pos pz, putD_new ?_]
    · rfl
    refine valD_none.mpr fun z => ?_
    obtain ⟨f, hf, ef⟩ := List.mem_map.mp z
    obtain ⟨g, hg, rfl⟩ := List.mem_map.mp (List.mem_filter.mp hf).1
    obtain ⟨j, hj⟩ := List.mem_iff_getElem?.mp hg
    have hi := (List.getElem?_eq_some_iff.mp he).1
    have jl := (List.getElem?_eq_some_iff.mp hj).1
    rw [List.length_take] at jl
    rw [List.getElem?_take, if_pos (by omega)] at hj
    have hk : ∀ {a : Nat} {x : Sh × Addr × Int}, es[a]? = some x → (keysD es)[a]? = some x.1 := fun h => by
      unfold keysD
      rw [List.getElem?_map, h]
      rfl
    have k1 := hk hj
    have k2 := hk he
    have ef : g.1 = e.1 := ef
    rw [ef] at k1
    have lk : (keysD es).length = es.length := List.length_map _
    have := (List.getElem?_inj (i := j) (j := i) (by omega) nd).mp (k1.trans k2.symm)
    omega
  · intro h
    have pz : ¬ posE (e.1, e.2.1, e.2.2 - cnt fs e.1) = true := fun q => h (of_decide_eq_true q)
    rw [app, List.filter_cons, if_neg pz]
    exact List.append_nil _
def spWithout (P : Program) (w : World) : Sp := fun vs H Q _ => ∃ (c1 c2 : Addr) (es fs : DEs), vs = [.ref c1, .ref c2] ∧ DAt P w H c1 es ∧ DAt P w H c2 fs ∧ (keysD es).Nodup ∧ es.length ≤ 900 ∧ NewD P w H (leftE (sortE es) fs) Q
theorem ok_without (T : Txt K mg) : FnOk P w K mg base CX0 1 T.f_without T.d_without ["_law_one", "_law_two"] (spWithout P w) := by
  refine T.F_without.ok sc_without (fun vs H Q E h => ?_) (fun cdv A outer s H vs Q E hr h => ?_)
  · obtain ⟨c1, c2, es, fs, rfl, _⟩ := h
    rfl
  · obtain ⟨c1, c2, es, fs, rfl, D1, D2, nd, hn, q⟩ := h
    refine ⟨_, (pss_cons (ps_set (i := 2) sc_without.nd rfl (Or.inl rfl) pe_dnewS)
      (pss_cons (ps_for PassesOwn.never rfl (pi_list (pe_callB (cr_sortedLS hr.units) (by rfl) T.n_sorted (by decide +kernel) (pa_cons (pe_callTy (call_list_DS rfl) (by rfl) T.n_list (by decide +kernel) (pa_cons (pv 0) pa_nil)) pa_nil))) (pg_name (i := 3) sc_without.nd rfl (Or.inl rfl)) (pss_one (ps_if (pt_cmpR op_gt (pe_sget hr.units (pv 0) (pv 3) (fun _ _ => rfl)) (pe_sget2 hr.units (pv 1) (pv 3) pe_int ⟨rfl, rfl, rfl, rfl⟩) (nomark _)) (pss_one (ps_sput hr.units (pv 2) (pv 3) (pe_op op_sub (pe_sget hr.units (pv 0) (pv 3) (fun _ _ => rfl)) (pe_sget2 hr.units (pv 1) (pv 3) pe_int ⟨rfl, rfl, rfl, rfl⟩)) rfl)) pss_nil)))
      (pss_one (ps_ret (pv 2))))), ?_⟩
    intro c hc
    have ec := same_new (o := DS P w c []) hc
    have D0 : DAt P w (upd H c (DS P w c [])) c [] := ⟨upd_same, fun x hx => by cases hx⟩
    have D1c := D1.same ec
    refine ⟨.ref c1, rfl, c1, es, rfl, D1c, fun l0 h0 => ?_⟩
    have e0 := same_new (o := .lst (es.map fun e => V.ref e.2.1)) h0
    refine ⟨l0, es.map fun e => (e.1, e.2.1), rfl, ?_, ?_, fun l1 h1 => ?_⟩
    · rw [upd_same, List.map_map]
      rfl
    · intro b hb
      obtain ⟨e, he, rfl⟩ := List.mem_map.mp hb
      exact (D1c.ks e he).same e0
    have e1 := same_new (o := .lst ((sortK es).map fun b => V.ref b.2)) h1
    have e01 := e0.trans e1
    have D00 := D0.same e01
    have s01 := ec.trans e01
    have hlen : (sortE es).length ≤ 900 := by
      rw [(sortE_perm nd).length_eq]
      exact hn
    have hll : ((sortK es).map fun b => V.ref b.2).length = (sortE es).length := by
      unfold sortE
      rw [List.length_map, List.length_map]
    refine ⟨l1, rfl, ⟨_, SqL.of upd_same⟩, for_list (K := K) (a := l1) (xs := (sortK es).map fun b => V.ref b.2) (fun i σ G => ∃ y3, σ = [some (.ref c1), some (.ref c2), some (.ref c), y3] ∧ Same H G ∧ G l1 = some (.lst ((sortK es).map fun b => V.ref b.2)) ∧ DAt P w G c (leftE ((sortE es).take i) fs)) ⟨none, rfl, s01, upd_same, D00⟩ (fun i σ G _ z => by obtain ⟨_, _, _, z, _⟩ := z; exact SqL.of z) ?_ ?_⟩
    · rintro i x σ G hx ⟨y3, rfl, sG, hl, DG⟩
      rw [List.getElem?_map] at hx
      cases hb : (sortK es)[i]? with
      | none =>
        rw [hb] at hx
        cases hx
      | some b =>
        rw [hb] at hx
        cases hx
        obtain ⟨n, hv, hat, hin⟩ := sortE_at nd hb
        have D1g := D1.same sG
        have D2g := D2.same sG
        have hs := D1g.ks _ hin
        have hi := (List.getElem?_eq_some_iff.mp hat).1
        obtain ⟨p1, p2⟩ := leftE_next (fs := fs) (sortE_keys nd) hat
        have vg : (valD fs b.1).getD 0 = cnt fs b.1 := rfl
        have small : (leftE ((sortE es).take i) fs).length < sizeLine := by
          refine small1000 ?_
          have := List.length_filter_le posE (subE ((sortE es).take i) fs)
          have l2 : (subE ((sortE es).take i) fs).length ≤ i := by
            unfold subE
            rw [List.length_map, List.length_take]
            exact Nat.min_le_left _ _
          unfold leftE
          omega
        refine ⟨_, rfl, _, rfl, c1, b.2, es, b.1, n, rfl, rfl, D1g.rd, hs, hv, _, rfl, c2, fs, rfl, D2g.rd, _, rfl, b.2, b.1, 0, fs, rfl, rfl, D2g.rd, hs, _, _, rfl, rfl, _, rfl, ite2 (fun z => ?_) (fun z => ?_)⟩
        · have z := of_decide_eq_true z
          rw [vg] at z
          have h := p1 (show 0 < n - cnt fs b.1 by omega)
          refine ⟨_, rfl, _, rfl, c1, b.2, es, b.1, n, rfl, rfl, D1g.rd, hs, hv, _, rfl, c2, fs, rfl, D2g.rd, _, rfl, b.2, b.1, 0, fs, rfl, rfl, D2g.rd, hs, _, _, rfl, rfl, _, rfl, _, rfl, c, b.2, _, b.1, _, rfl, rfl, rfl, DG, hs, small, ?_⟩
          have put := DG.put (n := n - cnt fs b.1) hs
          rw [h] at put
          have e : putD (leftE ((sortE es).take i) fs) b.1 b.2 (n - (valD fs b.1).getD 0) = leftE ((sortE es).take (i + 1)) fs := h
          rw [e]
          exact ⟨_, rfl, fun o u q => (upd_ne (ne_of_none q hc)).trans (sG o u q), (upd_ne (ne_of hl DG.hd (by intro q; cases q))).trans hl, put⟩
        · have z : ¬ cnt fs b.1 < n := fun q => z (decide_eq_true q)
          have h := p2 (show ¬ 0 < n - cnt fs b.1 by omega)
          rw [h]
          exact ⟨_, rfl, sG, hl, DG⟩
    · rintro σ G ⟨y3, rfl, sG, hl, DG⟩
      rw [hll, List.take_length] at DG
      exact ⟨_, rfl, q c G hc sG DG⟩
end
abbrev qn : Str := "law" ++ ".<locals>." ++ "<lambda>"
/-! ### the law -/
section
variable {base : Heap} {K : PySem.W.Frag} {mg : Str → Option Value} {w : World}
theorem rows_sub {H : Hp} {as : List Addr} {es : DEs} (R : RowsAt H as es) : ∀ {ys : List V}, (∀ y ∈ ys, y ∈ as.map V.ref) → ∃ bs fs, ys = bs.map V.ref ∧ RowsAt H bs fs ∧ ∀ e ∈ fs, e ∈ es := by
  intro ys
  induction ys with
  | nil => exact fun _ => ⟨[], [], rfl, .nil, fun e he => nomatch he⟩
  | cons y ys ih =>
    intro h
    obtain ⟨j, hj⟩ := List.mem_iff_getElem?.mp (h y List.mem_cons_self)
    obtain ⟨a, e, rfl, he, ha⟩ := R.row hj
    obtain ⟨bs, fs, rfl, R', s'⟩ := ih fun z hz => h z (List.mem_cons_of_mem _ hz)
    refine ⟨a :: bs, e :: fs, rfl, .cons ha R', fun g hg => ?_⟩
    rcases List.mem_cons.mp hg with rfl | hg
    · exact List.mem_of_getElem? he
    · exact s' g hg
/-- what stands through a turn: the two stocks, their heaps -/
structure St (T : Txt K mg) (w : World) (H : Hp) (d : Int) (c1 c2 px py : Addr) (es fs : DEs) : Prop where
  hd : IsRoot d
  D1 : DAt PySem.Challenge.pw_grainyard_k16_sums_of_heaps w H c1 es
  D2 : DAt PySem.Challenge.pw_grainyard_k16_sums_of_heaps w H c2 fs
  n1 : (keysD es).Nodup
  n2 : (keysD fs).Nodup
  w1 : Within (ShB d) (10 ^ 7) es
  w2 : Within (ShB d) (10 ^ 7) fs
  l1 : es.length ≤ 10
  l2 : fs.length ≤ 10
  X : HeapAt PySem.Challenge.pw_grainyard_k16_sums_of_heaps w T.C_Heap H px d (sortE es)
  Y : HeapAt PySem.Challenge.pw_grainyard_k16_sums_of_heaps w T.C_Heap H py d (sortE fs)
theorem St.same {T : Txt K mg} {H H' : Hp} {d : Int} {c1 c2 px py : Addr} {es fs : DEs} (h : St T w H d c1 c2 px py es fs) (s : Same H H') : St T w H' d c1 c2 px py es fs :=
  { h with D1 := h.D1.same s, D2 := h.D2.same s, X := h.X.same s, Y := h.Y.same s }
theorem St.keep {T : Txt K mg} {H H' : Hp} {b sb : Addr} {d : Int} {c1 c2 px py : Addr} {es fs : DEs} (h : St T w H d c1 c2 px py es fs) (B : Bag H b sb) (k : Keep b H H') : St T w H' d c1 c2 px py es fs :=
  { h with D1 := h.D1.keep B k, D2 := h.D2.keep B k, X := h.X.keep B k, Y := h.Y.keep B k }
theorem DAt.extN {H H' : Hp} {c : Addr} {es : DEs} (h : DAt PySem.Challenge.pw_grainyard_k16_sums_of_heaps w H c es) (e : LamX.ExtN H H') : DAt PySem.Challenge.pw_grainyard_k16_sums_of_heaps w H' c es :=
  ⟨e _ _ h.hd (fun _ z => by unfold DS at z; cases z), fun x hx => (h.ks x hx).mono fun _ _ z => tup_extN z e⟩
theorem HeapAt.extN {T : Txt K mg} {H H' : Hp} {p : Addr} {d : Int} {es : DEs} (h : HeapAt PySem.Challenge.pw_grainyard_k16_sums_of_heaps w T.C_Heap H p d es) (e : LamX.ExtN H H') : HeapAt PySem.Challenge.pw_grainyard_k16_sums_of_heaps w T.C_Heap H' p d es := by
  obtain ⟨dx, c, h1, h2⟩ := h
  exact ⟨dx, c, e _ _ h1 (fun _ z => by cases z), h2.extN e⟩
theorem St.extN {T : Txt K mg} {H H' : Hp} {d : Int} {c1 c2 px py : Addr} {es fs : DEs} (h : St T w H d c1 c2 px py es fs) (e : LamX.ExtN H H') : St T w H' d c1 c2 px py es fs :=
  { h with D1 := h.D1.extN e, D2 := h.D2.extN e, X := h.X.extN e, Y := h.Y.extN e }
theorem good_of {d : Int} {es : DEs} (nd : (keysD es).Nodup) (wi : Within (ShB d) (10 ^ 7) es) (l : es.length ≤ 10) : GoodB d 10 (10 ^ 7) (sortE es) := by
  have p := sortE_perm nd
  exact ⟨⟨sortE_up nd, fun e he => (wi e (p.mem_iff.mp he)).2.1⟩, fun e he => wi e (p.mem_iff.mp he), by rw [p.length_eq]; exact l⟩
abbrev R2 (T : Txt K mg) (Q : VK) : XK := Raised2 K T.r_GrainError T.r_GrainMissing Q
theorem thrown_other (T : Txt K mg) {H : Hp} {Q : VK} (q : ∀ p H', Same H H' → H' p = some (.tup [.str "OtherRoot", .non]) → Q (.ref p) H') : Throws T.e_OtherRoot.C otherRoot H (R2 T Q) := fun x Hf nx sf fx => .inl (by
  obtain ⟨cg, hg, _⟩ := T.c_GrainError
  exact raised_er T.e_OtherRoot hg T.t_GrainError T.sb_GrainError (no_one T.x_OtherRoot_word) rfl rfl fx fun H' p s' hp => q p H' (sf.trans s') hp)
theorem thrown_count (T : Txt K mg) {H : Hp} {n : Int} {Q : VK} (q : ∀ p H', Same H H' → H' p = some (.tup [.str "BadCount", .int n]) → Q (.ref p) H') : Throws T.e_BadCount.C (badCount (.int n)) H (R2 T Q) := fun x Hf nx sf fx => .inl (by
  obtain ⟨cg, hg, _⟩ := T.c_GrainError
  exact raised_er T.e_BadCount hg T.t_GrainError T.sb_GrainError (no_two T.x_BadCount_number T.x_BadCount_word) rfl rfl fx fun H' p s' hp => q p H' (sf.trans s') hp)
theorem not_in (G C : Addr) (l : List Value) (h : G ≠ C) (hl : Value.ref G ∉ l) : (Value.ref C :: l).contains (.ref G) = false := by
  rw [Bool.eq_false_iff]
  intro z
  rcases List.mem_cons.mp (List.contains_iff_mem.mp z) with e | e
  · exact h (Value.ref.inj e)
  · exact hl e
theorem thrown_sheet (T : Txt K mg) {H : Hp} {t : Addr} {Q : VK} (q : ∀ p H', Same H H' → H' p = some (.tup [.str "NoSheet", .ref t]) → Q (.ref p) H') : Throws T.e_NoSheet.C (noSheet t) H (R2 T Q) := fun x Hf nx sf fx => .inr (by
  obtain ⟨cg, hg, hn⟩ := T.c_GrainError
  obtain ⟨cm, hm, hk⟩ := T.c_GrainMissing
  have two : T.r_GrainError ≠ T.r_GrainMissing := by
    intro z
    rw [z, hm] at hg
    cases hg
    rw [hn] at hk
    exact absurd hk (by decide +kernel)
  refine ⟨?_, ?_, noSheet t, .ref t, ⟨⟨_, x, rfl, rfl, xfc_of T.e_NoSheet, fx, no_two T.x_NoSheet_sheet T.x_NoSheet_word⟩, rfl⟩, rfl, fun H' p s' hp => q p H' (sf.trans s') hp⟩
  · rw [exm_mro T.e_NoSheet hg T.t_GrainError T.sb_GrainError, not_in _ _ _ (name_ne T.e_NoSheet ⟨cg, hg, hn⟩ (by decide +kernel)) ?_]
    intro z
    rcases List.mem_append.mp z with z | z
    · exact two (Value.ref.inj (List.mem_singleton.mp z))
    · simp at z
  · rw [exm_mro T.e_NoSheet hm T.t_GrainMissing T.sb_GrainMissing]
    congr 1
    simp)
/-- the sheets of which there are not enough -/
def lackE (es fs : DEs) : DEs := fs.filter fun e => decide (cnt es e.1 < e.2.2)
theorem lack_nil {es fs : DEs} (h : lackE es fs = []) : ∀ f ∈ fs, f.2.2 ≤ cnt es f.1 := fun f hf => by
  have := List.filter_eq_nil_iff.mp h f hf
  have z : ¬ cnt es f.1 < f.2.2 := fun q => this (decide_eq_true q)
  omega
theorem lack_head {es fs : DEs} {i : Nat} {f : Sh × Addr × Int} (hf : fs[i]? = some f) (l : cnt es f.1 < f.2.2) (good : ∀ (j : Nat) (g : Sh × Addr × Int), j < i → fs[j]? = some g → g.2.2 ≤ cnt es g.1) : ∃ r, lackE es fs = f :: r := by
  have hi := (List.getElem?_eq_some_iff.mp hf).1
  have e : fs = fs.take i ++ f :: fs.drop (i + 1) := by
    have h1 := (List.getElem?_eq_some_iff.mp hf).2
    rw [← h1, ← List.drop_eq_getElem_cons hi, List.take_append_drop]
  unfold lackE
  rw [e, List.filter_append, List.filter_cons, if_pos (decide_eq_true l)]
  have z : (fs.take i).filter (fun e => decide (cnt es e.1 < e.2.2)) = [] := by
    refine List.filter_eq_nil_iff.mpr fun g hg q => ?_
    obtain ⟨j, hj⟩ := List.mem_iff_getElem?.mp hg
    have jl := (List.getElem?_eq_some_iff.mp hj).1
    rw [List.length_take] at jl
    rw [List.getElem?_take, if_pos (by omega)] at hj
    have := good j g (by omega) hj
    have := of_decide_eq_true q
    omega
  rw [z]
  exact ⟨_, rfl⟩
theorem cnt_sort {es : DEs} (nd : (keysD es).Nodup) (x : Sh) : cnt (sortE es) x = cnt es x := by
  rw [← cnt_wsum (sortE_keys nd), ← cnt_wsum nd, wsum_perm (sortE_perm nd)]
theorem left_ok {d M : Int} {es fs : DEs} (n1 : (keysD es).Nodup) (n2 : (keysD fs).Nodup) (w1 : Within (ShB d) M es) (w2 : Within (ShB d) M fs) (le : ∀ f ∈ fs, f.2.2 ≤ cnt es f.1) :
    (keysD (leftE (sortE es) fs)).Nodup ∧ (leftE (sortE es) fs).length ≤ es.length ∧ Asc (sortE (leftE (sortE es) fs)) ∧ ∀ φ, wsum φ (sortE (leftE (sortE es) fs)) = wsum φ (sortE es) - wsum φ (sortE fs) := by
  have pe := sortE_perm n1
  have nA : (keysD (sortE es)).Nodup := sortE_keys n1
  have sub : (keysD (leftE (sortE es) fs)).Sublist (keysD (sortE es)) := by
    unfold keysD leftE
    have h : (subE (sortE es) fs).map (·.1) = (sortE es).map (·.1) := by
      unfold subE
      rw [List.map_map]
      rfl
    rw [← h]
    exact List.filter_sublist.map _
  have nL := nA.sublist sub
  have posL : ∀ e ∈ leftE (sortE es) fs, 1 ≤ e.2.2 := fun e he => by
    have := of_decide_eq_true (List.mem_filter.mp he).2
    omega
  have pl := sortE_perm nL
  have keys : ∀ x ∈ keysD fs, x ∈ keysD (sortE es) := fun x hx => by
    obtain ⟨f, hf, rfl⟩ := List.mem_map.mp hx
    have h1 := le f hf
    have h2 := (w2 f hf).2.1
    by_cases z : f.1 ∈ keysD (sortE es)
    · exact z
    · exfalso
      rw [← cnt_sort n1] at h1
      unfold cnt at h1
      rw [valD_none.mpr z] at h1
      have h1 : f.2.2 ≤ 0 := h1
      omega
  have nn : ∀ e ∈ subE (sortE es) fs, 0 ≤ e.2.2 := fun e he => by
    obtain ⟨g, hg, rfl⟩ := List.mem_map.mp he
    show 0 ≤ g.2.2 - cnt fs g.1
    have hg' := pe.mem_iff.mp hg
    have h0 := (w1 g hg').2.1
    cases z : valD fs g.1 with
    | none =>
      unfold cnt
      rw [z]
      show 0 ≤ g.2.2 - 0
      omega
    | some m =>
      obtain ⟨f, hf, f1, f2⟩ := valD_some z
      have h2 := le f hf
      have h3 : cnt es f.1 = g.2.2 := by
        unfold cnt
        rw [f1, valD_mem n1 hg']
        rfl
      have h4 : cnt fs g.1 = f.2.2 := by
        unfold cnt
        rw [z, f2]
        rfl
      omega
  refine ⟨nL, ?_, ⟨sortE_up nL, fun e he => posL e (pl.mem_iff.mp he)⟩, fun φ => ?_⟩
  · have := List.length_filter_le posE (subE (sortE es) fs)
    have l2 : (subE (sortE es) fs).length = (sortE es).length := by
      unfold subE
      rw [List.length_map]
    rw [pe.length_eq] at l2
    unfold leftE
    omega
  · rw [wsum_perm pl, wsum_perm (sortE_perm n2)]
    unfold leftE
    rw [pos_wsum φ nn, subE_wsum, wk_all φ nA n2 keys]
def timesE (n : Int) (es : DEs) : DEs := if 0 < n then scaleE n es else []
theorem timesE_wsum {n : Int} (n0 : 0 ≤ n) (φ : Sh → Int) (es : DEs) : wsum φ (timesE n es) = n * wsum φ es := by
  unfold timesE
  by_cases z : 0 < n
  · rw [if_pos z, scaleE_wsum]
  · rw [if_neg z, show n = 0 by omega, Int.zero_mul]
    rfl
theorem timesE_next {n : Int} {es : DEs} {i : Nat} {e : Sh × Addr × Int} (he : es[i]? = some e) : timesE n (es.take (i + 1)) = timesE n (es.take i) ++ if 0 < n then [(e.1, e.2.1, e.2.2 * n)] else [] := by
  unfold timesE
  by_cases z : 0 < n
  · rw [if_pos z, if_pos z, if_pos z, List.take_add_one, he]
    unfold scaleE
    rw [List.map_append]
    rfl
  · rw [if_neg z, if_neg z, if_neg z]
    rfl
theorem timesE_in {d n : Int} {es : DEs} (w : Within (ShB d) (10 ^ 7) es) (n1 : n < 10 ^ 9) : Within (ShB d) (10 ^ 16) (timesE n es) := by
  unfold timesE
  by_cases z : 0 < n
  · rw [if_pos z]
    intro e he
    obtain ⟨f, hf, rfl⟩ := List.mem_map.mp he
    obtain ⟨w1, w2, w3⟩ := w f hf
    have lo := Int.mul_pos (show 0 < f.2.2 by omega) z
    have hi := Int.mul_le_mul w3 (show n ≤ 10 ^ 9 by omega) (by omega) (by decide)
    refine ⟨w1, ?_, ?_⟩
    · show 1 ≤ f.2.2 * n
      omega
    · show f.2.2 * n ≤ 10 ^ 16
      omega
  · rw [if_neg z]
    exact fun e he => nomatch he
theorem timesE_len (n : Int) (es : DEs) : (timesE n es).length ≤ es.length := by
  unfold timesE scaleE
  split
  · rw [List.length_map]
    exact Nat.le_refl _
  · exact Nat.zero_le _
theorem data_list {α : Type} {H : Hp} {l : Addr} {zs : List α} {f : α → V} {g : α → PyData} (h : H l = some (.lst (zs.map f))) (hz : ∀ z ∈ zs, Dp K H (f z) (g z)) : Dp K H (.ref l) (.list (zs.map g)) := by
  refine .lst (SqL.of h) ?_
  clear h
  induction zs with
  | nil => exact .nil
  | cons z zs ih => exact .cons (hz z List.mem_cons_self) (ih fun y hy => hz y (List.mem_cons_of_mem _ hy))
theorem data_all {ds : List PyData} (h : ∀ d ∈ ds, d.canLay0 = true ∧ d.depth ≤ 3) : SeqAt.shaped (.list ds) = true := by
  have all : ∀ ds : List PyData, (∀ d ∈ ds, d.canLay0 = true ∧ d.depth ≤ 3) → PyData.canLayAll0 ds = true ∧ PyData.depthAll ds ≤ 3 := by
    intro ds
    induction ds with
    | nil => exact fun _ => ⟨by simp [PyData.canLayAll0], by simp [PyData.depthAll]⟩
    | cons d ds ih =>
      intro h
      obtain ⟨r1, r2⟩ := h d List.mem_cons_self
      obtain ⟨r3, r4⟩ := ih fun e he => h e (List.mem_cons_of_mem _ he)
      exact ⟨by simp [PyData.canLayAll0, r1, r3], by simp only [PyData.depthAll]; omega⟩
  obtain ⟨h1, h2⟩ := all ds h
  unfold SeqAt.shaped
  rw [Bool.and_eq_true]
  refine ⟨by simp [PyData.canLay0, h1], decide_eq_true ?_⟩
  simp only [PyData.depth]
  omega
theorem data_nil {ds : List PyData} : PyData.eqv (.list ds) (.list []) = ds.isEmpty := by
  cases ds with
  | nil => simp [PyData.eqv, PyData.eqvAll]
  | cons e es => simp [PyData.eqv, PyData.eqvAll]
theorem encS_ok (x : Sh) : (encS x).canLay0 = true ∧ (encS x).depth ≤ 3 := by
  unfold encS
  exact ⟨by simp [PyData.canLay0, PyData.canLayAll0], by simp [PyData.depth, PyData.depthAll]⟩
theorem word_dp {H : Hp} {p : Addr} {s : Str} {v : V} {d : PyData} (h : H p = some (.tup [.str s, v])) (hv : Dp K H v d) : Dp K H (.ref p) (.tuple [.str s, d]) := .tup (SqT.of h) (.cons (.str _) (.cons hv .nil))
theorem word_shaped (x : Sh) : SeqAt.shaped (.tuple [.str "NoSheet", encS x]) = true := by
  have s : PyData.strOk "NoSheet" = true := by decide +kernel
  unfold encS SeqAt.shaped
  simp [PyData.canLay0, PyData.canLayAll0, PyData.depth, PyData.depthAll, s]
theorem word_same (s : Str) (x : Sh) : PyData.eqv (.tuple [.str s, encS x]) (.tuple [.str s, encS x]) = true := PySem.SeqAt.eqv_refl_plain _ (by simp [encS, PyData.plain, PyData.plainAll])
/-- over a list, by what holds after so many of its items -/
theorem lcK_list {a : Addr} {xs : List V} {g : TG} {te : TE} {vs : List Nat} {σ : L2.St} {H1 : Hp} {D : Addr} {Qd : Hp → Prop} (Pv : Nat → Hp → Prop) (h0 : Pv 0 (upd H1 D (.lst []))) (hl : ∀ i G, Pv i G → SqL K G a xs)
    (hs : ∀ (i : Nat) (x : V) (G : Hp) (N : Hp → Prop), xs[i]? = some x → Pv i G → (∀ G', Pv (i + 1) G' → N G') → TurnK g te vs σ D N x G) (hd : ∀ G, Pv xs.length G → Qd G) :
    ∃ W : Nat → Nat → Hp → Prop, (∃ m, W 0 m (upd H1 D (.lst []))) ∧ ∀ i m G1, W i m G1 → ((Itl K a).stop i G1 ∧ Qd G1) ∨ ((Itl K a).go i G1 ∧ ∀ x G2, (Itl K a).yld i G1 x G2 → TurnK g te vs σ D (fun G3 => ∃ m', m' < m ∧ W (i + 1) m' G3) x G2) := by
  refine ⟨fun i m G => i + m = xs.length ∧ Pv i G, ⟨xs.length, Nat.zero_add _, h0⟩, fun i m G1 z => ?_⟩
  obtain ⟨im, p⟩ := z
  cases m with
  | zero =>
    cases (show i = xs.length from im)
    exact .inl ⟨⟨xs, hl _ _ p, Nat.le_refl _⟩, hd _ p⟩
  | succ m =>
    have lt : i < xs.length := by omega
    refine .inr ⟨⟨xs, xs[i], hl _ _ p, List.getElem?_eq_getElem lt⟩, fun x G2 y => ?_⟩
    obtain ⟨rfl, y⟩ := y
    exact hs i x _ _ (y xs (hl _ _ p)) p fun G' p' => ⟨m, Nat.lt_succ_self m, by omega, p'⟩
/-- the numbers that are not d -/
def othersOf (d : Int) (l : List Int) : List Int := l.filter fun z => !decide (z = d)
def spLaw (K : PySem.W.Frag) (P0 : Addr) : Sp := fun vs H Q _ => ∃ (a : Addr) (ns : List Int), vs = [.ref a] ∧ SqL K H a (ns.map V.int) ∧ ns.length ≤ 63 ∧ H P0 = some (.tbl #[]) ∧ ∀ H', Q (.bl true) H'
theorem ok_law {f c P0 : Addr} {oc kV doc pm ct : Value} {od an : Option Addr} {osl : Array (Option Value)} (lk : K.lookup f = some ⟨oc, od, .func (PySem.W.fnOf "law" "law" (defArgs s_law) (defBody s_law) (defScope s_law) .none kV doc pm an (.ref c) ct), osl⟩) (hcd : PySem.W.codeIn K (.ref c) "law" = true)
    (TB : LamX.TabB base mg c P0) (T : Txt K mg) : FnOk PySem.Challenge.pw_grainyard_k16_sums_of_heaps w K mg base CX0 18 f (PySem.W.fnOf "law" "law" (defArgs s_law) (defBody s_law) (defScope s_law) .none kV doc pm an (.ref c) ct) ["_law_script"] (spLaw K P0) := by
  refine fn_of lk hcd sc_law (fun vs H Q E h => ?_) (fun A outer s H vs Q E hr h => ?_)
  · obtain ⟨a, ns, rfl, _⟩ := h
    rfl
  · obtain ⟨a, ns, rfl, hS, hlen, hP, q⟩ := h
    refine ⟨_, PSs.nox (pss_cons (ps_set (i := 1) sc_law.nd rfl (Or.inl rfl) (pe_call (ok_source T) (hr.mono (by decide)) (by rfl) T.g_source T.F_source.kp T.b_source .nil pass0 (pa_cons (pv 0) pa_nil)))
      (Evl.pss_cut (ps_for PassesOwn.never rfl (pi_range1 (by rfl) T.n_range (pa_cons pe_int pa_nil)) (pg_name (i := 2) sc_law.nd rfl (Or.inl rfl)) (pss_cons (ps_set (i := 3) sc_law.nd rfl (Or.inr rfl) (pe_call (ok_a_root T) (hr.mono (by decide)) (by rfl) T.g_a_root T.F_a_root.kp T.b_a_root .nil pass0 (pa_cons (pv 1) pa_nil)))
      (pss_cons (ps_set (i := 4) sc_law.nd rfl (Or.inl rfl) (pe_call (ok_some_rows T) (hr.mono (by decide)) (by rfl) T.g_some_rows T.F_some_rows.kp T.b_some_rows .nil pass0 (pa_cons (pv 1) (pa_cons (pv 3) (pa_cons pe_int pa_nil)))))
      (pss_cons (ps_asg (pe_tup (pa_cons (pe_call (ok_stock_of T) (hr.mono (by decide)) (by rfl) T.g_stock_of T.F_stock_of.kp T.b_stock_of .nil pass0 (pa_cons (pv 4) pa_nil)) (pa_cons (pe_call (ok_stock_of T) (hr.mono (by decide)) (by rfl) T.g_stock_of T.F_stock_of.kp T.b_stock_of .nil pass0 (pa_cons (pe_op op_cat (pe_slice sl_list (pe_call (ok_mixed T) (hr.mono (by decide)) (by rfl) T.g_mixed T.F_mixed.kp T.b_mixed .nil pass0 (pa_cons (pv 1) (pa_cons (pv 4) pa_nil))) po_none (po_some pe_int)) (pe_call (ok_some_rows T) (hr.mono (by decide)) (by rfl) T.g_some_rows T.F_some_rows.kp T.b_some_rows .nil pass0 (pa_cons (pv 1) (pa_cons (pv 3) (pa_cons pe_int pa_nil))))) pa_nil)) pa_nil))) (pg_tup (by rfl) (pgs_cons (pg_name (i := 13) sc_law.nd rfl (Or.inr rfl)) (pgs_cons (pg_name (i := 14) sc_law.nd rfl (Or.inr rfl)) pgs_nil))))
      (pss_cons (ps_asg (pe_tup (pa_cons (pe_call (ok_heap_of T) (hr.mono (by decide)) (by rfl) T.g_heap_of T.F_heap_of.kp T.b_heap_of .nil pass0 (pa_cons (pv 3) (pa_cons (pv 13) pa_nil))) (pa_cons (pe_call (ok_heap_of T) (hr.mono (by decide)) (by rfl) T.g_heap_of T.F_heap_of.kp T.b_heap_of .nil pass0 (pa_cons (pv 3) (pa_cons (pv 14) pa_nil))) pa_nil))) (pg_tup (by rfl) (pgs_cons (pg_name (i := 15) sc_law.nd rfl (Or.inr rfl)) (pgs_cons (pg_name (i := 16) sc_law.nd rfl (Or.inr rfl)) pgs_nil))))
      (Evl.pss_cut (ps_if (pt_not (pt_val (pe_call (ok_is_heap T) (hr.mono (by decide)) (by rfl) T.g_is_heap T.F_is_heap.kp T.b_is_heap .nil pass0 (pa_cons (pe_op (op_bin T.m_Heap_add T.sf_Heap (ok_Heap_add T) (hr.mono (by decide)) T.b_Heap_add pass_never) (pv 15) (pv 16)) (pa_cons (pv 3) (pa_cons (pe_call (ok_stock_of T) (hr.mono (by decide)) (by rfl) T.g_stock_of T.F_stock_of.kp T.b_stock_of .nil pass0 (pa_cons (pe_op op_cat (pe_call (ok_listed T) (hr.mono (by decide)) (by rfl) T.g_listed T.F_listed.kp T.b_listed .nil pass0 (pa_cons (pv 13) pa_nil)) (pe_call (ok_listed T) (hr.mono (by decide)) (by rfl) T.g_listed T.F_listed.kp T.b_listed .nil pass0 (pa_cons (pv 14) pa_nil))) pa_nil)) pa_nil)))))) (pss_one (ps_ret pe_bl)) pss_nil)
      (pss_cons (ps_setLc (i := 5) (own := [("_law_sheet", 17)]) (g := (gName 17)) (tt := tTest (tOp (rI0 fun i j => .bl (decide (i < j))) (tSGet2 PySem.Challenge.pw_grainyard_k16_sums_of_heaps w (tVar 13) (tVar 17) (tC (.int 0))) (tSGet PySem.Challenge.pw_grainyard_k16_sums_of_heaps w (tVar 14) (tVar 17)))) (by rfl) sc_law.nd rfl rfl (sw_true rfl rfl rfl (by decide +kernel)) (pi_list (pe_callB (cr_sortedLS hr.units) (by rfl) T.n_sorted (by decide +kernel) (pa_cons (pe_callTy (call_list_DS rfl) (by rfl) T.n_list (by decide +kernel) (pa_cons (pv 14) pa_nil)) pa_nil))) (blkOk_by (own := [("_law_sheet", 17)]) (N := ["_law_script", "_law_bag", "_law_turn", "_law_root", "_law_rows", "_law_lack", "_law_found", "_law_size", "_law_due", "_law_other", "_law_blank", "_law_asks", "_law_bad", "_law_one", "_law_two", "_law_x", "_law_y", "_law_sheet", "_law_ask", "_law_d"]) (sc := defScope s_law) (by decide +kernel)) (fun _ _ _ _ _ => (pg_name (i := 17) sc_law.nd rfl (Or.inl rfl))) (fun _ _ _ _ _ => (pts_one (pt_cmpR op_lt (pe_sget2 hr.units (pv 13) (pv 17) pe_int ⟨rfl, rfl, rfl, rfl⟩) (pe_sget hr.units (pv 14) (pv 17) (fun _ _ => rfl)) (nomark _)))) (fun _ _ _ _ _ => (pv 17)))
      (Evl.pss_cut (ps_set (i := 6) sc_law.nd rfl (Or.inl rfl) (pe_try (t := fun E => tOp (rOwn2 T.C_Heap (spHSub T w) E) (tVar 15) (tVar 16)) (k := 13) T (by rfl) TB rfl (hr.mono (by decide)) (LamX.lamS_by (sc := defScope s_law) (by decide +kernel)) rfl (fun _ _ _ _ _ => rfl) (fun A outer s H E f c' hr2 => (pe_op (op_bin T.m_Heap_sub T.sf_Heap (ok_Heap_sub (w := w) T) (hr2.mono (by decide)) T.b_Heap_sub (passes_call (takes_of rfl rfl rfl rfl) (fun _ _ _ _ h => h))) (pv 15) (pv 16)))))
      (Evl.pss_cut (ps_if (pt_cmpR (op_neD hr.units) (pv 5) (pe_lst pa_nil) (nomark _)) (pss_one (ps_if (pt_cmpR (op_neD hr.units) (pv 6) (pe_tup (pa_cons pe_str (pa_cons (pe_ix ix_list (pv 5) pe_int (fun _ _ => rfl)) pa_nil))) (nomark _)) (pss_one (ps_ret pe_bl)) pss_nil)) (pss_one (ps_if (PW.pt (pw_or (pt_cmpR op_ne (pe_ix ix_tup (pv 6) pe_int (fun _ _ => rfl)) pe_str (nomark _)) (pw_or1 (pt_not (pt_val (pe_call (ok_is_heap T) (hr.mono (by decide)) (by rfl) T.g_is_heap T.F_is_heap.kp T.b_is_heap .nil pass0 (pa_cons (pe_ix ix_tup (pv 6) pe_int (fun _ _ => rfl)) (pa_cons (pv 3) (pa_cons (pe_call (ok_without T) (hr.mono (by decide)) (by rfl) T.g_without T.F_without.kp T.b_without .nil pass0 (pa_cons (pv 13) (pa_cons (pv 14) pa_nil))) pa_nil))))))))) (pss_one (ps_ret pe_bl)) pss_nil)))
      (Evl.pss_cut (ps_set (i := 7) sc_law.nd rfl (Or.inr rfl) (pe_call (ok_of T) (hr.mono (by decide)) (by rfl) T.g_of T.F_of.kp T.b_of .nil pass0 (pa_cons (pv 1) (pa_cons (pe_lst (pa_cons pe_int (pa_cons pe_int (pa_cons pe_int (pa_cons (pe_call (ok_pull T) (hr.mono (by decide)) (by rfl) T.g_pull T.F_pull.kp T.b_pull .nil pass0 (pa_cons (pv 1) (pa_cons (pe_op op_pow pe_int pe_int) pa_nil))) pa_nil))))) pa_nil))))
      (pss_cons (ps_set (i := 8) sc_law.nd rfl (Or.inl rfl) (pe_call (ok_stock_of T) (hr.mono (by decide)) (by rfl) T.g_stock_of T.F_stock_of.kp T.b_stock_of .nil pass0 (pa_cons (pe_lc (own := [("_law_sheet", 17)]) (g := (gName 17)) (tt := tTest (tOp (rI0 fun i j => .bl (decide (j < i))) (tVar 7) (tC (.int 0)))) (te := tTup (tCons (tVar 17) (tCons (tOp _ (tSGet PySem.Challenge.pw_grainyard_k16_sums_of_heaps w (tVar 13) (tVar 17)) (tVar 7)) tNil))) (by rfl) sc_law.nd (pi_list (pe_callB (cr_sortedLS hr.units) (by rfl) T.n_sorted (by decide +kernel) (pa_cons (pe_callTy (call_list_DS rfl) (by rfl) T.n_list (by decide +kernel) (pa_cons (pv 13) pa_nil)) pa_nil))) (blkOk_by (own := [("_law_sheet", 17)]) (N := ["_law_script", "_law_bag", "_law_turn", "_law_root", "_law_rows", "_law_lack", "_law_found", "_law_size", "_law_due", "_law_other", "_law_blank", "_law_asks", "_law_bad", "_law_one", "_law_two", "_law_x", "_law_y", "_law_sheet", "_law_ask", "_law_d"]) (sc := defScope s_law) (by decide +kernel)) (fun _ _ _ _ _ => (pg_name (i := 17) sc_law.nd rfl (Or.inl rfl))) (fun _ _ _ _ _ => (pts_one (pt_cmpR op_gt (pv 7) pe_int (nomark _)))) (fun _ _ _ _ _ => (pe_tup (pa_cons (pv 17) (pa_cons (pe_op op_mul (pe_sget hr.units (pv 13) (pv 17) (fun _ _ => rfl)) (pv 7)) pa_nil))))) pa_nil)))
      (Evl.pss_cut (ps_if (pt_not (pt_val (pe_call (ok_is_heap T) (hr.mono (by decide)) (by rfl) T.g_is_heap T.F_is_heap.kp T.b_is_heap .nil pass0 (pa_cons (pe_op (op_binI T.m_Heap_mul T.sf_Heap T.x_Heap_rmul T.i_mul T.i_rmul T.is_Heap (ok_Heap_mul T) (hr.mono (by decide)) T.b_Heap_mul pass_never) (pv 15) (pv 7)) (pa_cons (pv 3) (pa_cons (pv 8) pa_nil)))))) (pss_one (ps_ret pe_bl)) pss_nil)
      (Evl.pss_cut (ps_set (i := 9) sc_law.nd rfl (Or.inr rfl) (pe_make T.M_Heap (ok_Heap_init T) (hr.mono (by decide)) (by rfl) T.g_Heap T.b_Heap_init .nil pass_never (pa_cons (pe_call (ok_of T) (hr.mono (by decide)) (by rfl) T.g_of T.F_of.kp T.b_of .nil pass0 (pa_cons (pv 1) (pa_cons (pe_lc (own := [("_law_d", 19)]) (g := (gName 19)) (by rfl) sc_law.nd (pi_tup (pe_tup (pa_cons pe_int (pa_cons pe_int (pa_cons pe_int pa_nil))))) (blkOk_by (own := [("_law_d", 19)]) (N := ["_law_script", "_law_bag", "_law_turn", "_law_root", "_law_rows", "_law_lack", "_law_found", "_law_size", "_law_due", "_law_other", "_law_blank", "_law_asks", "_law_bad", "_law_one", "_law_two", "_law_x", "_law_y", "_law_sheet", "_law_ask", "_law_d"]) (sc := defScope s_law) (by decide +kernel)) (fun _ _ _ _ _ => (pg_name (i := 19) sc_law.nd rfl (Or.inl rfl))) (fun _ _ _ _ _ => (pts_one (pt_cmpR op_ne (pv 19) (pv 3) (nomark _)))) (fun _ _ _ _ _ => (pv 19))) pa_nil))) (pa_cons (pe_lst (pa_cons (pe_tup (pa_cons (pe_tup (pa_cons (pe_tup (pa_cons pe_int (pa_cons pe_int pa_nil))) (pa_cons (pe_tup (pa_cons pe_int (pa_cons pe_int pa_nil))) pa_nil))) (pa_cons pe_int pa_nil))) pa_nil)) pa_nil))))
      (pss_cons (ps_set (i := 10) sc_law.nd rfl (Or.inr rfl) (pe_make T.M_Heap (ok_Heap_init T) (hr.mono (by decide)) (by rfl) T.g_Heap T.b0_Heap_init T.v0_Heap_init pass_never (pa_cons (pe_prop (pv 9) T.cl_Heap T.pr_Heap_root (ok_Heap_root T) (hr.mono (by decide)) T.b_Heap_root .nil pass0 rfl) pa_nil)))
      (pss_cons (ps_set (i := 11) sc_law.nd rfl (Or.inl rfl) (pe_lst (pa_cons (pe_mk0 TB rfl (List.mem_singleton.mpr rfl) one_tab rfl (LamX.lamS_by (sc := defScope s_law) (by decide +kernel))) (pa_cons (pe_mkD (b := "_law_a") TB rfl (List.mem_singleton.mpr rfl) one_tab rfl rfl pe_int (LamD.mk (N := ["_law_script", "_law_bag", "_law_turn", "_law_root", "_law_rows", "_law_lack", "_law_found", "_law_size", "_law_due", "_law_other", "_law_blank", "_law_asks", "_law_bad", "_law_one", "_law_two", "_law_x", "_law_y", "_law_sheet", "_law_ask", "_law_d"]) (sc := defScope s_law) rfl rfl rfl rfl (by decide +kernel) (by decide +kernel))) (pa_cons (pe_mkD (b := "_law_b") TB rfl (List.mem_singleton.mpr rfl) one_tab rfl rfl pe_int (LamD.mk (N := ["_law_script", "_law_bag", "_law_turn", "_law_root", "_law_rows", "_law_lack", "_law_found", "_law_size", "_law_due", "_law_other", "_law_blank", "_law_asks", "_law_bad", "_law_one", "_law_two", "_law_x", "_law_y", "_law_sheet", "_law_ask", "_law_d"]) (sc := defScope s_law) rfl rfl rfl rfl (by decide +kernel) (by decide +kernel))) (pa_cons (pe_mkD (b := "_law_c") TB rfl (List.mem_singleton.mpr rfl) one_tab rfl rfl pe_int (LamD.mk (N := ["_law_script", "_law_bag", "_law_turn", "_law_root", "_law_rows", "_law_lack", "_law_found", "_law_size", "_law_due", "_law_other", "_law_blank", "_law_asks", "_law_bad", "_law_one", "_law_two", "_law_x", "_law_y", "_law_sheet", "_law_ask", "_law_d"]) (sc := defScope s_law) rfl rfl rfl rfl (by decide +kernel) (by decide +kernel))) pa_nil))))))
      (pss_cons (ps_set (i := 11) sc_law.nd rfl (Or.inl rfl) (pe_op op_cat (pv 11) (pe_lst (pa_cons (pe_mk0 TB rfl (List.mem_singleton.mpr rfl) one_tab rfl (LamX.lamS_by (sc := defScope s_law) (by decide +kernel))) (pa_cons (pe_mkD (b := "_law_a") TB rfl (List.mem_singleton.mpr rfl) one_tab rfl rfl pe_int (LamD.mk (N := ["_law_script", "_law_bag", "_law_turn", "_law_root", "_law_rows", "_law_lack", "_law_found", "_law_size", "_law_due", "_law_other", "_law_blank", "_law_asks", "_law_bad", "_law_one", "_law_two", "_law_x", "_law_y", "_law_sheet", "_law_ask", "_law_d"]) (sc := defScope s_law) rfl rfl rfl rfl (by decide +kernel) (by decide +kernel))) pa_nil)))))
      (pss_cons (ps_if (pt_cmpR (op_neD hr.units) (pe_lcK (own := [("_law_ask", 18)]) (g := (gName 18)) (by rfl) sc_law.nd (pi_list (pv 11)) (blkOk_by (own := [("_law_ask", 18)]) (N := ["_law_script", "_law_bag", "_law_turn", "_law_root", "_law_rows", "_law_lack", "_law_found", "_law_size", "_law_due", "_law_other", "_law_blank", "_law_asks", "_law_bad", "_law_one", "_law_two", "_law_x", "_law_y", "_law_sheet", "_law_ask", "_law_d"]) (sc := defScope s_law) (by decide +kernel)) (fun _ _ _ _ _ => (pg_name (i := 18) sc_law.nd rfl (Or.inl rfl))) (fun _ _ _ _ _ _ inn => pe_tryK (k := 13) T inn (by rfl) (hr.mono (by decide)) (pv 18))) (pe_op op_rep (pe_lst (pa_cons (pe_tup (pa_cons pe_str (pa_cons pe_non pa_nil))) pa_nil)) pe_int) (nomark _)) (pss_one (ps_ret pe_bl)) pss_nil)
      (Evl.pss_cut (ps_set (i := 12) sc_law.nd rfl (Or.inr rfl) (pe_op op_sub (pe_op op_sub pe_int pe_int) (pe_call (ok_pull T) (hr.mono (by decide)) (by rfl) T.g_pull T.F_pull.kp T.b_pull .nil pass0 (pa_cons (pv 1) (pa_cons pe_int pa_nil)))))
      (pss_cons (ps_if (pt_cmpR (op_neD hr.units) (pe_try (t := fun E => tOp (rOwnI T.C_Heap (spHMul T w) E) (tVar 15) (tVar 12)) (k := 13) T (by rfl) TB rfl (hr.mono (by decide)) (LamX.lamS_by (sc := defScope s_law) (by decide +kernel)) rfl (fun _ _ _ _ _ => rfl) (fun A outer s H E f c' hr2 => (pe_op (op_binI T.m_Heap_mul T.sf_Heap T.x_Heap_rmul T.i_mul T.i_rmul T.is_Heap (ok_Heap_mul (w := w) T) (hr2.mono (by decide)) T.b_Heap_mul (passes_call (takes_of rfl rfl rfl rfl) (fun _ _ _ _ h => h))) (pv 15) (pv 12)))) (pe_tup (pa_cons pe_str (pa_cons (pv 12) pa_nil))) (nomark _)) (pss_one (ps_ret pe_bl)) pss_nil)
      (pss_one (ps_if (PW.pt (pw_or (pt_not (pt_val (pe_call (ok_is_heap T) (hr.mono (by decide)) (by rfl) T.g_is_heap T.F_is_heap.kp T.b_is_heap .nil pass0 (pa_cons (pv 15) (pa_cons (pv 3) (pa_cons (pv 13) pa_nil)))))) (pw_or1 (pt_not (pt_val (pe_call (ok_is_heap T) (hr.mono (by decide)) (by rfl) T.g_is_heap T.F_is_heap.kp T.b_is_heap .nil pass0 (pa_cons (pv 16) (pa_cons (pv 3) (pa_cons (pv 14) pa_nil))))))))) (pss_one (ps_ret pe_bl)) pss_nil)))))))))))))))))))))
      (pss_one (ps_ret pe_bl)))), ?_⟩
    refine ⟨_, rfl, a, ns, rfl, hS, hlen, fun b sb H1 nb s1 B1 => ?_⟩
    have tb1 : LamX.Tabs [(P0, qn)] H1 := fun p hp => by
      rw [List.mem_singleton.mp hp]
      exact LamX.TabS.nil (s1 _ _ hP)
    refine ⟨fun σ H' => True, ?_, ?_⟩
    case refine_2 =>
      rintro σ H2 -
      exact q _
    refine ⟨5, rfl, by decide, by decide, for_range (lo := 0) (n := 5) (fun i σ H' => ∃ y2 y3 y4 y5 y6 y7 y8 y9 y10 y11 y12 y13 y14 y15 y16 y17 y18 y19, σ = [some (.ref a), some (.ref b), y2, y3, y4, y5, y6, y7, y8, y9, y10, y11, y12, y13, y14, y15, y16, y17, y18, y19] ∧ Bag H' b sb ∧ LamX.Tabs [(P0, qn)] H') ⟨none, none, none, none, none, none, none, none, none, none, none, none, none, none, none, none, none, none, rfl, B1, tb1⟩ ?_ fun _ _ _ => trivial⟩
    rintro i σ H2 hi ⟨y2, y3, y4, y5, y6, y7, y8, y9, y10, y11, y12, y13, y14, y15, y16, y17, y18, y19, rfl, B2, tb2⟩
    refine ⟨_, rfl, b, sb, rfl, B2, fun d H3 hd B3 k3 => ?_⟩
    refine ⟨_, rfl, _, rfl, b, sb, d, 5, rfl, B3, hd, by decide, by decide, fun l0 rs H4 n4 R4 wi4 ln4 B4 k4 => ?_⟩
    have tb4 := tabs_keep (tabs_keep tb2 B2 k3) B3 k4
    have ln4 : rs.length ≤ 5 := by omega
    obtain ⟨as, hl4, Ra, hk⟩ := id R4
    have la : as.length = rs.length := Ra.len
    have nl0 : l0 ≠ b := B3.ne n4
    clear B2 B3 k3 k4 tb2
    refine ⟨_, rfl, l0, rs, rfl, R4, by omega, fun c1 H5 n5 s5 D5 => ?_⟩
    have B5 := B4.same s5
    refine ⟨_, rfl, _, rfl, b, sb, l0, as.map V.ref, rfl, B5, s5 _ _ hl4, nl0, by rw [List.length_map]; omega, fun l1 ys H6 n6 pm hl6 B6 k6 => ?_⟩
    refine ⟨2, rfl, l1, ys, rfl, SqL.of hl6, fun l2 n2 => ?_⟩
    have e2 := same_new (o := .lst (cutV ys none (some 2))) n2
    have B7 := B6.new (o := .lst (cutV ys none (some 2))) n2
    refine ⟨_, rfl, _, rfl, b, sb, d, 2, rfl, B7, hd, by decide, by decide, fun l3 ts H8 n8 R8 wi8 ln8 B8 k8 => ?_⟩
    obtain ⟨bs, us, eb, Rb, sub⟩ := rows_sub (Ra.mono fun _ _ z => s5 _ _ z) (ys := cutV ys none (some 2)) fun y hy => pm.mem_iff.mp (List.mem_of_mem_drop (List.mem_of_mem_take hy))
    have lu : us.length ≤ 5 := by
      have z1 := cutV_length ys none (some 2)
      have z2 := pm.length_eq
      have z3 := Rb.len
      rw [eb, List.length_map] at z1
      rw [List.length_map] at z2
      omega
    have nl2 : l2 ≠ b := B6.ne n2
    have h2 : H8 l2 = some (.lst (bs.map V.ref)) := by
      rw [← eb]
      exact k8 _ _ nl2 upd_same
    have tk := tup_keep B5 k6
    have tk2 := tup_keep B7 k8
    have Rb8 : RowsAt H8 bs us := Rb.mono fun p xs z => tk2 _ _ (e2 _ _ (tk _ _ z))
    have kb8 : ∀ e ∈ us, ShAt H8 e.2.1 e.1 := fun e he => (((hk e (sub e he)).same s5).mono tk).same e2 |>.mono tk2
    have R2 : RowsL H8 l2 us := ⟨bs, h2, Rb8, kb8⟩
    obtain ⟨cs, h3, Rc, kc⟩ := id R8
    obtain ⟨xs, g1, g2, g3⟩ := R2.more (L := l3) (bs := cs) (fs := ts) Rc kc h3
    cases h2.symm.trans g1
    have lc := Rc.len
    have lb2 := Rb.len
    refine ⟨l2, l3, _, _, rfl, rfl, h2, h3, ?_, fun l4 n4' => ?_⟩
    · rw [List.length_map, List.length_map]
      exact Nat.le_of_lt (small1000 (by omega))
    have e4 := same_new (o := .lst (bs.map V.ref ++ cs.map V.ref)) n4'
    have W4 : Within (ShB d) (10 ^ 6) (us ++ ts) := fun e he => (List.mem_append.mp he).elim (fun he => wi4 e (sub e he)) (wi8 e)
    have L4 : (us ++ ts).length ≤ 7 := by
      rw [List.length_append]
      omega
    refine ⟨l4, us ++ ts, rfl, g3 l4 n4', by omega, fun c2 H9 n9 s9 D9 => ?_⟩
    refine ⟨by show 2 ≤ sizeLine; decide, fun t0 nt0 => ⟨t0, _, rfl, SqT.of upd_same, rfl, .ref c1, _, rfl, .ref c2, _, rfl, rfl, ?_⟩⟩
    have e9 := same_new (o := .tup [.ref c1, .ref c2]) nt0
    have k59 : Keep b H5 _ := k6.trans ((keep_of e2).trans (k8.trans ((keep_of e4).trans ((keep_of s9).trans (keep_of e9)))))
    have B9 := (((B8.same e4).same s9).same e9)
    have D1 := D5.keep B5 k59
    have D2 := D9.same e9
    have tb6 := tabs_keep (tb4.ext s5) B5 k6
    have tb8 := tabs_keep (tb6.ext e2) B7 k8
    have tb9 := ((tb8.ext e4).ext s9).ext e9
    clear tb4 tb6 tb8 e2 e4 s9 k6 k8 B7 B6 B8 R2 R8 h2 h3 Rb Rb8 Rc kc kb8 g3 tk tk2 e9 D5 D9 k59
    have n1 := merge_nodup rs
    have n2' := merge_nodup (us ++ ts)
    have w1 : Within (ShB d) (10 ^ 7) (mergeD rs) := (merge_within (by decide) wi4).up (by omega)
    have w2 : Within (ShB d) (10 ^ 7) (mergeD (us ++ ts)) := (merge_within (by decide) W4).up (by omega)
    have l1' : (mergeD rs).length ≤ 10 := Nat.le_trans (merge_len rs) (by omega)
    have l2' : (mergeD (us ++ ts)).length ≤ 10 := Nat.le_trans (merge_len (us ++ ts)) (by omega)
    generalize mergeD rs = es at D1 n1 w1 l1'
    generalize mergeD (us ++ ts) = fs at D2 n2' w2 l2'
    refine ⟨_, rfl, _, rfl, c1, d, _, es, rfl, hd, D1, n1, w1, by omega, fun px HA nA sA X1 => ?_⟩
    refine ⟨_, rfl, _, rfl, c2, d, _, fs, rfl, hd, D2.same sA, n2', w2, by omega, fun py HB nB sB Y1 => ?_⟩
    refine ⟨by show 2 ≤ sizeLine; decide, fun t1 nt1 => ⟨t1, _, rfl, SqT.of upd_same, rfl, .ref px, _, rfl, .ref py, _, rfl, rfl, ?_⟩⟩
    have eC := same_new (o := .tup [.ref px, .ref py]) nt1
    have S0 : St T w _ d c1 c2 px py es fs := ⟨hd, ((D1.same sA).same sB).same eC, ((D2.same sA).same sB).same eC, n1, n2', w1, w2, l1', l2', (X1.same sB).same eC, Y1.same eC⟩
    have B0 := ((B9.same sA).same sB).same eC
    have tb0 := ((tb9.ext sA).ext sB).ext eC
    clear eC sA sB D1 D2 X1 Y1 B9 tb9 n1 n2' w1 w2 l1' l2'
    generalize upd HB t1 (.tup [.ref px, .ref py]) = H0 at S0 B0 tb0 ⊢
    refine ⟨fun σ H' => ∃ y2 y4 y5 y6 y7 y8 y9 y10 y11 y12 y17 y18 y19, σ = [some (.ref a), some (.ref b), y2, some (.int d), y4, y5, y6, y7, y8, y9, y10, y11, y12, some (.ref c1), some (.ref c2), some (.ref px), some (.ref py), y17, y18, y19] ∧ St T w H' d c1 c2 px py es fs ∧ Bag H' b sb ∧ LamX.Tabs [(P0, qn)] H', ?_, ?_⟩
    · obtain ⟨dx, cx, hx, _⟩ := id S0.X
      obtain ⟨dy, cy, hy, _⟩ := id S0.Y
      have gA := good_of S0.n1 S0.w1 S0.l1
      have gB := good_of S0.n2 S0.w2 S0.l2
      refine ⟨_, rfl, _, rfl, px, dx, _, py, dy, _, rfl, rfl, hx, hy, px, py, d, d, sortE es, sortE fs, 10, 10, 10 ^ 7, 10 ^ 7, rfl, S0.X, S0.Y, fun _ => ⟨isRB_of hd, gA, gB, by decide, by decide, by decide, fun pz HZ gs nZ sZ hZ gZ sum => ?_⟩, fun z => absurd rfl z⟩
      have S1 := S0.same sZ
      have lA : (sortE es).length ≤ 10 := gA.len
      have lB : (sortE fs).length ≤ 10 := gB.len
      refine ⟨_, rfl, _, rfl, c1, es, rfl, S1.D1, S1.n1, by have := S1.l1; omega, fun la HL na sa RA => ⟨_, rfl, c2, fs, rfl, S1.D2.same sa, S1.n2, by have := S1.l2; omega, fun lb HM nb' sb' RB => ?_⟩⟩
      obtain ⟨as1, h1, r1, k1⟩ := RA.same sb'
      obtain ⟨bs1, h2, r2, k2⟩ := id RB
      obtain ⟨xs, g1, g2, g3⟩ := (RA.same sb').more (L := lb) (bs := bs1) (fs := sortE fs) r2 k2 h2
      cases h1.symm.trans g1
      have z1 := r1.len
      have z2 := r2.len
      refine ⟨la, lb, _, _, rfl, rfl, h1, h2, ?_, fun lc nc => ?_⟩
      · rw [List.length_map, List.length_map]
        exact Nat.le_of_lt (small1000 (by omega))
      have ec := same_new (o := .lst (as1.map V.ref ++ bs1.map V.ref)) nc
      refine ⟨lc, sortE es ++ sortE fs, rfl, g3 lc nc, by rw [List.length_append]; omega, fun cz HN nN sN DN => ?_⟩
      have W : Within (ShB d) (10 ^ 7) (sortE es ++ sortE fs) := fun e he => (List.mem_append.mp he).elim (gA.wi e) (gB.wi e)
      have sAll := (sa.trans sb').trans (ec.trans sN)
      refine ⟨pz, cz, d, gs, mergeD (sortE es ++ sortE fs), rfl, hZ.same sAll, DN, merge_nodup _, Nat.le_trans (merge_len _) (by rw [List.length_append]; omega), asc_eq gZ.asc (asc_made (by decide) W) fun φ => ?_, fun HO sO => ⟨true, rfl, iteF ?_⟩⟩
      · rw [sum, made_wsum, wsum_app]
      · have sx := (sZ.trans sAll).trans sO
        exact ⟨_, _, _, _, _, _, _, _, _, _, _, _, _, rfl, S0.same sx, B0.same sx, tb0.ext sx⟩
    clear B0 S0 tb0
    rintro σ H1 ⟨y2, y4, y5, y6, y7, y8, y9, y10, y11, y12, y17, y18, y19, rfl, S1, B1, tb1⟩
    clear R4 wi4 ln4 B4 hl4 Ra hk la nl0 n4 n5 s5 B5 n6 pm hl6 n2 n8 wi8 ln8 eb sub lu nl2 g1 g2 lc lb2 n4' W4 L4 n9 nt0 nA nB nt1
    clear y3 y13 y14 y15 y16 HB HA H9 H8 H6 H5 H0 t0 t1 l1 l2 l3 l4 as bs cs us ts ys
    have gA := good_of S1.n1 S1.w1 S1.l1
    have gB := good_of S1.n2 S1.w2 S1.l2
    have lB : (sortE fs).length ≤ 10 := gB.len
    -- the sheets that are missing
    refine ⟨.ref c2, rfl, c2, fs, rfl, S1.D2, fun l0 h0 => ?_⟩
    have e0 := same_new (o := .lst (fs.map fun e => V.ref e.2.1)) h0
    refine ⟨l0, fs.map fun e => (e.1, e.2.1), rfl, by rw [upd_same, List.map_map]; rfl, fun y hy => ?_, fun l1 h1 => ?_⟩
    · obtain ⟨e, he, rfl⟩ := List.mem_map.mp hy
      exact (S1.D2.ks e he).same e0
    have e1 := same_new (o := .lst ((sortK fs).map fun b => V.ref b.2)) h1
    have S2 := S1.same (e0.trans e1)
    have B2 := B1.same (e0.trans e1)
    have tb2 := tb1.ext (e0.trans e1)
    have hll : ((sortK fs).map fun b => V.ref b.2).length = (sortE fs).length := by
      unfold sortE
      rw [List.length_map, List.length_map]
    refine ⟨l1, rfl, ⟨_, SqL.of upd_same⟩, fun L hL => lc_list (K := K) (a := l1) (xs := (sortK fs).map fun b => V.ref b.2) (fun i G => Same (upd (upd H1 l0 (.lst (fs.map fun e => V.ref e.2.1))) l1 (.lst ((sortK fs).map fun b => V.ref b.2))) G ∧ G L = some (.lst ((lackE es ((sortE fs).take i)).map fun e => V.ref e.2.1))) ⟨same_new hL, upd_same⟩ (fun i G _ z => SqL.of (z.1 _ _ upd_same)) ?_ ?_⟩
    · rintro i v G hx ⟨sG, hG⟩
      rw [List.getElem?_map] at hx
      cases hb : (sortK fs)[i]? with
      | none =>
        rw [hb] at hx
        cases hx
      | some k =>
        rw [hb] at hx
        cases hx
        obtain ⟨n, hv, hat, hin⟩ := sortE_at S2.n2 hb
        have SG := S2.same sG
        have hs := SG.D2.ks _ hin
        have hi := (List.getElem?_eq_some_iff.mp hat).1
        have ap : lackE es ((sortE fs).take (i + 1)) = lackE es ((sortE fs).take i) ++ [(k.1, k.2, n)].filter fun e => decide (cnt es e.1 < e.2.2) := by
          unfold lackE
          rw [List.take_add_one, hat, List.filter_append]
          rfl
        refine ⟨rfl, _, rfl, c1, es, rfl, SG.D1.rd, _, rfl, k.2, k.1, 0, es, rfl, rfl, SG.D1.rd, hs, _, rfl, _, rfl, c2, k.2, fs, k.1, n, rfl, rfl, SG.D2.rd, hs, hv, _, _, rfl, rfl, _, rfl, ite2 (fun z => ?_) (fun z => ?_)⟩
        · refine ⟨_, rfl, _, hG, ?_, fun o u q => (upd_ne (ne_of_none q hL)).trans (sG o u q), ?_⟩
          · rw [List.length_map]
            have := List.length_filter_le (fun e : Sh × Addr × Int => decide (cnt es e.1 < e.2.2)) ((sortE fs).take i)
            rw [List.length_take] at this
            exact small1000 (by unfold lackE; omega)
          · rw [upd_same, ap, List.filter_cons, if_pos (show decide (cnt es ((k.1, k.2, n) : Sh × Addr × Int).1 < ((k.1, k.2, n) : Sh × Addr × Int).2.2) = true from z), List.map_append]
            rfl
        · refine ⟨sG, ?_⟩
          rw [ap, List.filter_cons, if_neg (show ¬ decide (cnt es ((k.1, k.2, n) : Sh × Addr × Int).1 < ((k.1, k.2, n) : Sh × Addr × Int).2.2) = true from z), List.filter_nil, List.append_nil]
          exact hG
    rintro G ⟨sG, hL1⟩
    rw [hll, List.take_length] at hL1
    have S3 := S2.same sG
    have B3 := B2.same sG
    have tb3 := tb2.ext sG
    clear e0 e1 sG S2 B2 tb2 S1 B1 tb1
    -- the difference, asked
    refine ⟨fun σ H' => ∃ y2 y4 y7 y8 y9 y10 y11 y12 y17 y18 y19 p, σ = [some (.ref a), some (.ref b), y2, some (.int d), y4, some (.ref L), some (.ref p), y7, y8, y9, y10, y11, y12, some (.ref c1), some (.ref c2), some (.ref px), some (.ref py), y17, y18, y19] ∧ St T w H' d c1 c2 px py es fs ∧ Bag H' b sb ∧ LamX.Tabs [(P0, qn)] H' ∧
      H' L = some (.lst ((lackE es (sortE fs)).map fun e => V.ref e.2.1)) ∧ ((lackE es (sortE fs) = [] ∧ ∃ pz gs, H' p = some (.tup [.str "told", .ref pz]) ∧ HeapAt PySem.Challenge.pw_grainyard_k16_sums_of_heaps w T.C_Heap H' pz d gs ∧ Asc gs ∧ ∀ φ, wsum φ gs = wsum φ (sortE es) - wsum φ (sortE fs)) ∨
        ∃ f r, lackE es (sortE fs) = f :: r ∧ H' p = some (.tup [.str "NoSheet", .ref f.2.1])), ?_, ?_⟩
    · refine ⟨tb3, fun H4 x4 tb4 => ?_⟩
      have S4 := S3.extN x4
      have B4 := B3.extN x4
      have hL4 : H4 L = some (.lst ((lackE es (sortE fs)).map fun e => V.ref e.2.1)) := lst_extN hL1 x4
      obtain ⟨dx, cx, hx, _⟩ := id S4.X
      obtain ⟨dy, cy, hy, _⟩ := id S4.Y
      refine ⟨_, rfl, _, rfl, px, dx, _, py, dy, _, rfl, rfl, hx, hy, px, py, d, d, sortE es, sortE fs, 10, 10, 10 ^ 7, 10 ^ 7, rfl, S4.X, S4.Y, fun _ => ⟨isRB_of hd, gA, gB, by decide, by decide, fun le => ?_, fun i f hf lt good => ?_⟩, fun z => absurd rfl z⟩
      · intro pz HZ gs nZ sZ hZ gZ sum
        refine ⟨by show 2 ≤ sizeLine; decide, fun p np => ?_⟩
        have ep := same_new (o := .tup [.str "told", .ref pz]) np
        refine ⟨_, _, _, _, _, _, _, _, _, _, _, _, rfl, (S4.same sZ).same ep, (B4.same sZ).same ep, (tb4.ext sZ).ext ep, ep _ _ (sZ _ _ hL4), .inl ⟨?_, pz, gs, upd_same, hZ.same ep, gZ.asc, sum⟩⟩
        refine List.filter_eq_nil_iff.mpr fun f hf z => ?_
        have z := of_decide_eq_true z
        have := le f hf
        rw [cnt_sort S4.n1] at this
        omega
      · refine thrown_sheet T fun p HF sF hp => ?_
        obtain ⟨r, hr'⟩ := lack_head (es := es) hf (by rw [cnt_sort S4.n1] at lt; exact lt) fun j g hj hg => by
          have := good j g hj hg
          rwa [cnt_sort S4.n1] at this
        exact ⟨_, _, _, _, _, _, _, _, _, _, _, _, rfl, S4.same sF, B4.same sF, tb4.ext sF, sF _ _ hL4, .inr ⟨f, r, hr', hp⟩⟩
    clear S3 B3 tb3 hL1 hL hll G l0 h0 l1 h1 H1
    clear y2 y4 y5 y6 y7 y8 y9 y10 y11 y12 y17 y18 y19
    rintro σ H1 ⟨y2, y4, y7, y8, y9, y10, y11, y12, y17, y18, y19, p, rfl, S1, B1, tb1, hL1, found⟩
    -- what was told
    refine ⟨fun σ H' => ∃ y2 y4 y5 y6 y7 y8 y9 y10 y11 y12 y17 y18 y19, σ = [some (.ref a), some (.ref b), y2, some (.int d), y4, y5, y6, y7, y8, y9, y10, y11, y12, some (.ref c1), some (.ref c2), some (.ref px), some (.ref py), y17, y18, y19] ∧ St T w H' d c1 c2 px py es fs ∧ Bag H' b sb ∧ LamX.Tabs [(P0, qn)] H', ?_, ?_⟩
    · refine ⟨_, rfl, by show 0 ≤ sizeLine; decide, fun l2 n2 => ?_⟩
      have e2 := same_new (o := .lst []) n2
      have S2 := S1.same e2
      have ks : ∀ f ∈ lackE es (sortE fs), ShAt (upd H1 l2 (.lst [])) f.2.1 f.1 := fun f hf => S2.D2.ks _ ((sortE_perm S1.n2).mem_iff.mp (List.mem_filter.mp hf).1)
      refine ⟨_, _, data_list (e2 _ _ hL1) (fun f hf => sh_dp (ks f hf)) (g := fun f => encS f.1), .lst (SqL.of upd_same) .nil, data_all (fun e he => by obtain ⟨f, _, rfl⟩ := List.mem_map.mp he; exact encS_ok f.1), rfl, _, rfl, ?_⟩
      rw [data_nil]
      rcases found with ⟨nil, pz, gs, hp, hZ, asc, sum⟩ | ⟨f, r, cons, hp⟩
      · rw [nil]
        refine iteF ?_
        have hp2 := e2 _ _ hp
        have le : ∀ f ∈ fs, f.2.2 ≤ cnt es f.1 := fun f hf => lack_nil nil f ((sortE_perm S1.n2).mem_iff.mpr hf)
        obtain ⟨nL, lenL, ascL, sumL⟩ := left_ok S1.n1 S1.n2 S1.w1 S1.w2 le
        have l1 := S1.l1
        refine ⟨_, rfl, p, _, 0, .str "told", rfl, rfl, SqT.of hp2, atI_nat (j := 0) rfl, rfl, false, by decide +kernel, iteF ?_⟩
        refine ⟨_, rfl, p, _, 1, .ref pz, rfl, rfl, SqT.of hp2, atI_nat (j := 1) rfl, _, rfl, _, rfl, _, rfl, c1, c2, es, fs, rfl, S2.D1, S2.D2, S2.n1, by omega, fun cz HN nN sN DN => ?_⟩
        refine ⟨pz, cz, d, gs, leftE (sortE es) fs, rfl, (hZ.same e2).same sN, DN, nL, by omega, asc_eq asc ascL fun φ => by rw [sum, sumL], fun HO sO => ⟨true, rfl, iteF ?_⟩⟩
        have sx := (e2.trans sN).trans sO
        exact ⟨_, _, _, _, _, _, _, _, _, _, _, _, _, rfl, S1.same sx, B1.same sx, tb1.ext sx⟩
      · rw [cons]
        have hf := ks f (by rw [cons]; exact List.mem_cons_self)
        refine iteT ?_
        have h0 : (upd H1 l2 (.lst [])) L = some (.lst (V.ref f.2.1 :: r.map fun e => V.ref e.2.1)) := by
          rw [cons] at hL1
          exact e2 _ _ hL1
        refine ⟨_, rfl, _, rfl, L, _, 0, .ref f.2.1, rfl, rfl, SqL.of h0, atI_nat (j := 0) rfl, by show 2 ≤ sizeLine; decide, fun t nt => ?_⟩
        have et := same_new (o := .tup [.str "NoSheet", .ref f.2.1]) nt
        refine ⟨_, _, word_dp (et _ _ (e2 _ _ hp)) (sh_dp (hf.same et)), word_dp upd_same (sh_dp (hf.same et)), word_shaped _, word_shaped _, false, (by rw [word_same]; rfl), iteF ?_⟩
        exact ⟨_, _, _, _, _, _, _, _, _, _, _, _, _, rfl, S2.same et, (B1.same e2).same et, (tb1.ext e2).ext et⟩
    clear gA gB lB L y2 y4 y7 y8 y9 y10 y11 y12 y17 y18 y19 p hL1 found S1 B1 tb1 H1
    rintro σ H1 ⟨y2, y4, y5, y6, y7, y8, y9, y10, y11, y12, y17, y18, y19, rfl, S1, B1, tb1⟩
    -- a number, and so many times the first stock
    refine ⟨fun σ H' => ∃ y2 y4 y5 y6 n y8 y9 y10 y11 y12 y17 y18 y19, σ = [some (.ref a), some (.ref b), y2, some (.int d), y4, y5, y6, some (.int n), y8, y9, y10, y11, y12, some (.ref c1), some (.ref c2), some (.ref px), some (.ref py), y17, y18, y19] ∧ 0 ≤ n ∧ n < 10 ^ 9 ∧ St T w H' d c1 c2 px py es fs ∧ Bag H' b sb ∧ LamX.Tabs [(P0, qn)] H', ?_, ?_⟩
    · refine ⟨_, rfl, _, rfl, 10, 9, rfl, rfl, ⟨by decide, by decide, by decide⟩, b, sb, _, rfl, B1, by decide, by decide, fun z H3 z0 z1 B3 k3 => ⟨by show 4 ≤ sizeLine; decide, fun l nl => ⟨b, sb, l, _, rfl, B3.new nl, upd_same, B3.ne nl, by simp, by simp, fun j v H4 hv B4 k4 => ?_⟩⟩⟩
      have kk := k3.trans ((keep_new nl).trans k4)
      have hm := List.mem_of_getElem? hv
      simp only [List.mem_cons, List.not_mem_nil, or_false] at hm
      rcases hm with rfl | rfl | rfl | rfl
      · exact ⟨_, _, _, _, 0, _, _, _, _, _, _, _, _, rfl, by decide, by decide, S1.keep B1 kk, B4, tabs_keep tb1 B1 kk⟩
      · exact ⟨_, _, _, _, 1, _, _, _, _, _, _, _, _, rfl, by decide, by decide, S1.keep B1 kk, B4, tabs_keep tb1 B1 kk⟩
      · exact ⟨_, _, _, _, 2, _, _, _, _, _, _, _, _, rfl, by decide, by decide, S1.keep B1 kk, B4, tabs_keep tb1 B1 kk⟩
      · exact ⟨_, _, _, _, z, _, _, _, _, _, _, _, _, rfl, z0, z1, S1.keep B1 kk, B4, tabs_keep tb1 B1 kk⟩
    clear S1 B1 tb1 H1 y2 y4 y5 y6 y7 y8 y9 y10 y11 y12 y17 y18 y19
    rintro σ H1 ⟨y2, y4, y5, y6, n, y8, y9, y10, y11, y12, y17, y18, y19, rfl, n0, nb', S1, B1, tb1⟩
    refine ⟨.ref c1, rfl, c1, es, rfl, S1.D1, fun l0 h0 => ?_⟩
    have e0 := same_new (o := .lst (es.map fun e => V.ref e.2.1)) h0
    refine ⟨l0, es.map fun e => (e.1, e.2.1), rfl, by rw [upd_same, List.map_map]; rfl, fun y hy => ?_, fun l1 h1 => ?_⟩
    · obtain ⟨e, he, rfl⟩ := List.mem_map.mp hy
      exact (S1.D1.ks e he).same e0
    have e1 := same_new (o := .lst ((sortK es).map fun b => V.ref b.2)) h1
    have S2 := S1.same (e0.trans e1)
    have B2 := B1.same (e0.trans e1)
    have tb2 := tb1.ext (e0.trans e1)
    have gA := good_of S1.n1 S1.w1 S1.l1
    have lA : (sortE es).length ≤ 10 := gA.len
    have hll : ((sortK es).map fun b => V.ref b.2).length = (sortE es).length := by
      unfold sortE
      rw [List.length_map, List.length_map]
    refine ⟨l1, rfl, ⟨_, SqL.of upd_same⟩, fun L hL => lc_list (K := K) (a := l1) (xs := (sortK es).map fun b => V.ref b.2) (fun i G => Same (upd (upd H1 l0 (.lst (es.map fun e => V.ref e.2.1))) l1 (.lst ((sortK es).map fun b => V.ref b.2))) G ∧ RowsL G L (timesE n ((sortE es).take i))) ⟨same_new hL, [], upd_same, by unfold timesE scaleE; split <;> exact .nil, by unfold timesE scaleE; split <;> exact fun e he => nomatch he⟩ (fun i G _ z => SqL.of (z.1 _ _ upd_same)) ?_ ?_⟩
    · rintro i v G hx ⟨sG, RG⟩
      rw [List.getElem?_map] at hx
      cases hb : (sortK es)[i]? with
      | none =>
        rw [hb] at hx
        cases hx
      | some k =>
        rw [hb] at hx
        cases hx
        obtain ⟨m, hv, hat, hin⟩ := sortE_at S2.n1 hb
        have SG := S2.same sG
        have hs := SG.D1.ks _ hin
        have hi := (List.getElem?_eq_some_iff.mp hat).1
        have nx := timesE_next (n := n) hat
        have mb := (SG.w1 _ hin)
        refine ⟨rfl, _, rfl, _, 0, rfl, rfl, _, rfl, ite2 (fun z => ?_) (fun z => ?_)⟩
        · have z := of_decide_eq_true z
          rw [if_pos z] at nx
          have mb1 : 1 ≤ m := mb.2.1
          have mb2 : m ≤ 10 ^ 7 := mb.2.2
          refine ⟨_, rfl, _, rfl, _, rfl, c1, k.2, es, k.1, m, rfl, rfl, SG.D1.rd, hs, hv, _, rfl, m, n, rfl, rfl, .inr ⟨by omega, by omega⟩, by show 2 ≤ sizeLine; decide, fun t ht => ?_⟩
          obtain ⟨xs, g1, g2, g3, g4⟩ := RowsL.push (n := m * n) hL sG RG ht hs
          refine ⟨xs, g1, ?_, g3, ?_⟩
          · rw [g2]
            have := timesE_len n ((sortE es).take i)
            rw [List.length_take] at this
            exact small1000 (by omega)
          · rw [nx]
            exact g4
        · have z : ¬ 0 < n := fun q => z (decide_eq_true q)
          rw [if_neg z, List.append_nil] at nx
          rw [nx]
          exact ⟨sG, RG⟩
    rintro G ⟨sG, RG⟩
    rw [hll, List.take_length] at RG
    have lT := timesE_len n (sortE es)
    have WT := timesE_in gA.wi nb'
    refine ⟨L, timesE n (sortE es), rfl, RG, by omega, fun cz HN nN sN DN => ?_⟩
    have sx := (e0.trans e1).trans (sG.trans sN)
    have S3 := S1.same sx
    have B3 := B1.same sx
    have tb3 := tb1.ext sx
    clear S2 B2 tb2 e0 e1 sG sN sx S1 B1 tb1 RG hll
    refine ⟨fun σ H' => ∃ y2 y4 y5 y6 y7 y8 y9 y10 y11 y12 y17 y18 y19, σ = [some (.ref a), some (.ref b), y2, some (.int d), y4, y5, y6, y7, y8, y9, y10, y11, y12, some (.ref c1), some (.ref c2), some (.ref px), some (.ref py), y17, y18, y19] ∧ St T w H' d c1 c2 px py es fs ∧ Bag H' b sb ∧ LamX.Tabs [(P0, qn)] H', ?_, ?_⟩
    · obtain ⟨dx, cx, hx, _⟩ := id S3.X
      refine ⟨_, rfl, _, rfl, px, dx, _, n, rfl, rfl, hx, px, n, d, sortE es, 10, 10 ^ 7, rfl, S3.X, fun _ => ⟨isRB_of hd, gA, by decide, by decide, by omega, fun pz HZ gs nZ sZ hZ gZ sum => ?_⟩, fun z => by omega⟩
      refine ⟨_, rfl, _, rfl, pz, cz, d, gs, mergeD (timesE n (sortE es)), rfl, hZ, DN.same sZ, merge_nodup _, Nat.le_trans (merge_len _) (by omega), asc_eq gZ.asc (asc_made (by decide) WT) fun φ => by rw [sum, made_wsum, timesE_wsum n0], fun HO sO => ⟨true, rfl, iteF ?_⟩⟩
      have sx := sZ.trans sO
      exact ⟨_, _, _, _, _, _, _, _, _, _, _, _, _, rfl, S3.same sx, B3.same sx, tb3.ext sx⟩
    clear DN nN WT lT S3 B3 tb3 gA lA hL h1 h0 n0 nb' HN cz G L l1 l0 H1 n y2 y4 y5 y6 y8 y9 y10 y11 y12 y17 y18 y19
    rintro σ H1 ⟨y2, y4, y5, y6, y7, y8, y9, y10, y11, y12, y17, y18, y19, rfl, S1, B1, tb1⟩
    -- a heap of another root
    refine ⟨fun σ H' => ∃ y2 y4 y5 y6 y7 y8 po y10 y11 y12 y17 y18 y19 d' gs, σ = [some (.ref a), some (.ref b), y2, some (.int d), y4, y5, y6, y7, y8, some (.ref po), y10, y11, y12, some (.ref c1), some (.ref c2), some (.ref px), some (.ref py), y17, y18, y19] ∧ St T w H' d c1 c2 px py es fs ∧ Bag H' b sb ∧ LamX.Tabs [(P0, qn)] H' ∧ d ≠ d' ∧ isRB d' = true ∧
      HeapAt PySem.Challenge.pw_grainyard_k16_sums_of_heaps w T.C_Heap H' po d' gs, ?_, ?_⟩
    · refine ⟨_, rfl, by show 3 ≤ sizeLine; decide, fun t nt => ⟨t, rfl, ⟨_, SqT.of upd_same⟩, fun L hL => lc_tup (K := K) (a := t) (xs := ([2, 3, 5] : List Int).map V.int) (fun i G => Same (upd H1 t (.tup [.int 2, .int 3, .int 5])) G ∧ G L = some (.lst ((othersOf d (([2, 3, 5] : List Int).take i)).map V.int))) ⟨same_new hL, upd_same⟩ (fun i G _ z => SqT.of (z.1 _ _ upd_same)) ?_ ?_⟩⟩
      · rintro i v G hx ⟨sG, hG⟩
        rw [List.getElem?_map] at hx
        cases hb : ([2, 3, 5] : List Int)[i]? with
        | none =>
          rw [hb] at hx
          cases hx
        | some z =>
          rw [hb] at hx
          cases hx
          have ap : othersOf d (([2, 3, 5] : List Int).take (i + 1)) = othersOf d (([2, 3, 5] : List Int).take i) ++ [z].filter fun z => !decide (z = d) := by
            unfold othersOf
            rw [List.take_add_one, hb, List.filter_append]
            rfl
          refine ⟨rfl, _, rfl, _, rfl, rfl, _, rfl, ?_⟩
          rw [dVx]
          refine ite2 (fun e => ?_) (fun e => ?_)
          · refine ⟨_, rfl, _, hG, ?_, fun o u q => (upd_ne (ne_of_none q hL)).trans (sG o u q), ?_⟩
            · rw [List.length_map]
              have l1 := List.length_filter_le (fun z : Int => !decide (z = d)) (([2, 3, 5] : List Int).take i)
              have l2 := List.length_take_le' i ([2, 3, 5] : List Int)
              have l3 : ([2, 3, 5] : List Int).length = 3 := rfl
              exact small1000 (by unfold othersOf; omega)
            · rw [upd_same, ap, List.filter_cons, if_pos e, List.map_append]
              rfl
          · refine ⟨sG, ?_⟩
            rw [ap, List.filter_cons, if_neg e, List.filter_nil, List.append_nil]
            exact hG
      · rintro G ⟨sG, hG⟩
        rw [List.length_map, List.take_length] at hG
        have st := (same_new (o := .tup [.int 2, .int 3, .int 5]) nt).trans sG
        have S2 := S1.same st
        have B2 := B1.same st
        have tb2 := tb1.ext st
        have ne0 : 0 < (othersOf d [2, 3, 5]).length := by
          refine List.length_pos_iff.mpr fun z => ?_
          have z2 := List.filter_eq_nil_iff.mp z 2 (by decide)
          have z3 := List.filter_eq_nil_iff.mp z 3 (by decide)
          simp at z2 z3
          omega
        have le3 : (othersOf d [2, 3, 5]).length ≤ 3 := List.length_filter_le _ _
        refine ⟨b, sb, L, _, rfl, B2, hG, (B1.same (same_new nt)).ne hL, by rw [List.length_map]; exact ne0, by rw [List.length_map]; omega, fun j v H4 hv B4 k4 => ?_⟩
        rw [List.getElem?_map] at hv
        cases hz : (othersOf d [2, 3, 5])[j]? with
        | none =>
          rw [hz] at hv
          cases hv
        | some d' =>
          rw [hz] at hv
          cases hv
          obtain ⟨m1, m2⟩ := List.mem_filter.mp (List.mem_of_getElem? hz)
          have dd : d ≠ d' := fun e => by simp [e] at m2
          have rd : isRB d' = true ∧ rowB d' ((1, 0, 1, 0), 0, 1) = true := by
            simp only [List.mem_cons, List.not_mem_nil, or_false] at m1
            rcases m1 with rfl | rfl | rfl <;> decide +kernel
          have S3 := S2.keep B2 k4
          have tb3 := tabs_keep tb2 B2 k4
          refine ⟨by show 2 ≤ sizeLine; decide, fun u nu => ⟨by show 2 ≤ sizeLine; decide, fun v nv => ⟨by show 2 ≤ sizeLine; decide, fun p np => ⟨by show 2 ≤ sizeLine; decide, fun r nr => ⟨by show 1 ≤ sizeLine; decide, fun l nl => ?_⟩⟩⟩⟩⟩
          have eu := same_new (o := .tup [.int 1, .int 0]) nu
          have ev := same_new (o := .tup [.int 1, .int 0]) nv
          have ep := same_new (o := .tup [.ref u, .ref v]) np
          have er := same_new (o := .tup [.ref p, .int 1]) nr
          have el := same_new (o := .lst [.ref r]) nl
          have sh : ShAt (upd (upd (upd H4 u (.tup [.int 1, .int 0])) v (.tup [.int 1, .int 0])) p (.tup [.ref u, .ref v])) p (1, 0, 1, 0) := ⟨u, v, upd_same, ep _ _ (ev _ _ upd_same), ep _ _ upd_same⟩
          have R : RowsL _ l [((1, 0, 1, 0), p, 1)] := ⟨[r], upd_same, .cons (el _ _ upd_same) .nil, fun e he => by
            rw [List.mem_singleton.mp he]
            exact (sh.same er).same el⟩
          have sx := (((eu.trans ev).trans ep).trans er).trans el
          refine mk_heap (T := T) (w := w) rd.1 R.handed (fun e he => ?_) (fun e he => ?_) (by show 1 ≤ 1000; decide) fun x H5 nx s5 hX => ?_
          · rw [List.mem_singleton.mp he]
            exact (show Sh100 (1, 0, 1, 0) from ⟨by decide, by decide, by decide, by decide⟩)
          · rw [List.mem_singleton.mp he]
            exact rd.2
          · exact ⟨_, _, _, _, _, _, _, _, _, _, _, _, _, d', _, rfl, (S3.same sx).same s5, (B4.same sx).same s5, (tb3.ext sx).ext s5, dd, rd.1, hX⟩
    clear S1 B1 tb1 H1 y2 y4 y5 y6 y7 y8 y9 y10 y11 y12 y17 y18 y19
    rintro σ H1 ⟨y2, y4, y5, y6, y7, y8, po, y10, y11, y12, y17, y18, y19, d', gs, rfl, S1, B1, tb1, dd, rd, hO⟩
    -- the blank heap, and the six that are asked
    obtain ⟨dxo, co, hpo, _⟩ := id hO
    refine ⟨_, rfl, po, dxo, _, rfl, hpo, po, d', gs, rfl, hO, mk_heap (T := T) (w := w) (es := []) rd (Handed.none T.z0_Heap_init.sq) (fun e he => by cases he) (fun e he => by cases he) (Nat.zero_le _) fun pb H2 nb2 s2 hB => ?_⟩
    refine ⟨tb1.ext s2, fun f1 G1 x1 t1 k1 => ⟨t1, fun f2 G2 x2 t2 k2 => ⟨t2, fun f3 G3 x3 t3 k3 => ⟨t3, fun f4 G4 x4 t4 k4 => ⟨by show 4 ≤ sizeLine; decide, fun l1 nl1 => ?_⟩⟩⟩⟩⟩
    have e1 := same_new (o := .lst [.ref f1, .ref f2, .ref f3, .ref f4]) nl1
    refine ⟨_, rfl, t4.ext e1, fun f5 G5 x5 t5 k5 => ⟨t5, fun f6 G6 x6 t6 k6 => ⟨by show 2 ≤ sizeLine; decide, fun l2 nl2 => ?_⟩⟩⟩
    have e2 := same_new (o := .lst [.ref f5, .ref f6]) nl2
    refine ⟨l1, l2, _, _, rfl, rfl, e2 _ _ (lst_extN (lst_extN upd_same x5) x6), upd_same, by show 4 + 2 ≤ sizeLine; decide, fun l3 nl3 => ?_⟩
    have e3 := same_new (o := .lst [.ref f1, .ref f2, .ref f3, .ref f4, .ref f5, .ref f6]) nl3
    have xe := LamX.ExtN.of (e2.trans e3)
    have x56 := (x5.trans x6).trans xe
    have x45 := (LamX.ExtN.of e1).trans x56
    have k6 := k6.ext xe
    have k5 := k5.ext (x6.trans xe)
    have k4 := k4.ext x45
    have k3 := k3.ext (x4.trans x45)
    have k2 := k2.ext (x3.trans (x4.trans x45))
    have k1 := k1.ext (x2.trans (x3.trans (x4.trans x45)))
    have xa := x1.trans (x2.trans (x3.trans (x4.trans x45)))
    have S2 := (S1.same s2).extN xa
    have B2 := (B1.same s2).extN xa
    have O2 := (hO.same s2).extN xa
    have N2 := hB.extN xa
    have tb2 := (t6.ext e2).ext e3
    have hL : (upd (upd G6 l2 (.lst [.ref f5, .ref f6])) l3 (.lst [.ref f1, .ref f2, .ref f3, .ref f4, .ref f5, .ref f6])) l3 = some (.lst [.ref f1, .ref f2, .ref f3, .ref f4, .ref f5, .ref f6]) := upd_same
    clear x1 x2 x3 x4 x5 x6 xe x56 x45 xa t1 t2 t3 t4 t5 t6 e1 e2 e3 S1 B1 hO hB tb1 nb2 s2 hpo
    refine ⟨_, rfl, l3, rfl, ⟨_, SqL.of hL⟩, fun D nD => ?_⟩
    generalize hs' : (upd (upd G6 l2 (HO.lst [V.ref f5, V.ref f6])) l3 (.lst [.ref f1, .ref f2, .ref f3, .ref f4, .ref f5, .ref f6])) = H3 at k1 k2 k3 k4 k5 k6 S2 B2 O2 N2 tb2 hL
    have nD : H3 D = none := by
      rw [← hs']
      exact nD
    obtain ⟨dx, cx, hx, _⟩ := id S2.X
    obtain ⟨dxo, co, hpo, _⟩ := id O2
    obtain ⟨dxb, cb, hpb, _⟩ := id N2
    refine lcK_list (K := K) (a := l3) (xs := [f1, f2, f3, f4, f5, f6].map V.ref) (fun i G => Same H3 G ∧ ∃ ps : List Addr, ps.length = i ∧ G D = some (.lst (ps.map V.ref)) ∧ ∀ p ∈ ps, G p = some (.tup [.str "OtherRoot", .non])) ⟨?_, [], rfl, upd_same, fun p hp => nomatch hp⟩ (fun i G z => SqL.of (z.1 _ _ hL)) ?_ ?_
    · rw [← hs']
      rw [← hs'] at nD
      exact same_new nD
    · rintro i v G N hv ⟨sG, ps, rfl, hD, hps⟩ nx
      have hi := (List.getElem?_eq_some_iff.mp hv).1
      have hi : ps.length < 6 := hi
      have fin : ∀ p H', Same G H' → H' p = some (.tup [.str "OtherRoot", .non]) → ∃ acc, H' D = some (.lst acc) ∧ acc.length < sizeLine ∧ N (upd H' D (.lst (acc ++ [.ref p]))) := by
        intro p H' s' hp
        have hD' := s' _ _ hD
        have far : ∀ p', H' p' = some (.tup [.str "OtherRoot", .non]) → p' ≠ D := fun p' h e => by
          rw [e, hD'] at h
          cases h
        refine ⟨_, hD', by rw [List.length_map]; exact small1000 (by omega), nx _ ⟨fun o u z => (upd_ne (ne_of_none z nD)).trans (s' _ _ (sG _ _ z)), ps ++ [p], by rw [List.length_append]; rfl, by rw [upd_same, List.map_append]; rfl, fun q hq => ?_⟩⟩
        rcases List.mem_append.mp hq with hq | hq
        · have := s' _ _ (hps q hq)
          exact (upd_ne (far _ this)).trans this
        · rw [List.mem_singleton.mp hq]
          exact (upd_ne (far _ hp)).trans hp
      have xG := LamX.ExtN.of sG
      have hx := sG _ _ hx
      have hpo := sG _ _ hpo
      have hpb := sG _ _ hpb
      have SG := S2.same sG
      have OG := O2.same sG
      have NG := N2.same sG
      rcases hj : ps.length with _ | _ | _ | _ | _ | _ | j
      · rw [hj] at hv
        cases hv
        exact ⟨rfl, f1, _, _, (acts0 (t := fun E => tOp (rOwn2 T.C_Heap (spHAdd T w) E) (tVar 15) (tVar 9)) (k := 13 + 1) (LamX.lamS_by (sc := defScope s_law) (by decide +kernel)) (fun _ _ _ _ _ => rfl) (fun A outer s H E f c' hr2 => (pe_op (op_bin T.m_Heap_add T.sf_Heap (ok_Heap_add (w := w) T) (hr2.mono (by decide)) T.b_Heap_add (passes_call (takes_of rfl rfl rfl rfl) (fun _ _ _ _ h => h))) (pv 15) (pv 9)))), rfl, k1.ext xG, k1.ext xG, _, rfl, _, rfl, px, dx, _, po, dxo, _, rfl, rfl, hx, hpo, px, po, _, _, _, _, 0, 0, 0, 0, rfl, SG.X, OG, fun e => absurd e dd, fun _ => thrown_other T fun p H' s' hp => fin p H' s' hp⟩
      · rw [hj] at hv
        cases hv
        exact ⟨rfl, f2, _, _, (actsD (t := fun E => tOp (rOwn2 T.C_Heap (spHSub T w) E) (tVar 15) (tVar 9)) (k := 13 + 1) (b := "_law_a") (LamD.mk (N := ["_law_script", "_law_bag", "_law_turn", "_law_root", "_law_rows", "_law_lack", "_law_found", "_law_size", "_law_due", "_law_other", "_law_blank", "_law_asks", "_law_bad", "_law_one", "_law_two", "_law_x", "_law_y", "_law_sheet", "_law_ask", "_law_d"]) (sc := defScope s_law) rfl rfl rfl rfl (by decide +kernel) (by decide +kernel)) (fun _ _ _ _ _ _ _ _ => ⟨_, rfl, rfl⟩) (fun A outer s H E f c' hr2 => (pe_op (op_bin T.m_Heap_sub T.sf_Heap (ok_Heap_sub (w := w) T) (hr2.mono (by decide)) T.b_Heap_sub (passes_call (takes_of rfl rfl rfl rfl) (fun _ _ _ _ h => h))) (pv 15) (pv 9)))), rfl, k2.ext xG, k2.ext xG, _, rfl, _, rfl, px, dx, _, po, dxo, _, rfl, rfl, hx, hpo, px, po, _, _, _, _, 0, 0, 0, 0, rfl, SG.X, OG, fun e => absurd e dd, fun _ => thrown_other T fun p H' s' hp => fin p H' s' hp⟩
      · rw [hj] at hv
        cases hv
        exact ⟨rfl, f3, _, _, (actsD (t := fun E => tOp (rOwn2 T.C_Heap (spHAdd T w) E) (tVar 15) (tVar 10)) (k := 13 + 1) (b := "_law_b") (LamD.mk (N := ["_law_script", "_law_bag", "_law_turn", "_law_root", "_law_rows", "_law_lack", "_law_found", "_law_size", "_law_due", "_law_other", "_law_blank", "_law_asks", "_law_bad", "_law_one", "_law_two", "_law_x", "_law_y", "_law_sheet", "_law_ask", "_law_d"]) (sc := defScope s_law) rfl rfl rfl rfl (by decide +kernel) (by decide +kernel)) (fun _ _ _ _ _ _ _ _ => ⟨_, rfl, rfl⟩) (fun A outer s H E f c' hr2 => (pe_op (op_bin T.m_Heap_add T.sf_Heap (ok_Heap_add (w := w) T) (hr2.mono (by decide)) T.b_Heap_add (passes_call (takes_of rfl rfl rfl rfl) (fun _ _ _ _ h => h))) (pv 15) (pv 10)))), rfl, k3.ext xG, k3.ext xG, _, rfl, _, rfl, px, dx, _, pb, dxb, _, rfl, rfl, hx, hpb, px, pb, _, _, _, _, 0, 0, 0, 0, rfl, SG.X, NG, fun e => absurd e dd, fun _ => thrown_other T fun p H' s' hp => fin p H' s' hp⟩
      · rw [hj] at hv
        cases hv
        exact ⟨rfl, f4, _, _, (actsD (t := fun E => tOp (rOwn2 T.C_Heap (spHSub T w) E) (tVar 15) (tVar 10)) (k := 13 + 1) (b := "_law_c") (LamD.mk (N := ["_law_script", "_law_bag", "_law_turn", "_law_root", "_law_rows", "_law_lack", "_law_found", "_law_size", "_law_due", "_law_other", "_law_blank", "_law_asks", "_law_bad", "_law_one", "_law_two", "_law_x", "_law_y", "_law_sheet", "_law_ask", "_law_d"]) (sc := defScope s_law) rfl rfl rfl rfl (by decide +kernel) (by decide +kernel)) (fun _ _ _ _ _ _ _ _ => ⟨_, rfl, rfl⟩) (fun A outer s H E f c' hr2 => (pe_op (op_bin T.m_Heap_sub T.sf_Heap (ok_Heap_sub (w := w) T) (hr2.mono (by decide)) T.b_Heap_sub (passes_call (takes_of rfl rfl rfl rfl) (fun _ _ _ _ h => h))) (pv 15) (pv 10)))), rfl, k4.ext xG, k4.ext xG, _, rfl, _, rfl, px, dx, _, pb, dxb, _, rfl, rfl, hx, hpb, px, pb, _, _, _, _, 0, 0, 0, 0, rfl, SG.X, NG, fun e => absurd e dd, fun _ => thrown_other T fun p H' s' hp => fin p H' s' hp⟩
      · rw [hj] at hv
        cases hv
        exact ⟨rfl, f5, _, _, (acts0 (t := fun E => tOp (rOwn2 T.C_Heap (spHAdd T w) E) (tVar 10) (tVar 15)) (k := 13 + 1) (LamX.lamS_by (sc := defScope s_law) (by decide +kernel)) (fun _ _ _ _ _ => rfl) (fun A outer s H E f c' hr2 => (pe_op (op_bin T.m_Heap_add T.sf_Heap (ok_Heap_add (w := w) T) (hr2.mono (by decide)) T.b_Heap_add (passes_call (takes_of rfl rfl rfl rfl) (fun _ _ _ _ h => h))) (pv 10) (pv 15)))), rfl, k5.ext xG, k5.ext xG, _, rfl, _, rfl, pb, dxb, _, px, dx, _, rfl, rfl, hpb, hx, pb, px, _, _, _, _, 0, 0, 0, 0, rfl, NG, SG.X, fun e => absurd e dd.symm, fun _ => thrown_other T fun p H' s' hp => fin p H' s' hp⟩
      · rw [hj] at hv
        cases hv
        refine ⟨rfl, f6, _, _, (actsD (t := fun E => tOp (rOwn2 T.C_Heap (spHSub T w) E) (tMake T.C_Heap (spHInit T w) [V.ref T.r0_Heap_init] _ (tCons (tVar 3) tNil)) (tVar 10)) (k := 13 + 1) (b := "_law_a") (LamD.mk (N := ["_law_script", "_law_bag", "_law_turn", "_law_root", "_law_rows", "_law_lack", "_law_found", "_law_size", "_law_due", "_law_other", "_law_blank", "_law_asks", "_law_bad", "_law_one", "_law_two", "_law_x", "_law_y", "_law_sheet", "_law_ask", "_law_d"]) (sc := defScope s_law) rfl rfl rfl rfl (by decide +kernel) (by decide +kernel)) (fun _ _ _ _ _ _ _ _ => ⟨_, rfl, rfl⟩) (fun A outer s H E f c' hr2 => (pe_op (op_bin T.m_Heap_sub T.sf_Heap (ok_Heap_sub (w := w) T) (hr2.mono (by decide)) T.b_Heap_sub (passes_call (takes_of rfl rfl rfl rfl) (fun _ _ _ _ h => h))) (pe_make T.M_Heap (ok_Heap_init (w := w) T) (hr2.mono (by decide)) (by rfl) T.g_Heap T.b0_Heap_init T.v0_Heap_init (passes_call (takes_of rfl rfl rfl rfl) (fun _ _ _ _ h => h)) (pa_cons (pv 3) pa_nil)) (pv 10)))), rfl, k6.ext xG, k6.ext xG, _, rfl, mk_heap (T := T) (w := w) (es := []) (isRB_of hd) (Handed.none T.z0_Heap_init.sq) (fun e he => by cases he) (fun e he => by cases he) (Nat.zero_le _) fun pn H5 nn sn hN => ?_⟩
        obtain ⟨dxn, cn, hpn, _⟩ := id hN
        exact ⟨_, rfl, pn, dxn, _, pb, dxb, _, rfl, rfl, hpn, sn _ _ hpb, pn, pb, _, _, _, _, 0, 0, 0, 0, rfl, hN, NG.same sn, fun e => absurd e dd, fun _ => thrown_other T fun p H' s' hp => fin p H' (sn.trans s') hp⟩
      · omega
    · rintro G ⟨sG, ps, hps, hD, all⟩
      have hps : ps.length = 6 := hps
      have SG := S2.same sG
      have BG := B2.same sG
      have tbG := tb2.ext sG
      have XG := SG.X
      refine ⟨by show 2 ≤ sizeLine; decide, fun t nt => ⟨by show 1 ≤ sizeLine; decide, fun l nl => ⟨l, 6, _, rfl, rfl, upd_same, by decide, by decide, by show 1 * 6 ≤ sizeLine; decide, fun l6 nl6 => ?_⟩⟩⟩
      have et := same_new (o := .tup [.str "OtherRoot", .non]) nt
      have el := same_new (o := .lst [.ref t]) nl
      have e6 := same_new (o := .lst (List.replicate 6 [V.ref t]).flatten) nl6
      have sx := (et.trans el).trans e6
      have ht := e6 _ _ (el _ _ (upd_same (H := G) (a := t) (o := .tup [.str "OtherRoot", .non])))
      have od : ∀ {H' : Hp} {p : Addr}, H' p = some (.tup [.str "OtherRoot", .non]) → Dp K H' (.ref p) (.tuple [.str "OtherRoot", .none]) := fun h => word_dp h .non
      have dl : ps.map (fun _ => PyData.tuple [.str "OtherRoot", .none]) = List.replicate 6 (.tuple [.str "OtherRoot", .none]) := by
        rw [List.map_const', hps]
      have k1 := data_list (K := K) (g := fun _ => PyData.tuple [.str "OtherRoot", .none]) (sx _ _ hD) fun p hp => od (sx _ _ (all p hp))
      have k2 := data_list (K := K) (zs := [t, t, t, t, t, t]) (f := V.ref) (g := fun _ => PyData.tuple [.str "OtherRoot", .none]) (upd_same (H := upd (upd G t (.tup [.str "OtherRoot", .non])) l (.lst [.ref t])) (a := l6)) fun z hz => by
        have e : z = t := by simpa using hz
        rw [e]
        exact od ht
      rw [dl] at k1
      have sh : SeqAt.shaped (.list (List.replicate 6 (.tuple [.str "OtherRoot", .none]))) = true := by kernel_rfl
      refine ⟨_, _, k1, k2, sh, sh, false, by kernel_rfl, iteF ?_⟩
      clear k1 k2 sh dl od
      have S5 := SG.same sx
      have B5 := BG.same sx
      have tb5 := tbG.ext sx
      clear SG BG tbG XG et el e6 ht all hD hps sG
      -- a count below nothing
      refine ⟨fun σ H' => ∃ y2 y4 y5 y6 y7 y8 y9 y10 y11 n y17 y18 y19, σ = [some (.ref a), some (.ref b), y2, some (.int d), y4, y5, y6, y7, y8, y9, y10, y11, some (.int n), some (.ref c1), some (.ref c2), some (.ref px), some (.ref py), y17, y18, y19] ∧ n < 0 ∧ St T w H' d c1 c2 px py es fs ∧ Bag H' b sb ∧ LamX.Tabs [(P0, qn)] H', ?_, ?_⟩
      · refine ⟨_, _, rfl, rfl, _, rfl, b, sb, 9, rfl, B5, by decide, by decide, fun z H6 z0 z1 B6 k6 => ⟨_, _, rfl, rfl, ?_⟩⟩
        exact ⟨_, _, _, _, _, _, _, _, _, _, _, _, _, rfl, by omega, S5.keep B5 k6, B6, tabs_keep tb5 B5 k6⟩
      rintro σ H1 ⟨y2, y4, y5, y6, y7, y8, y9, y10, y11, n, y17, y18, y19, rfl, n0, S1, B1, tb1⟩
      refine ⟨tb1, fun H4 x4 tb4 => ?_⟩
      have S4 := S1.extN x4
      have B4 := B1.extN x4
      obtain ⟨dx, cx, hx, _⟩ := id S4.X
      refine ⟨_, rfl, _, rfl, px, dx, _, n, rfl, rfl, hx, px, n, d, sortE es, 0, 0, rfl, S4.X, fun z => by omega, fun _ => thrown_count T fun p H5 s5 hp => ?_⟩
      refine ⟨_, rfl, by show 2 ≤ sizeLine; decide, fun t nt => ?_⟩
      have et := same_new (o := .tup [.str "BadCount", .int n]) nt
      have ok : PyData.strOk "BadCount" = true := by decide +kernel
      have sh : SeqAt.shaped (.tuple [.str "BadCount", .int n]) = true := by
        unfold SeqAt.shaped
        simp [PyData.canLay0, PyData.canLayAll0, PyData.depth, PyData.depthAll, ok]
      have eq : PyData.eqv (.tuple [.str "BadCount", .int n]) (.tuple [.str "BadCount", .int n]) = true := PySem.SeqAt.eqv_refl_plain _ (by simp [PyData.plain, PyData.plainAll])
      refine ⟨_, _, word_dp (et _ _ hp) (.int n), word_dp upd_same (.int n), sh, sh, false, by rw [eq]; rfl, iteF ?_⟩
      have S5 := (S4.same s5).same et
      have B5 := (B4.same s5).same et
      have tb5 := (tb4.ext s5).ext et
      clear S4 B4 tb4 hx s5 et hp nt S1 B1 tb1 x4
      have l1 := S5.l1
      have l2 := S5.l2
      refine ⟨_, rfl, _, rfl, _, rfl, px, c1, d, sortE es, es, rfl, S5.X, S5.D1, S5.n1, by omega, rfl, fun H6 s6 => ⟨true, rfl, iteF ?_⟩⟩
      have S6 := S5.same s6
      refine ⟨_, rfl, _, rfl, _, rfl, py, c2, d, sortE fs, fs, rfl, S6.Y, S6.D2, S6.n2, by omega, rfl, fun H7 s7 => ⟨true, rfl, iteF ?_⟩⟩
      have sz := s6.trans s7
      exact ⟨_, _, _, _, _, _, _, _, _, _, _, _, _, _, _, _, _, _, rfl, B5.same sz, tb5.ext sz⟩
end
theorem all_mk {w : World} {K : PySem.W.Frag} {h : Heap} {mg : Str → Option Value} {fa : Addr} (X : K.In h) (G : h.Ns mainGlobals mg) (hfa : mg "law" = some (.ref fa)) {l : PySem.W.OpenLaw} (hprog : l.prog = PySem.Challenge.pw_grainyard_k16_sums_of_heaps) {cL PL : Addr}
    {C_Heap : Addr} (aC_Heap : PySem.W.nsIn K mainGlobals "Heap" = some (some (.ref C_Heap))) (pg_Heap : PySem.W.plainGet K C_Heap Str.empty = true) (hd_Heap : PySem.W.hasDictIn K C_Heap = true) (po_Heap : PySem.W.plainOver K C_Heap = true) (sa_Heap : PySem.W.findIn K (.ref C_Heap) "__setattr__" = some (some (.builtin "object.__setattr__"))) (mk_Heap : PySem.W.makesIn K C_Heap = true) (kc_Heap : PySem.W.keepIn K (.ref C_Heap) = true) (sf_Heap : PySem.W.selfFirst K C_Heap = true) (nq_Heap : PySem.W.noSeq K C_Heap = true) (n_Heap_held_root : PySem.W.findIn K (.ref C_Heap) "held_root" = some none) (n_Heap_copies : PySem.W.findIn K (.ref C_Heap) "copies" = some none)
    (mo_Heap : PySem.W.mroIn K C_Heap (.type "object") = some true) (ne_Heap : PySem.W.findIn K (.ref C_Heap) "__ne__" = some (some (.builtin "object.__ne__"))) (ca_Heap : PySem.W.findIn K (.ref C_Heap) "__class__" = some (some (.builtin "object.__class__"))) (x_Heap_rmul : PySem.W.findIn K (.ref C_Heap) "__rmul__" = some none) (i_mul : PySem.W.findIn K (.type "int") "__mul__" = some (some (.builtin "int.__mul__"))) (i_rmul : PySem.W.findIn K (.type "int") "__rmul__" = some (some (.builtin "int.__rmul__"))) (is_Heap : PySem.W.subIn K (.type "int") (.ref C_Heap) = some false)
    {od0 an0 : Option Addr} {sl0 : Array (Option Value)} {kV0 oc0 dc0 pm0 cd0 ct0 : Value} {f0 : Addr}
    (a0 : PySem.W.nsIn K mainGlobals "whole_root" = some (some (.ref f0))) (l0 : K.lookup f0 = some ⟨oc0, od0, .func (PySem.W.fnOf "whole_root" "whole_root" (defArgs s_whole_root) (defBody s_whole_root) (defScope s_whole_root) .none kV0 dc0 pm0 an0 cd0 ct0), sl0⟩) (c0 : PySem.W.codeIn K cd0 "whole_root" = true) (k0 : PySem.W.keepIn K (.ref f0) = true)
    {od1 an1 : Option Addr} {sl1 : Array (Option Value)} {kV1 oc1 dc1 pm1 cd1 ct1 : Value} {f1 : Addr}
    (a1 : PySem.W.nsIn K mainGlobals "is_root" = some (some (.ref f1))) (l1 : K.lookup f1 = some ⟨oc1, od1, .func (PySem.W.fnOf "is_root" "is_root" (defArgs s_is_root) (defBody s_is_root) (defScope s_is_root) .none kV1 dc1 pm1 an1 cd1 ct1), sl1⟩) (c1 : PySem.W.codeIn K cd1 "is_root" = true) (k1 : PySem.W.keepIn K (.ref f1) = true)
    {od2 an2 : Option Addr} {sl2 : Array (Option Value)} {kV2 oc2 dc2 pm2 cd2 ct2 : Value} {f2 : Addr}
    (a2 : PySem.W.nsIn K mainGlobals "check_root" = some (some (.ref f2))) (l2 : K.lookup f2 = some ⟨oc2, od2, .func (PySem.W.fnOf "check_root" "check_root" (defArgs s_check_root) (defBody s_check_root) (defScope s_check_root) .none kV2 dc2 pm2 an2 cd2 ct2), sl2⟩) (c2 : PySem.W.codeIn K cd2 "check_root" = true) (k2 : PySem.W.keepIn K (.ref f2) = true)
    {od3 an3 : Option Addr} {sl3 : Array (Option Value)} {kV3 oc3 dc3 pm3 cd3 ct3 : Value} {f3 : Addr}
    (a3 : PySem.W.nsIn K mainGlobals "sign" = some (some (.ref f3))) (l3 : K.lookup f3 = some ⟨oc3, od3, .func (PySem.W.fnOf "sign" "sign" (defArgs s_sign) (defBody s_sign) (defScope s_sign) .none kV3 dc3 pm3 an3 cd3 ct3), sl3⟩) (c3 : PySem.W.codeIn K cd3 "sign" = true) (k3 : PySem.W.keepIn K (.ref f3) = true)
    {od4 an4 : Option Addr} {sl4 : Array (Option Value)} {kV4 oc4 dc4 pm4 cd4 ct4 : Value} {f4 : Addr}
    (a4 : PySem.W.nsIn K mainGlobals "is_length" = some (some (.ref f4))) (l4 : K.lookup f4 = some ⟨oc4, od4, .func (PySem.W.fnOf "is_length" "is_length" (defArgs s_is_length) (defBody s_is_length) (defScope s_is_length) .none kV4 dc4 pm4 an4 cd4 ct4), sl4⟩) (c4 : PySem.W.codeIn K cd4 "is_length" = true) (k4 : PySem.W.keepIn K (.ref f4) = true)
    {od5 an5 : Option Addr} {sl5 : Array (Option Value)} {kV5 oc5 dc5 pm5 cd5 ct5 : Value} {f5 : Addr}
    (a5 : PySem.W.nsIn K mainGlobals "is_sheet" = some (some (.ref f5))) (l5 : K.lookup f5 = some ⟨oc5, od5, .func (PySem.W.fnOf "is_sheet" "is_sheet" (defArgs s_is_sheet) (defBody s_is_sheet) (defScope s_is_sheet) .none kV5 dc5 pm5 an5 cd5 ct5), sl5⟩) (c5 : PySem.W.codeIn K cd5 "is_sheet" = true) (k5 : PySem.W.keepIn K (.ref f5) = true)
    {od6 an6 : Option Addr} {sl6 : Array (Option Value)} {kV6 oc6 dc6 pm6 cd6 ct6 : Value} {f6 : Addr}
    (a6 : PySem.W.nsIn K mainGlobals "check_rows" = some (some (.ref f6))) (l6 : K.lookup f6 = some ⟨oc6, od6, .func (PySem.W.fnOf "check_rows" "check_rows" (defArgs s_check_rows) (defBody s_check_rows) (defScope s_check_rows) .none kV6 dc6 pm6 an6 cd6 ct6), sl6⟩) (c6 : PySem.W.codeIn K cd6 "check_rows" = true) (k6 : PySem.W.keepIn K (.ref f6) = true)
    {od7 an7 : Option Addr} {sl7 : Array (Option Value)} {kV7 oc7 dc7 pm7 cd7 ct7 : Value} {f7 : Addr}
    (a7 : PySem.W.nsIn K mainGlobals "merged" = some (some (.ref f7))) (l7 : K.lookup f7 = some ⟨oc7, od7, .func (PySem.W.fnOf "merged" "merged" (defArgs s_merged) (defBody s_merged) (defScope s_merged) .none kV7 dc7 pm7 an7 cd7 ct7), sl7⟩) (c7 : PySem.W.codeIn K cd7 "merged" = true) (k7 : PySem.W.keepIn K (.ref f7) = true)
    {od8 an8 : Option Addr} {sl8 : Array (Option Value)} {kV8 oc8 dc8 pm8 cd8 ct8 : Value} {f8 : Addr}
    (a8 : PySem.W.nsIn K mainGlobals "check_same_root" = some (some (.ref f8))) (l8 : K.lookup f8 = some ⟨oc8, od8, .func (PySem.W.fnOf "check_same_root" "check_same_root" (defArgs s_check_same_root) (defBody s_check_same_root) (defScope s_check_same_root) .none kV8 dc8 pm8 an8 cd8 ct8), sl8⟩) (c8 : PySem.W.codeIn K cd8 "check_same_root" = true) (k8 : PySem.W.keepIn K (.ref f8) = true)
    {od9 an9 : Option Addr} {sl9 : Array (Option Value)} {oc9 dc9 pm9 cd9 ct9 : Value} {f9 : Addr} {T9 r09 : Addr} {tc9 : Value} {td9 : Option Addr} {tn9 : Nat} {ts9 : Array (Option Value)} {kV9 : Value}
    (a9 : PySem.W.findIn K (.ref C_Heap) "__init__" = some (some (.ref f9))) (i9 : PySem.W.isFn K (.ref f9) = true) (l9 : K.lookup f9 = some ⟨oc9, od9, .func (PySem.W.fnOf "__init__" "Heap.__init__" (defArgs s_Heap_init) (defBody s_Heap_init) (defScope s_Heap_init) (.ref T9) kV9 dc9 pm9 an9 cd9 ct9), sl9⟩) (c9 : PySem.W.codeIn K cd9 "Heap.__init__" = true) (k9 : PySem.W.keepIn K (.ref f9) = true)
    (t9 : K.lookup T9 = some ⟨tc9, td9, .seq #[.ref r09] tn9, ts9⟩)
    {y9d : Option Addr} {y9m : Nat} {y9s : Array (Option Value)} (y9a : K.lookup r09 = some ⟨.type "tuple", y9d, .seq #[] y9m, y9s⟩)
    {od10 an10 : Option Addr} {sl10 : Array (Option Value)} {oc10 kV10 dc10 pm10 cd10 ct10 : Value} {f10 p10 : Addr} {q10 : List Value}
    (a10 : PySem.W.findIn K (.ref C_Heap) "root" = some (some (.ref p10))) (gp10 : PySem.W.specialIn K (.ref p10) "__get__" = some (some (.builtin "property.__get__"))) (tp10 : PySem.W.takesIn K (.ref p10) = some true) (rp10 : PySem.W.recIn K p10 "property" = some (.ref f10 :: q10)) (l10 : K.lookup f10 = some ⟨oc10, od10, .func (PySem.W.fnOf "root" "Heap.root" (defArgs s_Heap_root) (defBody s_Heap_root) (defScope s_Heap_root) .none kV10 dc10 pm10 an10 cd10 ct10), sl10⟩) (c10 : PySem.W.codeIn K cd10 "Heap.root" = true) (k10 : PySem.W.keepIn K (.ref f10) = true)
    {od11 an11 : Option Addr} {sl11 : Array (Option Value)} {oc11 dc11 pm11 cd11 ct11 : Value} {f11 : Addr} {kV11 : Value}
    (a11 : PySem.W.findIn K (.ref C_Heap) "rows" = some (some (.ref f11))) (i11 : PySem.W.isFn K (.ref f11) = true) (l11 : K.lookup f11 = some ⟨oc11, od11, .func (PySem.W.fnOf "rows" "Heap.rows" (defArgs s_Heap_rows) (defBody s_Heap_rows) (defScope s_Heap_rows) .none kV11 dc11 pm11 an11 cd11 ct11), sl11⟩) (c11 : PySem.W.codeIn K cd11 "Heap.rows" = true) (k11 : PySem.W.keepIn K (.ref f11) = true)
    {od12 an12 : Option Addr} {sl12 : Array (Option Value)} {oc12 dc12 pm12 cd12 ct12 : Value} {f12 : Addr} {kV12 : Value}
    (a12 : PySem.W.findIn K (.ref C_Heap) "count" = some (some (.ref f12))) (i12 : PySem.W.isFn K (.ref f12) = true) (l12 : K.lookup f12 = some ⟨oc12, od12, .func (PySem.W.fnOf "count" "Heap.count" (defArgs s_Heap_count) (defBody s_Heap_count) (defScope s_Heap_count) .none kV12 dc12 pm12 an12 cd12 ct12), sl12⟩) (c12 : PySem.W.codeIn K cd12 "Heap.count" = true) (k12 : PySem.W.keepIn K (.ref f12) = true)
    {od13 an13 : Option Addr} {sl13 : Array (Option Value)} {oc13 dc13 pm13 cd13 ct13 : Value} {f13 : Addr} {kV13 : Value}
    (a13 : PySem.W.findIn K (.ref C_Heap) "__add__" = some (some (.ref f13))) (i13 : PySem.W.isFn K (.ref f13) = true) (l13 : K.lookup f13 = some ⟨oc13, od13, .func (PySem.W.fnOf "__add__" "Heap.__add__" (defArgs s_Heap_add) (defBody s_Heap_add) (defScope s_Heap_add) .none kV13 dc13 pm13 an13 cd13 ct13), sl13⟩) (c13 : PySem.W.codeIn K cd13 "Heap.__add__" = true) (k13 : PySem.W.keepIn K (.ref f13) = true)
    {od14 an14 : Option Addr} {sl14 : Array (Option Value)} {oc14 dc14 pm14 cd14 ct14 : Value} {f14 : Addr} {kV14 : Value}
    (a14 : PySem.W.findIn K (.ref C_Heap) "__sub__" = some (some (.ref f14))) (i14 : PySem.W.isFn K (.ref f14) = true) (l14 : K.lookup f14 = some ⟨oc14, od14, .func (PySem.W.fnOf "__sub__" "Heap.__sub__" (defArgs s_Heap_sub) (defBody s_Heap_sub) (defScope s_Heap_sub) .none kV14 dc14 pm14 an14 cd14 ct14), sl14⟩) (c14 : PySem.W.codeIn K cd14 "Heap.__sub__" = true) (k14 : PySem.W.keepIn K (.ref f14) = true)
    {od15 an15 : Option Addr} {sl15 : Array (Option Value)} {oc15 dc15 pm15 cd15 ct15 : Value} {f15 : Addr} {kV15 : Value}
    (a15 : PySem.W.findIn K (.ref C_Heap) "__mul__" = some (some (.ref f15))) (i15 : PySem.W.isFn K (.ref f15) = true) (l15 : K.lookup f15 = some ⟨oc15, od15, .func (PySem.W.fnOf "__mul__" "Heap.__mul__" (defArgs s_Heap_mul) (defBody s_Heap_mul) (defScope s_Heap_mul) .none kV15 dc15 pm15 an15 cd15 ct15), sl15⟩) (c15 : PySem.W.codeIn K cd15 "Heap.__mul__" = true) (k15 : PySem.W.keepIn K (.ref f15) = true)
    {od16 an16 : Option Addr} {sl16 : Array (Option Value)} {kV16 oc16 dc16 pm16 cd16 ct16 : Value} {f16 : Addr}
    (a16 : PySem.W.nsIn K mainGlobals "_law_source" = some (some (.ref f16))) (l16 : K.lookup f16 = some ⟨oc16, od16, .func (PySem.W.fnOf "_law_source" "_law_source" (defArgs s_source) (defBody s_source) (defScope s_source) .none kV16 dc16 pm16 an16 cd16 ct16), sl16⟩) (c16 : PySem.W.codeIn K cd16 "_law_source" = true) (k16 : PySem.W.keepIn K (.ref f16) = true)
    {od17 an17 : Option Addr} {sl17 : Array (Option Value)} {kV17 oc17 dc17 pm17 cd17 ct17 : Value} {f17 : Addr}
    (a17 : PySem.W.nsIn K mainGlobals "_law_pull" = some (some (.ref f17))) (l17 : K.lookup f17 = some ⟨oc17, od17, .func (PySem.W.fnOf "_law_pull" "_law_pull" (defArgs s_pull) (defBody s_pull) (defScope s_pull) .none kV17 dc17 pm17 an17 cd17 ct17), sl17⟩) (c17 : PySem.W.codeIn K cd17 "_law_pull" = true) (k17 : PySem.W.keepIn K (.ref f17) = true)
    {od18 an18 : Option Addr} {sl18 : Array (Option Value)} {kV18 oc18 dc18 pm18 cd18 ct18 : Value} {f18 : Addr}
    (a18 : PySem.W.nsIn K mainGlobals "_law_of" = some (some (.ref f18))) (l18 : K.lookup f18 = some ⟨oc18, od18, .func (PySem.W.fnOf "_law_of" "_law_of" (defArgs s_of) (defBody s_of) (defScope s_of) .none kV18 dc18 pm18 an18 cd18 ct18), sl18⟩) (c18 : PySem.W.codeIn K cd18 "_law_of" = true) (k18 : PySem.W.keepIn K (.ref f18) = true)
    {od19 an19 : Option Addr} {sl19 : Array (Option Value)} {kV19 oc19 dc19 pm19 cd19 ct19 : Value} {f19 : Addr}
    (a19 : PySem.W.nsIn K mainGlobals "_law_roots" = some (some (.ref f19))) (l19 : K.lookup f19 = some ⟨oc19, od19, .func (PySem.W.fnOf "_law_roots" "_law_roots" (defArgs s_roots) (defBody s_roots) (defScope s_roots) .none kV19 dc19 pm19 an19 cd19 ct19), sl19⟩) (c19 : PySem.W.codeIn K cd19 "_law_roots" = true) (k19 : PySem.W.keepIn K (.ref f19) = true)
    {od20 an20 : Option Addr} {sl20 : Array (Option Value)} {kV20 oc20 dc20 pm20 cd20 ct20 : Value} {f20 : Addr}
    (a20 : PySem.W.nsIn K mainGlobals "_law_a_root" = some (some (.ref f20))) (l20 : K.lookup f20 = some ⟨oc20, od20, .func (PySem.W.fnOf "_law_a_root" "_law_a_root" (defArgs s_a_root) (defBody s_a_root) (defScope s_a_root) .none kV20 dc20 pm20 an20 cd20 ct20), sl20⟩) (c20 : PySem.W.codeIn K cd20 "_law_a_root" = true) (k20 : PySem.W.keepIn K (.ref f20) = true)
    {od21 an21 : Option Addr} {sl21 : Array (Option Value)} {kV21 oc21 dc21 pm21 cd21 ct21 : Value} {f21 : Addr}
    (a21 : PySem.W.nsIn K mainGlobals "_law_any_pair" = some (some (.ref f21))) (l21 : K.lookup f21 = some ⟨oc21, od21, .func (PySem.W.fnOf "_law_any_pair" "_law_any_pair" (defArgs s_any_pair) (defBody s_any_pair) (defScope s_any_pair) .none kV21 dc21 pm21 an21 cd21 ct21), sl21⟩) (c21 : PySem.W.codeIn K cd21 "_law_any_pair" = true) (k21 : PySem.W.keepIn K (.ref f21) = true)
    {od22 an22 : Option Addr} {sl22 : Array (Option Value)} {kV22 oc22 dc22 pm22 cd22 ct22 : Value} {f22 : Addr}
    (a22 : PySem.W.nsIn K mainGlobals "_law_sign" = some (some (.ref f22))) (l22 : K.lookup f22 = some ⟨oc22, od22, .func (PySem.W.fnOf "_law_sign" "_law_sign" (defArgs s_lsign) (defBody s_lsign) (defScope s_lsign) .none kV22 dc22 pm22 an22 cd22 ct22), sl22⟩) (c22 : PySem.W.codeIn K cd22 "_law_sign" = true) (k22 : PySem.W.keepIn K (.ref f22) = true)
    {od23 an23 : Option Addr} {sl23 : Array (Option Value)} {kV23 oc23 dc23 pm23 cd23 ct23 : Value} {f23 : Addr}
    (a23 : PySem.W.nsIn K mainGlobals "_law_a_length" = some (some (.ref f23))) (l23 : K.lookup f23 = some ⟨oc23, od23, .func (PySem.W.fnOf "_law_a_length" "_law_a_length" (defArgs s_a_length) (defBody s_a_length) (defScope s_a_length) .none kV23 dc23 pm23 an23 cd23 ct23), sl23⟩) (c23 : PySem.W.codeIn K cd23 "_law_a_length" = true) (k23 : PySem.W.keepIn K (.ref f23) = true)
    {od24 an24 : Option Addr} {sl24 : Array (Option Value)} {kV24 oc24 dc24 pm24 cd24 ct24 : Value} {f24 : Addr}
    (a24 : PySem.W.nsIn K mainGlobals "_law_a_sheet" = some (some (.ref f24))) (l24 : K.lookup f24 = some ⟨oc24, od24, .func (PySem.W.fnOf "_law_a_sheet" "_law_a_sheet" (defArgs s_a_sheet) (defBody s_a_sheet) (defScope s_a_sheet) .none kV24 dc24 pm24 an24 cd24 ct24), sl24⟩) (c24 : PySem.W.codeIn K cd24 "_law_a_sheet" = true) (k24 : PySem.W.keepIn K (.ref f24) = true)
    {od25 an25 : Option Addr} {sl25 : Array (Option Value)} {kV25 oc25 dc25 pm25 cd25 ct25 : Value} {f25 : Addr}
    (a25 : PySem.W.nsIn K mainGlobals "_law_some_count" = some (some (.ref f25))) (l25 : K.lookup f25 = some ⟨oc25, od25, .func (PySem.W.fnOf "_law_some_count" "_law_some_count" (defArgs s_some_count) (defBody s_some_count) (defScope s_some_count) .none kV25 dc25 pm25 an25 cd25 ct25), sl25⟩) (c25 : PySem.W.codeIn K cd25 "_law_some_count" = true) (k25 : PySem.W.keepIn K (.ref f25) = true)
    {od26 an26 : Option Addr} {sl26 : Array (Option Value)} {kV26 oc26 dc26 pm26 cd26 ct26 : Value} {f26 : Addr}
    (a26 : PySem.W.nsIn K mainGlobals "_law_some_rows" = some (some (.ref f26))) (l26 : K.lookup f26 = some ⟨oc26, od26, .func (PySem.W.fnOf "_law_some_rows" "_law_some_rows" (defArgs s_some_rows) (defBody s_some_rows) (defScope s_some_rows) .none kV26 dc26 pm26 an26 cd26 ct26), sl26⟩) (c26 : PySem.W.codeIn K cd26 "_law_some_rows" = true) (k26 : PySem.W.keepIn K (.ref f26) = true)
    {od27 an27 : Option Addr} {sl27 : Array (Option Value)} {kV27 oc27 dc27 pm27 cd27 ct27 : Value} {f27 : Addr}
    (a27 : PySem.W.nsIn K mainGlobals "_law_stock_of" = some (some (.ref f27))) (l27 : K.lookup f27 = some ⟨oc27, od27, .func (PySem.W.fnOf "_law_stock_of" "_law_stock_of" (defArgs s_stock_of) (defBody s_stock_of) (defScope s_stock_of) .none kV27 dc27 pm27 an27 cd27 ct27), sl27⟩) (c27 : PySem.W.codeIn K cd27 "_law_stock_of" = true) (k27 : PySem.W.keepIn K (.ref f27) = true)
    {od28 an28 : Option Addr} {sl28 : Array (Option Value)} {kV28 oc28 dc28 pm28 cd28 ct28 : Value} {f28 : Addr}
    (a28 : PySem.W.nsIn K mainGlobals "_law_mixed" = some (some (.ref f28))) (l28 : K.lookup f28 = some ⟨oc28, od28, .func (PySem.W.fnOf "_law_mixed" "_law_mixed" (defArgs s_mixed) (defBody s_mixed) (defScope s_mixed) .none kV28 dc28 pm28 an28 cd28 ct28), sl28⟩) (c28 : PySem.W.codeIn K cd28 "_law_mixed" = true) (k28 : PySem.W.keepIn K (.ref f28) = true)
    {od29 an29 : Option Addr} {sl29 : Array (Option Value)} {kV29 oc29 dc29 pm29 cd29 ct29 : Value} {f29 : Addr}
    (a29 : PySem.W.nsIn K mainGlobals "_law_listed" = some (some (.ref f29))) (l29 : K.lookup f29 = some ⟨oc29, od29, .func (PySem.W.fnOf "_law_listed" "_law_listed" (defArgs s_listed) (defBody s_listed) (defScope s_listed) .none kV29 dc29 pm29 an29 cd29 ct29), sl29⟩) (c29 : PySem.W.codeIn K cd29 "_law_listed" = true) (k29 : PySem.W.keepIn K (.ref f29) = true)
    {od30 an30 : Option Addr} {sl30 : Array (Option Value)} {kV30 oc30 dc30 pm30 cd30 ct30 : Value} {f30 : Addr}
    (a30 : PySem.W.nsIn K mainGlobals "_law_heap_of" = some (some (.ref f30))) (l30 : K.lookup f30 = some ⟨oc30, od30, .func (PySem.W.fnOf "_law_heap_of" "_law_heap_of" (defArgs s_heap_of) (defBody s_heap_of) (defScope s_heap_of) .none kV30 dc30 pm30 an30 cd30 ct30), sl30⟩) (c30 : PySem.W.codeIn K cd30 "_law_heap_of" = true) (k30 : PySem.W.keepIn K (.ref f30) = true)
    {od31 an31 : Option Addr} {sl31 : Array (Option Value)} {kV31 oc31 dc31 pm31 cd31 ct31 : Value} {f31 : Addr}
    (a31 : PySem.W.nsIn K mainGlobals "_law_like" = some (some (.ref f31))) (l31 : K.lookup f31 = some ⟨oc31, od31, .func (PySem.W.fnOf "_law_like" "_law_like" (defArgs s_like) (defBody s_like) (defScope s_like) .none kV31 dc31 pm31 an31 cd31 ct31), sl31⟩) (c31 : PySem.W.codeIn K cd31 "_law_like" = true) (k31 : PySem.W.keepIn K (.ref f31) = true)
    {od32 an32 : Option Addr} {sl32 : Array (Option Value)} {kV32 oc32 dc32 pm32 cd32 ct32 : Value} {f32 : Addr}
    (a32 : PySem.W.nsIn K mainGlobals "_law_is_heap" = some (some (.ref f32))) (l32 : K.lookup f32 = some ⟨oc32, od32, .func (PySem.W.fnOf "_law_is_heap" "_law_is_heap" (defArgs s_is_heap) (defBody s_is_heap) (defScope s_is_heap) .none kV32 dc32 pm32 an32 cd32 ct32), sl32⟩) (c32 : PySem.W.codeIn K cd32 "_law_is_heap" = true) (k32 : PySem.W.keepIn K (.ref f32) = true)
    {od33 an33 : Option Addr} {sl33 : Array (Option Value)} {kV33 oc33 dc33 pm33 cd33 ct33 : Value} {f33 : Addr}
    (a33 : PySem.W.nsIn K mainGlobals "_law_field_of" = some (some (.ref f33))) (l33 : K.lookup f33 = some ⟨oc33, od33, .func (PySem.W.fnOf "_law_field_of" "_law_field_of" (defArgs s_field_of) (defBody s_field_of) (defScope s_field_of) .none kV33 dc33 pm33 an33 cd33 ct33), sl33⟩) (c33 : PySem.W.codeIn K cd33 "_law_field_of" = true) (k33 : PySem.W.keepIn K (.ref f33) = true)
    {od34 an34 : Option Addr} {sl34 : Array (Option Value)} {kV34 oc34 dc34 pm34 cd34 ct34 : Value} {f34 : Addr}
    (a34 : PySem.W.nsIn K mainGlobals "_law_try" = some (some (.ref f34))) (l34 : K.lookup f34 = some ⟨oc34, od34, .func (PySem.W.fnOf "_law_try" "_law_try" (defArgs s_try) (defBody s_try) (defScope s_try) .none kV34 dc34 pm34 an34 cd34 ct34), sl34⟩) (c34 : PySem.W.codeIn K cd34 "_law_try" = true) (k34 : PySem.W.keepIn K (.ref f34) = true)
    {od35 an35 : Option Addr} {sl35 : Array (Option Value)} {kV35 oc35 dc35 pm35 cd35 ct35 : Value} {f35 : Addr}
    (a35 : PySem.W.nsIn K mainGlobals "_law_without" = some (some (.ref f35))) (l35 : K.lookup f35 = some ⟨oc35, od35, .func (PySem.W.fnOf "_law_without" "_law_without" (defArgs s_without) (defBody s_without) (defScope s_without) .none kV35 dc35 pm35 an35 cd35 ct35), sl35⟩) (c35 : PySem.W.codeIn K cd35 "_law_without" = true) (k35 : PySem.W.keepIn K (.ref f35) = true)
    {od36 an36 : Option Addr} {sl36 : Array (Option Value)} {kV36 oc36 dc36 pm36 ct36 : Value} {f36 : Addr}
    (a36 : PySem.W.nsIn K mainGlobals "law" = some (some (.ref f36))) (l36 : K.lookup f36 = some ⟨oc36, od36, .func (PySem.W.fnOf "law" "law" (defArgs s_law) (defBody s_law) (defScope s_law) .none kV36 dc36 pm36 an36 (.ref cL) ct36), sl36⟩) (c36 : PySem.W.codeIn K (.ref cL) "law" = true) (k36 : PySem.W.keepIn K (.ref f36) = true)
    (z0 : PySem.W.nsIn K mainGlobals "ValueError" = some none)
    (z1 : PySem.W.nsIn K mainGlobals "LookupError" = some none)
    (z2 : PySem.W.nsIn K mainGlobals "IndexError" = some none)
    (z3 : PySem.W.nsIn K mainGlobals "enumerate" = some none)
    (z4 : PySem.W.nsIn K mainGlobals "range" = some none)
    (z5 : PySem.W.nsIn K mainGlobals "isinstance" = some none)
    (z6 : PySem.W.nsIn K mainGlobals "sorted" = some none)
    (z7 : PySem.W.nsIn K mainGlobals "str" = some none)
    (z8 : PySem.W.nsIn K mainGlobals "sum" = some none)
    (z9 : PySem.W.nsIn K mainGlobals "list" = some none)
    (z10 : PySem.W.nsIn K mainGlobals "bool" = some none)
    (z11 : PySem.W.nsIn K mainGlobals "len" = some none)
    (z12 : PySem.W.nsIn K mainGlobals "int" = some none)
    (z13 : PySem.W.nsIn K mainGlobals "tuple" = some none)
    (z14 : PySem.W.nsIn K mainGlobals "abs" = some none)
    (z15 : PySem.W.nsIn K mainGlobals "all" = some none)
    (hn : PySem.W.specialIn K (.builtin "object.__class__") "__get__" = some (some (.builtin "getset_descriptor.__get__"))) (ht : PySem.W.takesIn K (.builtin "object.__class__") = some true)
    {CGrainError : Addr} {DGrainError : ClassData} (aGrainError : PySem.W.nsIn K mainGlobals "GrainError" = some (some (.ref CGrainError))) (cGrainError : PySem.W.clsIn K CGrainError = some DGrainError) (nGrainError : DGrainError.name = "GrainError") (tGrainError : PySem.W.typeIn K (.ref CGrainError) = some (.type "type")) (sbGrainError : PySem.W.subIn K (.ref CGrainError) (.type "BaseException") = some true)
    {CGrainMissing : Addr} {DGrainMissing : ClassData} (aGrainMissing : PySem.W.nsIn K mainGlobals "GrainMissing" = some (some (.ref CGrainMissing))) (cGrainMissing : PySem.W.clsIn K CGrainMissing = some DGrainMissing) (nGrainMissing : DGrainMissing.name = "GrainMissing") (tGrainMissing : PySem.W.typeIn K (.ref CGrainMissing) = some (.type "type")) (sbGrainMissing : PySem.W.subIn K (.ref CGrainMissing) (.type "BaseException") = some true)
    (E_BadRoot : ErW PySem.Challenge.pw_grainyard_k16_sums_of_heaps K mg "ValueError" "ValueError.__new__" "ValueError.__init__" [.type "ValueError", .type "Exception", .type "BaseException", .type "object"] [.ref CGrainError] i_BadRoot "BadRoot" "BadRoot.__init__" ["word", "number"])
    (E_BadCount : ErW PySem.Challenge.pw_grainyard_k16_sums_of_heaps K mg "ValueError" "ValueError.__new__" "ValueError.__init__" [.type "ValueError", .type "Exception", .type "BaseException", .type "object"] [.ref CGrainError] i_BadCount "BadCount" "BadCount.__init__" ["word", "number"])
    (E_BadRow : ErW PySem.Challenge.pw_grainyard_k16_sums_of_heaps K mg "ValueError" "ValueError.__new__" "ValueError.__init__" [.type "ValueError", .type "Exception", .type "BaseException", .type "object"] [.ref CGrainError] i_BadRow "BadRow" "BadRow.__init__" ["word", "at"])
    (E_OtherRoot : ErW PySem.Challenge.pw_grainyard_k16_sums_of_heaps K mg "ValueError" "ValueError.__new__" "ValueError.__init__" [.type "ValueError", .type "Exception", .type "BaseException", .type "object"] [.ref CGrainError] i_OtherRoot "OtherRoot" "OtherRoot.__init__" ["word"])
    (E_NoSheet : ErW PySem.Challenge.pw_grainyard_k16_sums_of_heaps K mg "LookupError" "LookupError.__new__" "LookupError.__init__" [.type "LookupError", .type "Exception", .type "BaseException", .type "object"] [.ref CGrainMissing] i_NoSheet "NoSheet" "NoSheet.__init__" ["word", "sheet"])
    (E_NothingLeft : ErW PySem.Challenge.pw_grainyard_k16_sums_of_heaps K mg "IndexError" "IndexError.__new__" "IndexError.__init__" [.type "IndexError", .type "LookupError", .type "Exception", .type "BaseException", .type "object"] [] i_NothingLeft "NothingLeft" "NothingLeft.__init__" ["word"])
    (tabL : h.get? PL = some { cls := .none, data := .fields #[] }) (noL : K.lookup PL = none) (hdL : PySem.W.codeHdIn K cL PL = true) : LamX.LawAtS l w K CX0 18 63 "_law_script" mg fa h := by
  have e := hfa.symm.trans (PySem.W.mg_of X G a36)
  cases e
  have F0 := fun_mk (st := s_whole_root) l0 c0 k0
  have b0 := F0.binds (ps := ["number"]) fun _ _ _ _ _ _ us hl => by obtain ⟨_, rfl⟩ := len1 hl; rfl
  have F1 := fun_mk (st := s_is_root) l1 c1 k1
  have b1 := F1.binds (ps := ["number"]) fun _ _ _ _ _ _ us hl => by obtain ⟨_, rfl⟩ := len1 hl; rfl
  have F2 := fun_mk (st := s_check_root) l2 c2 k2
  have b2 := F2.binds (ps := ["root"]) fun _ _ _ _ _ _ us hl => by obtain ⟨_, rfl⟩ := len1 hl; rfl
  have F3 := fun_mk (st := s_sign) l3 c3 k3
  have b3 := F3.binds (ps := ["pair", "root"]) fun _ _ _ _ _ _ us hl => by obtain ⟨_, _, rfl⟩ := len2 hl; rfl
  have F4 := fun_mk (st := s_is_length) l4 c4 k4
  have b4 := F4.binds (ps := ["pair", "root"]) fun _ _ _ _ _ _ us hl => by obtain ⟨_, _, rfl⟩ := len2 hl; rfl
  have F5 := fun_mk (st := s_is_sheet) l5 c5 k5
  have b5 := F5.binds (ps := ["sheet", "root"]) fun _ _ _ _ _ _ us hl => by obtain ⟨_, _, rfl⟩ := len2 hl; rfl
  have F6 := fun_mk (st := s_check_rows) l6 c6 k6
  have b6 := F6.binds (ps := ["rows", "root"]) fun _ _ _ _ _ _ us hl => by obtain ⟨_, _, rfl⟩ := len2 hl; rfl
  have F7 := fun_mk (st := s_merged) l7 c7 k7
  have b7 := F7.binds (ps := ["rows"]) fun _ _ _ _ _ _ us hl => by obtain ⟨_, rfl⟩ := len1 hl; rfl
  have F8 := fun_mk (st := s_check_same_root) l8 c8 k8
  have b8 := F8.binds (ps := ["one", "other"]) fun _ _ _ _ _ _ us hl => by obtain ⟨_, _, rfl⟩ := len2 hl; rfl
  have F9 : FunD K "__init__" "Heap.__init__" (defArgs s_Heap_init) (defBody s_Heap_init) (defScope s_Heap_init) [.ref r09] [] f9 _ := ⟨⟨_, _, _, _, _, _, _, _, _, _, rfl, l9, c9, .inr ⟨by simp, T9, _, [.ref r09], _, rfl, t9, rfl, .cons rfl .nil⟩, .inl rfl⟩, k9⟩
  have b9 := bd_given l9 t9 (ps := ["self", "root", "rows"]) (fun us hl => match us, hl with | [_, _, _], _ => ⟨_, rfl, rfl⟩)
  have e9 := bd_dflt l9 t9 (ps := ["self", "root", "rows"]) (fun us hl => match us, hl with | [_, _], _ => ⟨_, rfl, rfl⟩)
  have F10 := fun_mk (st := s_Heap_root) l10 c10 k10
  have b10 := F10.binds (ps := ["self"]) fun _ _ _ _ _ _ us hl => by obtain ⟨_, rfl⟩ := len1 hl; rfl
  have F11 := fun_mk (st := s_Heap_rows) l11 c11 k11
  have b11 := F11.binds (ps := ["self"]) fun _ _ _ _ _ _ us hl => by obtain ⟨_, rfl⟩ := len1 hl; rfl
  have F12 := fun_mk (st := s_Heap_count) l12 c12 k12
  have b12 := F12.binds (ps := ["self", "sheet"]) fun _ _ _ _ _ _ us hl => by obtain ⟨_, _, rfl⟩ := len2 hl; rfl
  have F13 := fun_mk (st := s_Heap_add) l13 c13 k13
  have b13 := F13.binds (ps := ["self", "other"]) fun _ _ _ _ _ _ us hl => by obtain ⟨_, _, rfl⟩ := len2 hl; rfl
  have F14 := fun_mk (st := s_Heap_sub) l14 c14 k14
  have b14 := F14.binds (ps := ["self", "other"]) fun _ _ _ _ _ _ us hl => by obtain ⟨_, _, rfl⟩ := len2 hl; rfl
  have F15 := fun_mk (st := s_Heap_mul) l15 c15 k15
  have b15 := F15.binds (ps := ["self", "other"]) fun _ _ _ _ _ _ us hl => by obtain ⟨_, _, rfl⟩ := len2 hl; rfl
  have F16 := fun_mk (st := s_source) l16 c16 k16
  have b16 := F16.binds (ps := ["_law_script"]) fun _ _ _ _ _ _ us hl => by obtain ⟨_, rfl⟩ := len1 hl; rfl
  have F17 := fun_mk (st := s_pull) l17 c17 k17
  have b17 := F17.binds (ps := ["_law_bag", "_law_size"]) fun _ _ _ _ _ _ us hl => by obtain ⟨_, _, rfl⟩ := len2 hl; rfl
  have F18 := fun_mk (st := s_of) l18 c18 k18
  have b18 := F18.binds (ps := ["_law_bag", "_law_some"]) fun _ _ _ _ _ _ us hl => by obtain ⟨_, _, rfl⟩ := len2 hl; rfl
  have F19 := fun_mk (st := s_roots) l19 c19 k19
  have b19 := F19.binds (ps := []) fun _ _ _ _ _ _ us hl => match us, hl with | [], _ => rfl
  have F20 := fun_mk (st := s_a_root) l20 c20 k20
  have b20 := F20.binds (ps := ["_law_bag"]) fun _ _ _ _ _ _ us hl => by obtain ⟨_, rfl⟩ := len1 hl; rfl
  have F21 := fun_mk (st := s_any_pair) l21 c21 k21
  have b21 := F21.binds (ps := ["_law_bag"]) fun _ _ _ _ _ _ us hl => by obtain ⟨_, rfl⟩ := len1 hl; rfl
  have F22 := fun_mk (st := s_lsign) l22 c22 k22
  have b22 := F22.binds (ps := ["_law_pair", "_law_root"]) fun _ _ _ _ _ _ us hl => by obtain ⟨_, _, rfl⟩ := len2 hl; rfl
  have F23 := fun_mk (st := s_a_length) l23 c23 k23
  have b23 := F23.binds (ps := ["_law_bag", "_law_root"]) fun _ _ _ _ _ _ us hl => by obtain ⟨_, _, rfl⟩ := len2 hl; rfl
  have F24 := fun_mk (st := s_a_sheet) l24 c24 k24
  have b24 := F24.binds (ps := ["_law_bag", "_law_root"]) fun _ _ _ _ _ _ us hl => by obtain ⟨_, _, rfl⟩ := len2 hl; rfl
  have F25 := fun_mk (st := s_some_count) l25 c25 k25
  have b25 := F25.binds (ps := ["_law_bag"]) fun _ _ _ _ _ _ us hl => by obtain ⟨_, rfl⟩ := len1 hl; rfl
  have F26 := fun_mk (st := s_some_rows) l26 c26 k26
  have b26 := F26.binds (ps := ["_law_bag", "_law_root", "_law_most"]) fun _ _ _ _ _ _ us hl => by obtain ⟨_, _, _, rfl⟩ := len3 hl; rfl
  have F27 := fun_mk (st := s_stock_of) l27 c27 k27
  have b27 := F27.binds (ps := ["_law_rows"]) fun _ _ _ _ _ _ us hl => by obtain ⟨_, rfl⟩ := len1 hl; rfl
  have F28 := fun_mk (st := s_mixed) l28 c28 k28
  have b28 := F28.binds (ps := ["_law_bag", "_law_some"]) fun _ _ _ _ _ _ us hl => by obtain ⟨_, _, rfl⟩ := len2 hl; rfl
  have F29 := fun_mk (st := s_listed) l29 c29 k29
  have b29 := F29.binds (ps := ["_law_stock"]) fun _ _ _ _ _ _ us hl => by obtain ⟨_, rfl⟩ := len1 hl; rfl
  have F30 := fun_mk (st := s_heap_of) l30 c30 k30
  have b30 := F30.binds (ps := ["_law_root", "_law_stock"]) fun _ _ _ _ _ _ us hl => by obtain ⟨_, _, rfl⟩ := len2 hl; rfl
  have F31 := fun_mk (st := s_like) l31 c31 k31
  have b31 := F31.binds (ps := ["_law_found", "_law_due"]) fun _ _ _ _ _ _ us hl => by obtain ⟨_, _, rfl⟩ := len2 hl; rfl
  have F32 := fun_mk (st := s_is_heap) l32 c32 k32
  have b32 := F32.binds (ps := ["_law_heap", "_law_root", "_law_stock"]) fun _ _ _ _ _ _ us hl => by obtain ⟨_, _, _, rfl⟩ := len3 hl; rfl
  have F33 := fun_mk (st := s_field_of) l33 c33 k33
  have b33 := F33.binds (ps := ["_law_e"]) fun _ _ _ _ _ _ us hl => by obtain ⟨_, rfl⟩ := len1 hl; rfl
  have F34 := fun_mk (st := s_try) l34 c34 k34
  have b34 := F34.binds (ps := ["_law_ask"]) fun _ _ _ _ _ _ us hl => by obtain ⟨_, rfl⟩ := len1 hl; rfl
  have F35 := fun_mk (st := s_without) l35 c35 k35
  have b35 := F35.binds (ps := ["_law_one", "_law_two"]) fun _ _ _ _ _ _ us hl => by obtain ⟨_, _, rfl⟩ := len2 hl; rfl
  have F36 := fun_mk (st := s_law) l36 c36 k36
  have T : Txt K mg := {
    f_whole_root := f0
    d_whole_root := _
    F_whole_root := F0
    g_whole_root := PySem.W.mg_of X G a0
    b_whole_root := b0
    f_is_root := f1
    d_is_root := _
    F_is_root := F1
    g_is_root := PySem.W.mg_of X G a1
    b_is_root := b1
    f_check_root := f2
    d_check_root := _
    F_check_root := F2
    g_check_root := PySem.W.mg_of X G a2
    b_check_root := b2
    f_sign := f3
    d_sign := _
    F_sign := F3
    g_sign := PySem.W.mg_of X G a3
    b_sign := b3
    f_is_length := f4
    d_is_length := _
    F_is_length := F4
    g_is_length := PySem.W.mg_of X G a4
    b_is_length := b4
    f_is_sheet := f5
    d_is_sheet := _
    F_is_sheet := F5
    g_is_sheet := PySem.W.mg_of X G a5
    b_is_sheet := b5
    f_check_rows := f6
    d_check_rows := _
    F_check_rows := F6
    g_check_rows := PySem.W.mg_of X G a6
    b_check_rows := b6
    f_merged := f7
    d_merged := _
    F_merged := F7
    g_merged := PySem.W.mg_of X G a7
    b_merged := b7
    f_check_same_root := f8
    d_check_same_root := _
    F_check_same_root := F8
    g_check_same_root := PySem.W.mg_of X G a8
    b_check_same_root := b8
    C_Heap := C_Heap
    cl_Heap := .mk pg_Heap hd_Heap po_Heap sa_Heap
    g_Heap := PySem.W.mg_of X G aC_Heap
    sf_Heap := sf_Heap
    nq_Heap := nq_Heap
    n_Heap_held_root := n_Heap_held_root
    n_Heap_copies := n_Heap_copies
    M_Heap := .mk mk_Heap a9 i9 kc_Heap
    mo_Heap := mo_Heap
    ne_Heap := ne_Heap
    ca_Heap := ca_Heap
    x_Heap_rmul := x_Heap_rmul
    i_mul := i_mul
    i_rmul := i_rmul
    is_Heap := is_Heap
    f_Heap_init := f9
    d_Heap_init := _
    r0_Heap_init := r09
    F_Heap_init := F9
    b_Heap_init := b9
    b0_Heap_init := e9
    v0_Heap_init := .cons rfl .nil
    z0_Heap_init := .mk y9a
    p_Heap_root := p10
    pr_Heap_root := PropOf.mk a10 gp10 tp10 (.intro _ rp10)
    f_Heap_root := f10
    d_Heap_root := _
    F_Heap_root := F10
    b_Heap_root := b10
    m_Heap_rows := .mk a11 i11 k11
    f_Heap_rows := f11
    d_Heap_rows := _
    F_Heap_rows := F11
    b_Heap_rows := b11
    m_Heap_count := .mk a12 i12 k12
    f_Heap_count := f12
    d_Heap_count := _
    F_Heap_count := F12
    b_Heap_count := b12
    m_Heap_add := .mk a13 i13 k13
    f_Heap_add := f13
    d_Heap_add := _
    F_Heap_add := F13
    b_Heap_add := b13
    m_Heap_sub := .mk a14 i14 k14
    f_Heap_sub := f14
    d_Heap_sub := _
    F_Heap_sub := F14
    b_Heap_sub := b14
    m_Heap_mul := .mk a15 i15 k15
    f_Heap_mul := f15
    d_Heap_mul := _
    F_Heap_mul := F15
    b_Heap_mul := b15
    f_source := f16
    d_source := _
    F_source := F16
    g_source := PySem.W.mg_of X G a16
    b_source := b16
    f_pull := f17
    d_pull := _
    F_pull := F17
    g_pull := PySem.W.mg_of X G a17
    b_pull := b17
    f_of := f18
    d_of := _
    F_of := F18
    g_of := PySem.W.mg_of X G a18
    b_of := b18
    f_roots := f19
    d_roots := _
    F_roots := F19
    g_roots := PySem.W.mg_of X G a19
    b_roots := b19
    f_a_root := f20
    d_a_root := _
    F_a_root := F20
    g_a_root := PySem.W.mg_of X G a20
    b_a_root := b20
    f_any_pair := f21
    d_any_pair := _
    F_any_pair := F21
    g_any_pair := PySem.W.mg_of X G a21
    b_any_pair := b21
    f_lsign := f22
    d_lsign := _
    F_lsign := F22
    g_lsign := PySem.W.mg_of X G a22
    b_lsign := b22
    f_a_length := f23
    d_a_length := _
    F_a_length := F23
    g_a_length := PySem.W.mg_of X G a23
    b_a_length := b23
    f_a_sheet := f24
    d_a_sheet := _
    F_a_sheet := F24
    g_a_sheet := PySem.W.mg_of X G a24
    b_a_sheet := b24
    f_some_count := f25
    d_some_count := _
    F_some_count := F25
    g_some_count := PySem.W.mg_of X G a25
    b_some_count := b25
    f_some_rows := f26
    d_some_rows := _
    F_some_rows := F26
    g_some_rows := PySem.W.mg_of X G a26
    b_some_rows := b26
    f_stock_of := f27
    d_stock_of := _
    F_stock_of := F27
    g_stock_of := PySem.W.mg_of X G a27
    b_stock_of := b27
    f_mixed := f28
    d_mixed := _
    F_mixed := F28
    g_mixed := PySem.W.mg_of X G a28
    b_mixed := b28
    f_listed := f29
    d_listed := _
    F_listed := F29
    g_listed := PySem.W.mg_of X G a29
    b_listed := b29
    f_heap_of := f30
    d_heap_of := _
    F_heap_of := F30
    g_heap_of := PySem.W.mg_of X G a30
    b_heap_of := b30
    f_like := f31
    d_like := _
    F_like := F31
    g_like := PySem.W.mg_of X G a31
    b_like := b31
    f_is_heap := f32
    d_is_heap := _
    F_is_heap := F32
    g_is_heap := PySem.W.mg_of X G a32
    b_is_heap := b32
    f_field_of := f33
    d_field_of := _
    F_field_of := F33
    g_field_of := PySem.W.mg_of X G a33
    b_field_of := b33
    f_try := f34
    d_try := _
    F_try := F34
    g_try := PySem.W.mg_of X G a34
    b_try := b34
    f_without := f35
    d_without := _
    F_without := F35
    g_without := PySem.W.mg_of X G a35
    b_without := b35
    n_ValueError := PySem.W.mg_none_of X G z0
    n_LookupError := PySem.W.mg_none_of X G z1
    n_IndexError := PySem.W.mg_none_of X G z2
    n_enumerate := PySem.W.mg_none_of X G z3
    n_range := PySem.W.mg_none_of X G z4
    n_isinstance := PySem.W.mg_none_of X G z5
    n_sorted := PySem.W.mg_none_of X G z6
    n_str := PySem.W.mg_none_of X G z7
    n_sum := PySem.W.mg_none_of X G z8
    n_list := PySem.W.mg_none_of X G z9
    n_bool := PySem.W.mg_none_of X G z10
    n_len := PySem.W.mg_none_of X G z11
    n_int := PySem.W.mg_none_of X G z12
    n_tuple := PySem.W.mg_none_of X G z13
    n_abs := PySem.W.mg_none_of X G z14
    n_all := PySem.W.mg_none_of X G z15
    r_GrainError := CGrainError
    g_GrainError := PySem.W.mg_of X G aGrainError
    c_GrainError := .intro _ ⟨cGrainError,nGrainError⟩
    t_GrainError := tGrainError
    sb_GrainError := sbGrainError
    r_GrainMissing := CGrainMissing
    g_GrainMissing := PySem.W.mg_of X G aGrainMissing
    c_GrainMissing := .intro _ ⟨cGrainMissing,nGrainMissing⟩
    t_GrainMissing := tGrainMissing
    sb_GrainMissing := sbGrainMissing
    e_BadRoot := E_BadRoot.e
    x_BadRoot_word := E_BadRoot.no _ (by simp)
    x_BadRoot_number := E_BadRoot.no _ (by simp)
    e_BadCount := E_BadCount.e
    x_BadCount_word := E_BadCount.no _ (by simp)
    x_BadCount_number := E_BadCount.no _ (by simp)
    e_BadRow := E_BadRow.e
    x_BadRow_word := E_BadRow.no _ (by simp)
    x_BadRow_at := E_BadRow.no _ (by simp)
    e_OtherRoot := E_OtherRoot.e
    x_OtherRoot_word := E_OtherRoot.no _ (by simp)
    e_NoSheet := E_NoSheet.e
    x_NoSheet_word := E_NoSheet.no _ (by simp)
    x_NoSheet_sheet := E_NoSheet.no _ (by simp)
    e_NothingLeft := E_NothingLeft.e
    x_NothingLeft_word := E_NothingLeft.no _ (by simp)
    hn := hn
    ht := ht }
  refine ⟨PySem.W.fnOf "law" "law" (defArgs s_law) (defBody s_law) (defScope s_law) .none kV36 dc36 pm36 an36 (.ref cL) ct36, [(cL, PL)], spLaw K PL, fun p hp => ?_, fun p hp => ?_, fun p hp => ?_, fun s v => .of_eq rfl, fun H a ns hl _ hP hS => ⟨a, ns, rfl, hS, hl, hP _ (List.mem_singleton.mpr rfl), fun _ => rfl⟩, fun base _ _ TB => ?_⟩
  · rw [List.mem_singleton.mp hp]
    exact tabL
  · rw [List.mem_singleton.mp hp]
    exact noL
  · rw [List.mem_singleton.mp hp]
    exact PySem.W.codeHd_of_K X hdL
  · rw [hprog]
    exact ok_law l36 c36 (TB _ (List.mem_singleton.mpr rfl)) T
end Gy
open PySem PySem.W PyProof.Rows
set_option maxRecDepth 100000 in
set_option maxHeartbeats 0 in
theorem PySem.Challenge.cw_grainyard_k16_sums_of_heaps_holds : PySem.Challenge.rw_grainyard_k16_sums_of_heaps.Holds := by
  w_on; o_law; k_head; (case hw => w_witness2)
  k_fill
  refine LamX.walk_ofTs (l := PySem.Challenge.rw_grainyard_k16_sums_of_heaps) (n := 63) (k := 18) (x := "_law_script") (CX := fun _ => L2.CX0) rfl (by decide) rfl ⟨rfl, by decide, by decide⟩ (fun w h Y => PySem.W.km_in_of Y) ?F (fun _ _ _ _ _ h => h)
  case F =>
    intro w mg fa h Y KX G hmg
    have hT := PySem.W.km_tabs_of Y
    refine' Gy.all_mk KX G hmg rfl ?aC_Heap ?pg_Heap ?hd_Heap ?po_Heap ?sa_Heap ?mk_Heap ?kc_Heap ?sf_Heap ?nq_Heap ?n_Heap_held_root ?n_Heap_copies ?mo_Heap ?ne_Heap ?ca_Heap ?x_Heap_rmul ?i_mul ?i_rmul ?is_Heap ?a0 ?l0 ?c0 ?k0 ?a1 ?l1 ?c1 ?k1 ?a2 ?l2 ?c2 ?k2 ?a3 ?l3 ?c3 ?k3 ?a4 ?l4 ?c4 ?k4 ?a5 ?l5 ?c5 ?k5 ?a6 ?l6 ?c6 ?k6 ?a7 ?l7 ?c7 ?k7 ?a8 ?l8 ?c8 ?k8 ?a9 ?i9 ?l9 ?c9 ?k9 ?t9 ?y9a ?a10 ?gp10 ?tp10 ?rp10 ?l10 ?c10 ?k10 ?a11 ?i11 ?l11 ?c11 ?k11 ?a12 ?i12 ?l12 ?c12 ?k12 ?a13 ?i13 ?l13 ?c13 ?k13 ?a14 ?i14 ?l14 ?c14 ?k14 ?a15 ?i15 ?l15 ?c15 ?k15 ?a16 ?l16 ?c16 ?k16 ?a17 ?l17 ?c17 ?k17 ?a18 ?l18 ?c18 ?k18 ?a19 ?l19 ?c19 ?k19 ?a20 ?l20 ?c20 ?k20 ?a21 ?l21 ?c21 ?k21 ?a22 ?l22 ?c22 ?k22 ?a23 ?l23 ?c23 ?k23 ?a24 ?l24 ?c24 ?k24 ?a25 ?l25 ?c25 ?k25 ?a26 ?l26 ?c26 ?k26 ?a27 ?l27 ?c27 ?k27 ?a28 ?l28 ?c28 ?k28 ?a29 ?l29 ?c29 ?k29 ?a30 ?l30 ?c30 ?k30 ?a31 ?l31 ?c31 ?k31 ?a32 ?l32 ?c32 ?k32 ?a33 ?l33 ?c33 ?k33 ?a34 ?l34 ?c34 ?k34 ?a35 ?l35 ?c35 ?k35 ?a36 ?l36 ?c36 ?k36 ?z0 ?z1 ?z2 ?z3 ?z4 ?z5 ?z6 ?z7 ?z8 ?z9 ?z10 ?z11 ?z12 ?z13 ?z14 ?z15 ?hn ?ht ?aGrainError ?cGrainError ?nGrainError ?tGrainError ?sbGrainError ?aGrainMissing ?cGrainMissing ?nGrainMissing ?tGrainMissing ?sbGrainMissing ?E_BadRoot ?E_BadCount ?E_BadRow ?E_OtherRoot ?E_NoSheet ?E_NothingLeft ?tabL ?noL ?hdL
    (case aC_Heap => k_is); (case pg_Heap => k_is); (case hd_Heap => k_is); (case po_Heap => k_is); (case sa_Heap => k_is); (case mk_Heap => k_is); (case kc_Heap => k_is); (case sf_Heap => k_is); (case nq_Heap => k_is); (case n_Heap_held_root => k_is); (case n_Heap_copies => k_is); (case mo_Heap => k_is); (case ne_Heap => k_is); (case ca_Heap => k_is); (case x_Heap_rmul => k_is); (case i_mul => k_is); (case i_rmul => k_is); (case is_Heap => k_is); (case a0 => k_is); (case l0 => k_is); (case c0 => k_is); (case k0 => k_is); (case a1 => k_is); (case l1 => k_is); (case c1 => k_is); (case k1 => k_is); (case a2 => k_is); (case l2 => k_is); (case c2 => k_is); (case k2 => k_is); (case a3 => k_is); (case l3 => k_is); (case c3 => k_is); (case k3 => k_is); (case a4 => k_is); (case l4 => k_is); (case c4 => k_is); (case k4 => k_is); (case a5 => k_is); (case l5 => k_is); (case c5 => k_is); (case k5 => k_is); (case a6 => k_is); (case l6 => k_is); (case c6 => k_is); (case k6 => k_is); (case a7 => k_is); (case l7 => k_is); (case c7 => k_is); (case k7 => k_is); (case a8 => k_is); (case l8 => k_is); (case c8 => k_is); (case k8 => k_is); (case a9 => k_is); (case i9 => k_is); (case l9 => k_is); (case c9 => k_is); (case k9 => k_is); (case t9 => k_is); (case y9a => k_is); (case a10 => k_is); (case gp10 => k_is); (case tp10 => k_is); (case rp10 => k_is); (case l10 => k_is); (case c10 => k_is); (case k10 => k_is); (case a11 => k_is); (case i11 => k_is); (case l11 => k_is); (case c11 => k_is); (case k11 => k_is); (case a12 => k_is); (case i12 => k_is); (case l12 => k_is); (case c12 => k_is); (case k12 => k_is); (case a13 => k_is); (case i13 => k_is); (case l13 => k_is); (case c13 => k_is); (case k13 => k_is); (case a14 => k_is); (case i14 => k_is); (case l14 => k_is); (case c14 => k_is); (case k14 => k_is); (case a15 => k_is); (case i15 => k_is); (case l15 => k_is); (case c15 => k_is); (case k15 => k_is); (case a16 => k_is); (case l16 => k_is); (case c16 => k_is); (case k16 => k_is); (case a17 => k_is); (case l17 => k_is); (case c17 => k_is); (case k17 => k_is); (case a18 => k_is); (case l18 => k_is); (case c18 => k_is); (case k18 => k_is); (case a19 => k_is); (case l19 => k_is); (case c19 => k_is); (case k19 => k_is); (case a20 => k_is); (case l20 => k_is); (case c20 => k_is); (case k20 => k_is); (case a21 => k_is); (case l21 => k_is); (case c21 => k_is); (case k21 => k_is); (case a22 => k_is); (case l22 => k_is); (case c22 => k_is); (case k22 => k_is); (case a23 => k_is); (case l23 => k_is); (case c23 => k_is); (case k23 => k_is); (case a24 => k_is); (case l24 => k_is); (case c24 => k_is); (case k24 => k_is); (case a25 => k_is); (case l25 => k_is); (case c25 => k_is); (case k25 => k_is); (case a26 => k_is); (case l26 => k_is); (case c26 => k_is); (case k26 => k_is); (case a27 => k_is); (case l27 => k_is); (case c27 => k_is); (case k27 => k_is); (case a28 => k_is); (case l28 => k_is); (case c28 => k_is); (case k28 => k_is); (case a29 => k_is); (case l29 => k_is); (case c29 => k_is); (case k29 => k_is); (case a30 => k_is); (case l30 => k_is); (case c30 => k_is); (case k30 => k_is); (case a31 => k_is); (case l31 => k_is); (case c31 => k_is); (case k31 => k_is); (case a32 => k_is); (case l32 => k_is); (case c32 => k_is); (case k32 => k_is); (case a33 => k_is); (case l33 => k_is); (case c33 => k_is); (case k33 => k_is); (case a34 => k_is); (case l34 => k_is); (case c34 => k_is); (case k34 => k_is); (case a35 => k_is); (case l35 => k_is); (case c35 => k_is); (case k35 => k_is); (case a36 => k_is); (case l36 => k_is); (case c36 => k_is); (case k36 => k_is); (case z0 => k_is); (case z1 => k_is); (case z2 => k_is); (case z3 => k_is); (case z4 => k_is); (case z5 => k_is); (case z6 => k_is); (case z7 => k_is); (case z8 => k_is); (case z9 => k_is); (case z10 => k_is); (case z11 => k_is); (case z12 => k_is); (case z13 => k_is); (case z14 => k_is); (case z15 => k_is); (case hn => k_is); (case ht => k_is); (case aGrainError => k_is); (case cGrainError => k_is); (case nGrainError => rfl); (case tGrainError => k_is); (case sbGrainError => k_is); (case aGrainMissing => k_is); (case cGrainMissing => k_is); (case nGrainMissing => rfl); (case tGrainMissing => k_is); (case sbGrainMissing => k_is); (case E_BadRoot => refine' Gy.erw2 (P := PySem.Challenge.pw_grainyard_k16_sums_of_heaps) KX G ?op ?nsu (by decide +kernel) (by decide +kernel) (by decide +kernel) ?ht rfl rfl (by decide +kernel) (by decide +kernel) (by decide +kernel) (by decide +kernel) ?aC ?lC ?aI ?lI ?cI ?lc ?lco ?sa ?ga ?gt ?kp ?cl ?su ?hvs ?hfi ?x0 ?x1; (case op => k_is); (case nsu => k_is); (case aC => k_is); (case lC => k_is); (case ht => decide +kernel); (case aI => k_is); (case lI => k_is); (case cI => k_is); (case lc => k_is); (case lco => k_is); (case sa => k_is); (case ga => k_is); (case gt => k_is); (case kp => k_is); (case cl => k_is); (case su => first | k_is | ks_is); (case hvs => rfl); (case hfi => decide +kernel); (case x0 => k_is); (case x1 => k_is)); (case E_BadCount => refine' Gy.erw2 (P := PySem.Challenge.pw_grainyard_k16_sums_of_heaps) KX G ?op ?nsu (by decide +kernel) (by decide +kernel) (by decide +kernel) ?ht rfl rfl (by decide +kernel) (by decide +kernel) (by decide +kernel) (by decide +kernel) ?aC ?lC ?aI ?lI ?cI ?lc ?lco ?sa ?ga ?gt ?kp ?cl ?su ?hvs ?hfi ?x0 ?x1; (case op => k_is); (case nsu => k_is); (case aC => k_is); (case lC => k_is); (case ht => decide +kernel); (case aI => k_is); (case lI => k_is); (case cI => k_is); (case lc => k_is); (case lco => k_is); (case sa => k_is); (case ga => k_is); (case gt => k_is); (case kp => k_is); (case cl => k_is); (case su => first | k_is | ks_is); (case hvs => rfl); (case hfi => decide +kernel); (case x0 => k_is); (case x1 => k_is)); (case E_BadRow => refine' Gy.erw2 (P := PySem.Challenge.pw_grainyard_k16_sums_of_heaps) KX G ?op ?nsu (by decide +kernel) (by decide +kernel) (by decide +kernel) ?ht rfl rfl (by decide +kernel) (by decide +kernel) (by decide +kernel) (by decide +kernel) ?aC ?lC ?aI ?lI ?cI ?lc ?lco ?sa ?ga ?gt ?kp ?cl ?su ?hvs ?hfi ?x0 ?x1; (case op => k_is); (case nsu => k_is); (case aC => k_is); (case lC => k_is); (case ht => decide +kernel); (case aI => k_is); (case lI => k_is); (case cI => k_is); (case lc => k_is); (case lco => k_is); (case sa => k_is); (case ga => k_is); (case gt => k_is); (case kp => k_is); (case cl => k_is); (case su => first | k_is | ks_is); (case hvs => rfl); (case hfi => decide +kernel); (case x0 => k_is); (case x1 => k_is)); (case E_OtherRoot => refine' Gy.erw1 (P := PySem.Challenge.pw_grainyard_k16_sums_of_heaps) KX G ?op ?nsu (by decide +kernel) (by decide +kernel) (by decide +kernel) ?ht rfl rfl (by decide +kernel) (by decide +kernel) (by decide +kernel) (by decide +kernel) ?aC ?lC ?aI ?lI ?cI ?lc ?lco ?sa ?ga ?gt ?kp ?cl ?su ?hvs ?hfi ?x0; (case op => k_is); (case nsu => k_is); (case aC => k_is); (case lC => k_is); (case ht => decide +kernel); (case aI => k_is); (case lI => k_is); (case cI => k_is); (case lc => k_is); (case lco => k_is); (case sa => k_is); (case ga => k_is); (case gt => k_is); (case kp => k_is); (case cl => k_is); (case su => first | k_is | ks_is); (case hvs => rfl); (case hfi => decide +kernel); (case x0 => k_is)); (case E_NoSheet => refine' Gy.erw2 (P := PySem.Challenge.pw_grainyard_k16_sums_of_heaps) KX G ?op ?nsu (by decide +kernel) (by decide +kernel) (by decide +kernel) ?ht rfl rfl (by decide +kernel) (by decide +kernel) (by decide +kernel) (by decide +kernel) ?aC ?lC ?aI ?lI ?cI ?lc ?lco ?sa ?ga ?gt ?kp ?cl ?su ?hvs ?hfi ?x0 ?x1; (case op => k_is); (case nsu => k_is); (case aC => k_is); (case lC => k_is); (case ht => decide +kernel); (case aI => k_is); (case lI => k_is); (case cI => k_is); (case lc => k_is); (case lco => k_is); (case sa => k_is); (case ga => k_is); (case gt => k_is); (case kp => k_is); (case cl => k_is); (case su => first | k_is | ks_is); (case hvs => rfl); (case hfi => decide +kernel); (case x0 => k_is); (case x1 => k_is)); (case E_NothingLeft => refine' Gy.erw1 (P := PySem.Challenge.pw_grainyard_k16_sums_of_heaps) KX G ?op ?nsu (by decide +kernel) (by decide +kernel) (by decide +kernel) ?ht rfl rfl (by decide +kernel) (by decide +kernel) (by decide +kernel) (by decide +kernel) ?aC ?lC ?aI ?lI ?cI ?lc ?lco ?sa ?ga ?gt ?kp ?cl ?su ?hvs ?hfi ?x0; (case op => k_is); (case nsu => k_is); (case aC => k_is); (case lC => k_is); (case ht => decide +kernel); (case aI => k_is); (case lI => k_is); (case cI => k_is); (case lc => k_is); (case lco => k_is); (case sa => k_is); (case ga => k_is); (case gt => k_is); (case kp => k_is); (case cl => k_is); (case su => first | k_is | ks_is); (case hvs => rfl); (case hfi => decide +kernel); (case x0 => k_is)); (case tabL => exact hT _ List.mem_cons_self); (case noL => kernel_rfl); (case hdL => kernel_rfl)

