import PyProof.Rows.All
import Wide.All
import OpenK.AllK
import Wide.FinOn
import HandS.ForMost
import HandS.Wide
import HandS.WideBits
import HandS.IsInst
import HandS.Defaults
import HandS.Star
import HandS.Evl
import HandS.NoneIn
import HandS.Style
import HandS.SlotsOwn
import HandS.MakeKwOnly
import HandS.ForExc
import HandS.ExcInit
import HandS.MapJoin
import HandS.NestedK
import HandS.Lambda
import HandS.EndTab
import HandS.TryMany
import HandS.HotCalls
import HandS.ExcField
import HandS.ClsMeth
import KE.KExcSuper
import KE.KExcIs
import KE.KOpsOwn
import KE.KNestM
import HandS.Property
import KE.DataEq
import HandS.Deep
import HandS.TupAny
import HandS.Zip
import HandS.Dict
import HandS.More
import HandS.FStr
import HandS.Text
import HandS.RaiseMore
import HandS.DictComp
import HandS.DictTup
import HandS.Conv
import HandS.Comp
import KE.KDictKeyed
import KE.KeyNested
import KE.SortData
import KE.KDictItemsList
import KE.GoesMore
import HandS.Walk
import HandS.StrMore
import HandS.Sort
import HandS.Text
import KE.IntTextText
import PySem.Challenge.RW_grainyard_k63_texts_of_pairs
set_option Elab.async false
set_option linter.all false
set_option maxRecDepth 100000
set_option maxHeartbeats 4000000
namespace Gy
open PySem PySem.Spec PyProof.Rows L2
/-! ### an error's fields, wherever its object is pinned -/
section
variable {X : Cx} {a : Addr} {oe : Obj} {cls : Value} {d : Option Addr} {e : Expr} {te : TE} {pos : Pos} {n : Str}
/-- a.f of the error at a whose class is cls and whose dict stands at d -/
def tXfA (K : PySem.W.Frag) (a : Addr) (cls : Value) (d : Option Addr) (f : Str) (te : TE) : TE := fun σ H Q => te σ H fun x H1 => x = .ref a ∧
  ∃ (C dd : Addr) (fs : List (Str × V)) (v : V), cls = .ref C ∧ d = some dd ∧ XfC K C ∧ PySem.W.findIn K (.ref C) f = some none ∧ H1 dd = some (.xd fs) ∧ fs.lookup f = some v ∧ Q v H1
theorem pe_xfG (hp : (a, oe) ∈ X.pn) (hz : Zc cls d oe) (hf : ∃ vs, oe.data = .fields vs) (he : PE X e te) (hb : attributeBase e n X.env (eval e X.env) = eval e X.env := by rfl) : PE X (.Attribute e n pos) (tXfA X.K a cls d n te) := by
  constructor
  intro pins s σ H Q I h
  apply attr_of hb
  refine thn (he.run pins s σ H _ I h) ?_
  rintro u s1 ⟨x, H1, I1, rx, rfl, C, dd, fs, v, rfl, rfl, XC, no, hd, hl, q⟩
  cases (show u = Value.ref a from rx)
  have at_a := (I1.pin (a, oe) (List.mem_append_left _ hp)).1
  obtain ⟨ws, dat⟩ := hf
  obtain ⟨mA, nsA, rel⟩ := (show ObjOk X.prog X.w H1 s1.heap dd (.xd fs) from I1.hok dd _ hd)
  obtain ⟨od, at_d, look⟩ := lookIn_ns nsA
  have rn := rel n
  rw [hl] at rn
  obtain ⟨u', hu', ru'⟩ := RelO.some_of rn
  have inst : PySem.W.InstAt s1.heap a oe C (some od) := by
    refine ⟨at_a, hz.1, ?_, ?_⟩
    · unfold PySem.W.notCls
      rw [dat] <;> rfl
    · rw [hz.2]
      exact at_d
  have found : PySem.W.lookIn n od = some (some u') := by rw [look, hu']
  exact HandSPX.exc_get I1.kIn inst XC.ga XC.gg XC.exC (PySem.W.findObj_own XC.hdC no rfl found) (handed_of ru') ⟨v, H1, I1.tok _, ru', q⟩
end
/-! ### try: .. except x as n: .., several clauses, one of which takes -/
/-- behind a suite its name is gone -/
def Dn (D : Ends) (i : Nat) : Ends := { nx := fun σ H => D.nx (σ.set i none) H, rt := D.rt, bk := fun σ H => D.bk (σ.set i none) H, ct := fun σ H => D.ct (σ.set i none) H }
def wAll (K : PySem.W.Frag) (D : Ends) (i : Nat) : List (Value × (Addr → Value → Option Addr → TS)) → WX
  | [] => fun _ _ _ _ => False
  | (c, ts) :: r => fun cls d σ H => ∃ b, PySem.W.exmOne K cls c = some b ∧ (b = true → ∀ a, H a = none → i < σ.length → ts a cls d (Dn D i) (σ.set i (some (.ref a))) H) ∧ (b = false → wAll K D i r cls d σ H)
inductive AsOk (X : Cx) (n : Str) : List ExceptHandler → List (Value × (Addr → Value → Option Addr → TS)) → Prop
  | nil : AsOk X n [] []
  | cons {x : Str} {c : Value} {ts : Addr → Value → Option Addr → TS} {b0 : Stmt} {su : List Stmt} {np p' : Pos} {hds : List ExceptHandler} {l : List (Value × (Addr → Value → Option Addr → TS))} (nm : Names X x c)
      (ok : ∀ (a : Addr) (oe : Obj) (cls : Value) (d : Option Addr) (pn : List (Addr × Obj)), Zc cls d oe → (∃ vs, oe.data = .fields vs) → PSs (X.suite a ((a, oe) :: pn)) (b0 :: su) (ts a cls d)) (r : AsOk X n hds l) :
      AsOk X n (.ExceptHandler (some (.Name x np)) (some n) (b0 :: su) p' :: hds) ((c, ts) :: l)
theorem not_frame {B h : Heap} {l : List Env} {a : Addr} {o : Obj} {vs : Array Value} (F : h.FunFrames B l) (at_a : h.get? a = some o) (dat : o.data = .fields vs) : a ∉ frs l := by
  intro m
  obtain ⟨_, o2, at2, nf⟩ := F.mem m
  cases at_a.symm.trans at2
  exact nf _ dat
section
variable {X : Cx} {n : Str} {i : Nat} {body : List Stmt} {h0 : ExceptHandler} {hds : List ExceptHandler} {l : List (Value × (Addr → Value → Option Addr → TS))} {pos : Pos} {tb : WX → TS}
theorem ps_tryAs (hs : X.stack = X.env :: X.outer) (hf : X.env.frame = some X.env.locals) (hN : X.N.Nodup) (hi : X.N[i]? = some n) (hln : X.env.kindOf n = some .local)
    (hb : ∀ (W : WX) (pn : List (Addr × Obj)) (xe : Value → Shared → Prop), Takes (X.tr pn xe) W → PassesOwn (model X.prog X.w) X.A X.env xe → PSs (X.tr pn xe) body (tb W))
    (hh : AsOk X n (h0 :: hds) l) : PS X (.Try body (h0 :: hds) [] [] pos) (fun D σ H => tb (wAll X.K D i l) D σ H) := by
  constructor
  intro pins s σ H D I h
  have ok := I.ok
  have frs_ : X.A.frames = some (X.env :: X.outer) := hs ▸ ok.frames
  have run := hb (wAll X.K D i l) (X.pn ++ pins) (fun e t1 => wpAny (model X.prog X.w) X.A (noteFrame e X.env) (fun _ t2 => wpAny (model X.prog X.w) X.A (setFlight e none) (fun _ t3 =>
    wpAny (model X.prog X.w) X.A (handleBy e X.env (h0 :: hds)) (SP X pins D) X.xe t3) X.xe t2) X.xe t1) ?air PassesOwn.looking
  case air =>
    rintro u t ⟨a, B, t0, pins0, σ1, H1, cls, d, rfl, I0, gr, up, sky, na, hos, bare, wish⟩
    have I1 : Inv X pins σ1 H1 t0 := I0.ofTry ok
    rw [show (X.tr (X.pn ++ pins) _).stack = X.env :: X.outer from hs] at sky
    show wpAny (model X.prog X.w) X.A (noteFrame (.ref a) X.env) _ _ _
    apply Sky.land Zc.steady frs_ hf sky
    intro g fly upg
    have Ig : Inv X pins σ1 H1 { t with heap := g } := I1.landed gr fly.1 (up.trans upg) hos bare
    obtain ⟨og, vg, at_g, zg, dg⟩ := fly.there
    have away := not_frame fly.2.2.1 at_g dg
    have awL : a ≠ X.env.locals := by
      intro z
      exact away (List.mem_filterMap.mpr ⟨X.env, List.mem_cons_self, by rw [hf, z]⟩)
    have awF : a ∉ X.fs := by
      intro m
      obtain ⟨en, men, q⟩ := List.mem_filterMap.mp m
      exact away (List.mem_filterMap.mpr ⟨en, List.mem_cons_of_mem _ men, q⟩)
    have Sg := Ig.suite at_g dg na awL awF
    have types : PySem.W.Looks (model X.prog X.w) g (typeOf (.ref a)) cls := by
      intro A' Q' E' t' k q
      apply wpAny_typeOf_ref (k _ _ at_g)
      rw [zg.1]
      exact q
    clear h
    have inside : i < σ1.length := by
      rw [I1.len]
      exact (List.getElem?_eq_some_iff.mp hi).1
    have clauses : ∀ {hs' : List ExceptHandler} {l' : List (Value × (Addr → Value → Option Addr → TS))}, AsOk X n hs' l' → wAll X.K D i l' cls d σ1 H1 → wpAny (model X.prog X.w) X.A (handleBy (.ref a) X.env hs') (SP X pins D) X.xe { t with heap := g } := by
      intro hs' l' A
      induction A with
      | nil => exact fun z => z.elim
      | @cons x c ts b0 su np p' hs2 l2 nm okS rest ih =>
        rintro ⟨b, mt, yes, no⟩
        refine wpAny_handleBy_cons (codeAny_handlers_test ?_) (by intro z; cases z)
        have meets := PySem.W.exm_one (M := model X.prog X.w) Ig.kIn types mt
        have name_ : ∀ {Q' : Value → Shared → Prop} {E' : Value → Shared → Prop}, Q' c { t with heap := g } → wpAny (model X.prog X.w) (X.A.mark (some (.ref a))) (eval (.Name x np) X.env) Q' E' { t with heap := g } := by
          intro Q' E' q
          rcases nm with ⟨gl, ndb, hm | ⟨hm, hv, nn⟩⟩
          · exact ld_glob (X := X.suite a ((a, og) :: (X.pn ++ pins))) Sg gl hm q ndb
          · exact ld_blt (X := X.suite a ((a, og) :: (X.pn ++ pins))) Sg gl hm hv q nn ndb
        apply name_
        apply meets.here
        cases b with
        | false => exact ih (no rfl)
        | true =>
          apply codeAny_handlers_suite_as
          apply HandSPX.lands_againZ fly
          intro k flk upk
          have Ik : Inv X pins σ1 H1 { t with heap := k } := I1.landed gr flk.1 ((up.trans upg).trans upk) hos bare
          obtain ⟨ok_, vk, at_k, zk, dk⟩ := flk.there
          have Sk := Ik.suite at_k dk na awL awF
          apply store_ok (X := X.suite a ((a, ok_) :: (X.pn ++ pins))) (v := .ref a) Sk hN hi (.inl hln) rfl _ (.inr hln)
          intro t5 S5
          have suite := (okS a ok_ cls d (X.pn ++ pins) zk ⟨_, dk⟩).run [] t5 _ H1 _ S5 (yes rfl a na inside)
          refine wpAny_mono suite (fun f t6 out => ?_) (fun _ _ z => z.elim)
          have away_ : ∀ {σ6 : L2.St} {H6 : Hp} {Q' : Shared → Prop}, Inv (X.suite a ((a, ok_) :: (X.pn ++ pins))) [] σ6 H6 t6 → (∀ t7, Inv X pins (σ6.set i none) H6 t7 → Q' t7) →
              wpAny (model X.prog X.w) X.A (do bindName X.env n .none; unbindBehindTheSuite X.env n p') (fun _ t7 => Q' t7) X.xe t6 := by
            intro σ6 H6 Q' S6 q
            exact gone_ok (S6.unsuite ok) hN hi hln q
          cases f with
          | next => obtain ⟨_, _, S6, q6⟩ := out; exact away_ S6 fun _ I7 => ⟨_, _, I7, q6⟩
          | brk => obtain ⟨_, _, S6, q6⟩ := out; exact away_ S6 fun _ I7 => ⟨_, _, I7, q6⟩
          | cont => obtain ⟨_, _, S6, q6⟩ := out; exact away_ S6 fun _ I7 => ⟨_, _, I7, q6⟩
          | ret u => obtain ⟨_, _, _, S6, r6, q6⟩ := out; exact away_ S6 fun _ I7 => ⟨_, _, _, I7, r6, q6⟩
    exact clauses hh wish
  apply wpAny_Try_except
  refine wpAny_mono (run.run [] s σ H D (I.toTry _) h) (fun f t1 out => ?_) (fun _ _ z => z)
  cases f with
  | next => obtain ⟨_, _, I1, q⟩ := out; exact wpAny_execs_nil ⟨_, _, I1.ofTry ok, q⟩
  | brk => obtain ⟨_, _, I1, q⟩ := out; exact ⟨_, _, I1.ofTry ok, q⟩
  | cont => obtain ⟨_, _, I1, q⟩ := out; exact ⟨_, _, I1.ofTry ok, q⟩
  | ret u => obtain ⟨_, _, _, I1, r, q⟩ := out; exact ⟨_, _, _, I1.ofTry ok, r, q⟩
end
/-! ### a def that is called while an error is handled: it raises nothing -/
structure FnP (P : Program) (w : World) (K : PySem.W.Frag) (mg : Str → Option Value) (base : Heap) (k : Nat) (f : Addr) (fd : FuncData) (ps : List Str) (sp : Addr → Value → Option Addr → Sp) : Prop where
  len : ∀ a cls d vs H Q E, sp a cls d vs H Q E → vs.length = ps.length
  run : ∀ (A : Around) (outer : List Env) (s : Shared) (H : Hp) (args : Args) (us : List Value) (vs : List V) (Q : VK) (E : XK) (p : Addr × Obj) (cls : Value) (d : Option Addr), L2H.RoomH k A → L2H.PinOk outer H s p → Zc cls d p.2 → (∃ vs, p.2.data = .fields vs) →
    Env0 P w K mg base A outer s H → BindsTo s fd args (ps.zip us) → Vals vs us → sp p.1 cls d vs H Q E → codeAny (model P w) A (.call (.ref f) args) (CR CX0 outer P w H s Q E) s
theorem fn_ofP {P : Program} {w : World} {K : PySem.W.Frag} {mg : Str → Option Value} {base : Heap} {k : Nat} {f : Addr} {x qual : Str} {st : Stmt} {fd : FuncData} {N ps : List Str} {sp : Addr → Value → Option Addr → Sp} (F : Fun K x qual st f fd) (S : FnScope N ps (defScope st))
    (len : ∀ a cls d vs H Q E, sp a cls d vs H Q E → vs.length = ps.length)
    (body : ∀ (cdv : Value) (A : Around) (outer : List Env) (s : Shared) (H : Hp) (vs : List V) (Q : VK) (E : XK) (p : Addr × Obj) (cls : Value) (d : Option Addr), Zc cls d p.2 → (∃ vs, p.2.data = .fields vs) → L2H.RoomH k (A.deeper (envOfC qual (defScope st) s.heap.objs.size f cdv)) → sp p.1 cls d vs H Q E →
      ∃ t, PSs (L2H.cxH CX0 P w K mg base N qual (defScope st) f cdv A outer s H E p) (defBody st) t ∧ t { nx := fun _ H' => Q .non H', rt := Q } (L2.start N vs) H) : FnP P w K mg base (k + 1) f fd ps sp := by
  obtain ⟨oc, od, kV, doc, pm, an, cdv, ct, osl, rfl, lk, hcd⟩ := F.ex
  constructor
  · exact len
  intro A outer s H args us vs Q E p cls d room pin zc dat e0 bd rv hsp
  have inK : K.In s.heap := e0.mod.kin.keeps fun b o z => (e0.bs b o z).1
  have free_ : s.heap.NoLimit := e0.mod.nolimit.keeps fun b o z => (e0.bs b o z).1
  have kinds : ∀ y ∈ ps.zip us, (defScope st).names.lookup y.1 = some .local ∨ ((defScope st).names.lookup y.1 = some .cell ∧ ((cellsFrom (s.heap.objs.size + 1) (defScope st).names []).lookup y.1).isSome = true) := by
    rintro ⟨y, v⟩ hy
    rcases S.par y (List.of_mem_zip hy).1 with z | z
    · exact .inl z
    · exact .inr ⟨z, PySem.W.cellsFrom_some _ _ _ (.inl z)⟩
  apply codeAny_call_function room.depth (inK _ _ lk) rfl S.co S.gen rfl (PySem.W.codeRec_of inK hcd)
  apply bd
  apply wpAny_newFunctionEnv_cells S.kind kinds
  rintro env rfl s1 inside
  refine ⟨free_.keeps inside.toInCall.keep, codeAny_func ?_⟩
  obtain ⟨t, term, reading⟩ := body cdv A outer s H vs Q E p cls d zc dat (room.deeper _) hsp
  have I := L2H.inv_startH (CX := CX0) (E := E) S pin e0 (len _ _ _ _ _ _ _ hsp) rv inside
  refine wpAny_mono (term.run [] s1 (L2.start N vs) H _ I reading) (fun fl s' out => ?_) fun _ _ z => z
  cases fl with
  | ret u => obtain ⟨v, _, H', J, r, q⟩ := out; exact ⟨v, H', J.os, J.bare, J.base, J.hok, r, q⟩
  | next => obtain ⟨_, H', J, q⟩ := out; exact ⟨.non, H', J.os, J.bare, J.base, J.hok, rfl, q⟩
  | brk => obtain ⟨_, _, _, q⟩ := out; exact q.elim
  | cont => obtain ⟨_, _, _, q⟩ := out; exact q.elim
section
variable {X : Cx} {k : Nat} {f a : Addr} {oe : Obj} {cls : Value} {d : Option Addr} {fd : FuncData} {ps : List Str} {sp : Addr → Value → Option Addr → Sp} {x : Str} {q pos : Pos} {e : Expr} {es : List Expr} {t : TA}
theorem pe_callP (hp : (a, oe) ∈ X.pn) (hz : Zc cls d oe) (hf : ∃ vs, oe.data = .fields vs) (F : FnP X.prog X.w X.K X.mg X.base k f fd ps sp) (hr : L2H.RoomH k X.A) (hg : Gl X x) (hm : X.mg x = some (.ref f)) (hk : PySem.W.keepIn X.K (.ref f) = true) (hb : Binds X.K fd ps [])
    (ha : PA X (e :: es) t) (hdb : (x == ("__debug__" : Str)) = false := by decide) (he : starEach (e :: es) X.env = (false, eval e X.env) :: starEach es X.env := by rfl) (hpl : (backTo pos (starEach es X.env)).any (·.1) = false := by rfl) :
    PE X (.Call (.Name x q) (e :: es) [] pos) (fun σ H Q => t σ H fun vs H1 => sp a cls d vs H1 Q E0) := by
  constructor
  intro pins s σ H Q I h
  apply wpAny_Call_Name_kw
  refine ld_glob I hg hm ?_ hdb
  refine PySem.W.callWith_K (h₀ := X.base) I.ok.mod.kin hk (thn (ha.run pos pins s σ H _ I h) ?_) he hpl
  rintro us s1 ⟨vs, H1, I1, r1, q1⟩
  refine ⟨I1.kIn, ?_⟩
  have ln : (us ++ ([] : List Value)).length = ps.length := by
    rw [List.append_nil, ← r1.length]
    exact F.len _ _ _ _ _ _ _ q1
  have bd := hb s1 us I1.kIn ln
  rw [List.append_nil] at bd
  have P1 := I1.pin (a, oe) (List.mem_append_left _ hp)
  have pin : L2H.PinOk X.stack H1 s1 (a, oe) := by
    refine ⟨P1.1, P1.2.1, fun m => ?_, P1.2.2.2.2⟩
    rcases List.mem_cons.mp (I1.stkSub a m) with z | z
    · exact P1.2.2.1 z
    · exact P1.2.2.2.1 z
  refine wpAny_call (codeAny_mono (F.run X.A X.stack s1 H1 ⟨us, []⟩ us vs Q E0 (a, oe) cls d hr pin hz hf I1.env0 bd r1 q1) fun r s' out => ?_)
  cases r with
  | error z => exact (show False from out).elim
  | ok fl =>
    cases fl with
    | ret u => exact I1.after out
    | next => exact False.elim out
    | brk => exact False.elim out
    | cont => exact False.elim out
end
open NdefX
/-! ### own error classes over a built-in one -/
/-- the built-in base B, its __new__, its __init__, its mro -/
structure ErB (B newId initId : String) (bmB : List Value) : Prop where
  fb : ExcBaseFacts B newId initId bmB
  kx : PySem.W.KxsFacts B initId
  sf : StoreFacts B bmB "object.__setattr__" "object"
theorem erb_VE : ErB "ValueError" "ValueError.__new__" "ValueError.__init__" [.type "ValueError", .type "Exception", .type "BaseException", .type "object"] := ⟨PySem.F.excBase_ValueError, PySem.W.kxs_ValueError, PySem.F.store_ValueError⟩
theorem erb_LE : ErB "LookupError" "LookupError.__new__" "LookupError.__init__" [.type "LookupError", .type "Exception", .type "BaseException", .type "object"] := ⟨PySem.F.excBase_LookupError, PySem.W.kxs_LookupError, PySem.F.store_LookupError⟩
theorem erb_IE : ErB "IndexError" "IndexError.__new__" "IndexError.__init__" [.type "IndexError", .type "LookupError", .type "Exception", .type "BaseException", .type "object"] := ⟨PySem.F.excBase_IndexError, PySem.W.kxs_IndexError, PySem.F.store_IndexError⟩
/-- what stands written of an own error class at C -/
structure ErC (K : PySem.W.Frag) (C : Addr) (newId : String) (bmB : List Value) : Prop where
  cls : ∃ nm q N bs bm sn sub ab col dd k0 k1 k2 k3 k5, K.lookup C = some (excClassObj nm q C N bs bm true sn sub ab col dd k0 k1 k2 k3 k5 newId) ∧ PySem.W.excTail bmB bm = true
  ov : PySem.W.excOver K C bmB = true
  sa : PySem.W.findIn K (.ref C) "__setattr__" = some (some (.builtin "object.__setattr__"))
  ga : PySem.W.findIn K (.ref C) "__getattribute__" = some (some (.builtin "BaseException.__getattribute__"))
  gt : PySem.W.findIn K (.ref C) "__getattr__" = some none
  ex : PySem.W.subIn K (.ref C) (.type "BaseException") = some true
  ty : PySem.W.typeIn K (.ref C) = some (.type "type")
  kp : PySem.W.keepIn K (.ref C) = true
  cl : PySem.W.findIn K (.ref C) "__class__" = some (some (.builtin "object.__class__"))
  ob : PySem.W.mroIn K C (.type "object") = some true
section
variable {pr : Program} {wo : World} {A : Around} {Ex : Value → Shared → Prop} {hh : Heap} {gg : Array GenState} {dr : Drawn} {tt : Nat} {oo : OsState}
variable {nm qn : Str} {C N : Addr} {bs bm bmB : List Value} {hdct : Bool} {sn : List Str} {sub : List Value} {ab : Bool} {col : Option Bool} {dd : Option Addr} {k0 k1 k2 k3 k5 : Option Value} {B newId initId : String}
theorem mw_call (FB : ExcBaseFacts B newId initId bmB) {u e t0 : Addr} {rest : List Value} {Qv : Value → Shared → Prop}
    (hC : hh.get? C = some (excClassObj nm qn C N bs bm hdct sn sub ab col dd k0 k1 k2 k3 k5 newId)) (he : hh.get? e = some (PySem.HandSPX.excO C t0)) (hu : hh.get? u = some (PySem.W.kxs_mw initId e)) (hrest : rest.length ≤ sizeLine)
    (hq : ∀ h' t1, (∀ b o, b ≠ e → hh.get? b = some o → h'.get? b = some o) → h'.get? e = some (PySem.HandSPX.excO C t1) → Qv .none ⟨h', gg, dr, tt, oo⟩) :
    wpAny (model pr wo) A (call (.ref u) rest) Qv Ex ⟨hh, gg, dr, tt, oo⟩ := by
  refine wpAny_call (codeAny_of_tree ?_)
  show wpAny _ A.in1 (callAny (.ref u) ⟨rest, []⟩) _ _ _
  simp only [callAny]
  refine wpAny_bind (wpAny_load hu ?_)
  refine PySem.W.KFB.if_so (show ((Value.type "method-wrapper" == .type "method") || (Value.type "method-wrapper" == .type "builtin_function_or_method") || (Value.type "method-wrapper" == .type "method-wrapper")) = true by decide) ?_
  refine wpAny_bind (PySem.W.check_bound_init FB.toExcCallFacts hC he rfl ?_)
  refine wpAny_bind (wpAny_pure (wpAny_pure ⟨plainId_quiet FB.init.plain _, codeAny_builtin FB.initEntry ?_⟩))
  refine PySem.W.exc_init_tree (cls := .ref C) (t0 := t0) (dv := none) (c2 := .none) (c3 := .none) (b4 := .bool false) he hrest fun h' k e' _ => hq h' _ k e'
end
section
variable {X : Cx} {pins : List (Addr × Obj)} {σ : L2.St} {H : Hp} {s : Shared} {B newId initId : String} {bmB : List Value}
/-! ### self.f = y -/
theorem taker0 {K : PySem.W.Frag} {C : Addr} {f : Str} (h : PySem.W.findIn K (.ref C) f = some none) : PySem.W.takerIn K C f = some none := by
  unfold PySem.W.takerIn
  rw [h]
  rfl
theorem gst_new {a C : Addr} {f : Str} {y : V} {u : Value} {Qu : Unit → Shared → Prop} {Ex : Value → Shared → Prop} {A : Around} (E : ErB B newId initId bmB) (T : ErC X.K C newId bmB) (I : Inv X pins σ H s) (e : H a = some (exo a C none)) (hno : PySem.W.findIn X.K (.ref C) f = some none) (ry : RelV y u)
    (h : ∀ dx s', H dx = none → dx ≠ a → Inv X pins σ (upd (upd H dx (exd dx [(f, y)])) a (exo a C (some dx))) s' → Qu () s') : wpAny (model X.prog X.w) A (setAttr (.ref a) f u) Qu Ex s := by
  obtain ⟨nm, q, N, bs, bm, sn, sub, ab, col, dd, k0, k1, k2, k3, k5, hC, hbm⟩ := T.cls
  have hcl : PySem.W.clsIn X.K C = some { name := nm, bases := bs, mro := .ref C :: bm, ns := N, qualname := q, hasDict := true, slotNames := sn, subclasses := sub, abstract := ab, collection := col, hasDel := false } := by unfold PySem.W.clsIn; rw [hC] <;> rfl
  obtain ⟨t1, ho⟩ := exo_at I.hok e
  obtain ⟨hp, g, d, t, os⟩ := s
  have IA : PySem.W.InstAt hp a (PySem.HandSPX.excO C t1) C none := ⟨ho, rfl, rfl, trivial⟩
  refine PySem.W.set_plain I.kIn IA T.sa ?_
  refine PySem.W.osa_openX E.sf (s := ⟨hp, g, d, _, os⟩) I.kIn IA T.ov (taker0 hno) fun b => ?_
  have hcls : PySem.W.Looks (model X.prog X.w) hp (classData C) _ := PySem.W.looks_clsIn I.kIn hcl
  have hxs : a ≠ hp.objs.size := Nat.ne_of_lt (Heap.lt_size ho)
  show wpAny _ _ (Builtin.ObjectAttr.storeInOwnDict (.ref a) (.ref C) (.str f _) f u b) _ _ _
  unfold Builtin.ObjectAttr.storeInOwnDict Builtin.ObjectAttr.ownDictForStores
  repeat (first | with_reducible refine PySem.HandSPX.store_in_new ?_ ?_ | with_reducible refine wpAny_loadPart_at ho ?_ | with_reducible refine hcls.at ?_ | wp_step)
  · exact ⟨_, #[], _, (Heap.get?_update_ne _ _ _ _ hxs.symm).trans (Heap.get?_push_at rfl rfl), rfl, fun e he => absurd he (by simp), fun _ => rfl⟩
  · intro h' tk' hn' hs
    have hx1 : (hp.push { cls := .type "dict", data := .dict #[] }).get? a = some (PySem.HandSPX.excO C t1) := Heap.get?_push_of_some _ ho
    have k : ∀ b o, b ≠ a → hp.get? b = some o → h'.get? b = some o := fun b o hb ho' => (hs.2 b (Nat.ne_of_lt (Heap.lt_size ho'))).trans ((Heap.get?_update_ne _ _ _ _ hb).trans (Heap.get?_push_of_some _ ho'))
    have hx := (hs.2 a hxs).trans (Heap.get?_update_self _ hx1 rfl)
    have dn := Nat.le_refl hp.objs.size
    have hnd : H hp.objs.size = none := I.hok.fresh dn
    have nd : ∀ {b : Addr} {o : Obj}, hp.get? b = some o → b ≠ hp.objs.size := fun q => Nat.ne_of_lt (Heap.lt_size q)
    have na : ∀ {b : Addr}, H b = none → b ≠ a := fun {b} n z => by
      rw [z, e] at n
      cases n
    have U1 : Un X.fs [] H (upd (upd H hp.objs.size (exd hp.objs.size [(f, y)])) a (exo a C (some hp.objs.size))) hp h' := {
      keep := fun b o q n _ _ => k b o (na n) q
      slot := fun b o q n _ _ => ⟨o.slots, k b o (na n) q⟩
      free := fun b o q n _ => (upd_ne (na n)).trans ((upd_ne (nd q)).trans n)
      there := fun b o q _ => by
        by_cases hb : b = a
        · exact ⟨_, hb ▸ hx⟩
        · exact ⟨o, k b o hb q⟩
      tups := fun b xs q => (upd_ne (at_ne e q exo_tup)).trans ((upd_ne (ne_of_none q hnd)).trans q)
      frzs := fun b o v q => (upd_ne (at_ne e q exo_frz)).trans ((upd_ne (ne_of_none q hnd)).trans q)
      tbls := fun b ps q => ⟨#[], by rw [upd_ne (at_ne e q exo_tbl), upd_ne (ne_of_none q hnd), q]; simp⟩ }
    refine h hp.objs.size _ hnd hxs.symm (I.un (t' := tk') U1 fun b o q => ?_)
    by_cases hb : b = a
    · subst hb
      rw [upd_same] at q
      cases q
      exact exo_ok hx
    · rw [upd_ne hb] at q
      by_cases hd : b = hp.objs.size
      · subst hd
        rw [upd_same] at q
        cases q
        exact exd_ok hn' (relO_put (fs := []) ry fun g => True.intro)
      · rw [upd_ne hd] at q
        refine (I.hok b o q).stay (fun c v hc z => k c v ?_ z) (fun c hc => (upd_ne (at_ne e hc exo_own)).trans ((upd_ne (ne_of_none hc hnd)).trans hc)) fun c xs hc => (upd_ne (at_ne e hc exo_tup)).trans ((upd_ne (ne_of_none hc hnd)).trans hc)
        rcases hc with hc | hc
        · rw [hc]
          exact hb
        · exact at_ne e hc exo_own
theorem gst_old {a C dx : Addr} {f : Str} {y : V} {u : Value} {fs : List (Str × V)} {Qu : Unit → Shared → Prop} {Ex : Value → Shared → Prop} {A : Around} (E : ErB B newId initId bmB) (T : ErC X.K C newId bmB) (I : Inv X pins σ H s) (e : H a = some (exo a C (some dx))) (ed : H dx = some (exd dx fs)) (hl : fs.length ≤ 900)
    (hno : PySem.W.findIn X.K (.ref C) f = some none) (ry : RelV y u) (h : ∀ s', Inv X pins σ (upd H dx (exd dx ((f, y) :: fs))) s' → Qu () s') : wpAny (model X.prog X.w) A (setAttr (.ref a) f u) Qu Ex s := by
  obtain ⟨nm, q, N, bs, bm, sn, sub, ab, col, dd, k0, k1, k2, k3, k5, hC, hbm⟩ := T.cls
  have hcl : PySem.W.clsIn X.K C = some { name := nm, bases := bs, mro := .ref C :: bm, ns := N, qualname := q, hasDict := true, slotNames := sn, subclasses := sub, abstract := ab, collection := col, hasDel := false } := by unfold PySem.W.clsIn; rw [hC] <;> rfl
  obtain ⟨t1, ho⟩ := exo_at I.hok e
  obtain ⟨mA, hns, rel⟩ := exd_at I.hok ed
  have hw := within_of rel
  obtain ⟨hp, g, d, t, os⟩ := s
  obtain ⟨oD, _, _, hoD, _, _⟩ := hns.count hw
  have IA : PySem.W.InstAt hp a { cls := .ref C, dict := some dx, data := .fields #[.ref t1, .none, .none, .none, .bool false, .none] } C (some oD) := ⟨ho, rfl, rfl, hoD⟩
  refine PySem.W.set_plain I.kIn IA T.sa ?_
  refine PySem.W.osa_openX E.sf (s := ⟨hp, g, d, _, os⟩) I.kIn IA T.ov (taker0 hno) fun b => ?_
  have hcls : PySem.W.Looks (model X.prog X.w) hp (classData C) _ := PySem.W.looks_clsIn I.kIn hcl
  show wpAny _ _ (Builtin.ObjectAttr.storeInOwnDict (.ref a) (.ref C) (.str f _) f u b) _ _ _
  unfold Builtin.ObjectAttr.storeInOwnDict Builtin.ObjectAttr.ownDictForStores
  repeat (first | with_reducible refine PySem.OEX.store_in_old hns hw (by rw [List.length_map]; omega) ?_ | with_reducible refine wpAny_loadPart_at ho ?_ | with_reducible refine hcls.at ?_ | wp_step)
  intro h' tk' hn hs
  have k : ∀ b o, b ≠ dx → hp.get? b = some o → h'.get? b = some o := fun b o hb ho' => (hs.2 b hb).trans ho'
  have hd : ∃ o, h'.get? dx = some o := by
    obtain ⟨o, _, _, e', _⟩ := hn
    exact ⟨o, e'⟩
  exact h _ (I.write (t' := tk') (x := dx) (e := dx) (o := exd dx ((f, y) :: fs)) (by rw [ed]; exact True.intro) (.inl rfl) k hd (exd_ok hn (relO_put ry rel)))
def tGst (K : PySem.W.Frag) (newId : String) (bmB : List Value) (f : Str) (to te : TE) : TS := fun D σ H => te σ H fun y H1 => to σ H1 fun x H2 => ∃ a C : Addr, x = .ref a ∧ ErC K C newId bmB ∧ PySem.W.findIn K (.ref C) f = some none ∧
  ((H2 a = some (exo a C none) ∧ ∀ dx, H2 dx = none → dx ≠ a → D.nx σ (upd (upd H2 dx (exd dx [(f, y)])) a (exo a C (some dx)))) ∨
    ∃ (dx : Addr) (fs : List (Str × V)), H2 a = some (exo a C (some dx)) ∧ H2 dx = some (exd dx fs) ∧ fs.length ≤ 900 ∧ D.nx σ (upd H2 dx (exd dx ((f, y) :: fs))))
theorem ps_gst {o e : Expr} {to te : TE} {f : Str} {p' pos : Pos} (E : ErB B newId initId bmB) (ho : PE X o to) (he : PE X e te) (hs : swapsWith e (some (.Attribute o f p')) pos.line X.env = pure false := by rfl) : PS X (.Assign [.Attribute o f p'] e pos) (tGst X.K newId bmB f to te) := by
  refine ⟨fun pins s σ H D I h => ?_⟩
  refine plainObj_wpAny_Assign_Attribute (thn (he.run pins s σ H _ I h) fun v s1 ⟨y, H1, I1, r1, q1⟩ => thn (ho.run pins s1 σ H1 _ I1 q1) fun u s2 ⟨x, H2, I2, r2, a, C, ex, T, hno, q⟩ => ?_) hs
  subst ex
  obtain rfl : u = Value.ref a := r2
  rcases q with ⟨ea, q⟩ | ⟨dx, fs, ea, ed, hl, q⟩
  · exact gst_new E T I2 ea hno r1 fun dx s' n ne J => ⟨σ, _, J, q dx n ne⟩
  · exact gst_old E T I2 ea ed hl hno r1 fun s' J => ⟨σ, _, J, q⟩
end
section
variable {X : Cx} {pins : List (Addr × Obj)} {σ : L2.St} {H : Hp} {s : Shared} {B newId initId : String} {bmB : List Value}
/-! ### super().__init__(text), the first statement of an own error's __init__ -/
/-- a method with super(): its def at f, its code object at c -/
structure SupM (X : Cx) (f c : Addr) (ar : Arg) : Prop where
  fu : X.env.func = some f
  co : X.env.code = .ref c
  fd : ∃ (o : Obj) (fd : FuncData), X.K.lookup f = some o ∧ o.data = .func fd ∧ (fd.params.posonlyargs ++ fd.params.args).head? = some ar
  cd : ∃ (o : Obj) (vs : Array Value) (file : Str) (tk : Tok), X.K.lookup c = some o ∧ o.data = .fields vs ∧ vs[2]? = some (.str file tk) ∧ ((X.prog.main.file : Str) == file) = true
  ks : X.env.kindOf "super" = some .globalImplicit
  kc : X.env.kindOf "__class__" = some .free
  ka : X.env.kindOf ar.arg = some .local
  top : (X.prog.main.scope.names.lookup ("super" : Str)).isSome = false
  no : X.mg "super" = none
  op : PySem.W.nsIn X.K cStatics "thirdparty.any" = some none
theorem sup_stmt {f c a C : Addr} {ar : Arg} {i j : Nat} {body : List Stmt} {m : Str} {n : Nat} {pl : Sem Bool} {p0 p1 p2 p3 p4 p5 : Pos} (E : ErB B newId initId bmB) (T : SupM X f c ar) (O : ErC X.K C newId bmB) (I : Inv X pins σ H s)
    (hi : X.N[i]? = some ar.arg) (hs : σ[i]? = some (some (.ref a))) (hj : X.N[j]? = some ("__class__" : Str)) (hsj : σ[j]? = some (some (.ref C))) (ha : H a = some (exo a C none))
    (hsup : PySem.W.ks_superIn X.K C C "__init__" = some (some (.builtin initId))) (hB : PySem.W.subIn X.K (.ref C) (.type B) = some true) (hDD : PySem.W.mroIn X.K C (.ref C) = some true)
    (he : eval (.Call (.Attribute (.Call (.Name "super" p0) [] [] p1) "__init__" p2) [.Constant (.str m) n p3] [] p4) X.env = (do
      let ov ← attributeBase (.Call (.Name "super" p0) [] [] p1) "__init__" X.env (eval (.Call (.Name "super" p0) [] [] p1) X.env)
      standAt p2.atName
      let (g, first) ← holding [ov] (getMethod ov "__init__" pl)
      callWith p4 g first (backTo p4 (starEach [.Constant (.str m) n p3] X.env)) []))
    (hint : interactive X.env = false) (hsw : swapsWith (.Call (.Attribute (.Call (.Name "super" p0) [] [] p1) "__init__" p2) [.Constant (.str m) n p3] [] p4) none p5.line X.env = pure false) :
    _root_.PySem.wpAt (model X.prog X.w) X.A (.func body X.env) (exec (.Expr (.Call (.Attribute (.Call (.Name "super" p0) [] [] p1) "__init__" p2) [.Constant (.str m) n p3] [] p4) p5) X.env) (fun fl s' => fl = .next ∧ Inv X pins σ H s') X.xe s := by
  refine ks_wpAt_Expr_any ?_ hint hsw
  refine ks_wpAt_MethodCall (pl := pl) ?_ he
  have KX : X.K.In s.heap := I.kIn
  obtain ⟨of, fd, hf, hfd, hp⟩ := T.fd
  obtain ⟨oc, vs, file, tk, hc, hoc, hvs, hfile⟩ := T.cd
  obtain ⟨nm, q, N, bs, bm, sn, sub, ab, col, dd, k0, k1, k2, k3, k5, hC, hbm⟩ := O.cls
  have hcl : PySem.W.clsIn X.K C = some { name := nm, bases := bs, mro := .ref C :: bm, ns := N, qualname := q, hasDict := true, slotNames := sn, subclasses := sub, abstract := ab, collection := col, hasDel := false } := by unfold PySem.W.clsIn; rw [hC] <;> rfl
  obtain ⟨t1, ho⟩ := exo_at I.hok ha
  refine ks_wpAt_super_base (env := X.env) T.ks T.kc (by decide) T.fu (KX _ _ hf) hfd hp T.co (KX _ _ hc) hoc hvs hfile T.top ?_
  obtain ⟨mb, h1, h2⟩ := I.mod.blt
  refine PySem.W.ks_loadName_global I.ok.kind T.ks (Calls.loadGlobal_builtin (by rw [I.ok.glob]; exact I.mod.glob.keeps I.bk) T.no (by rw [I.ok.blt]; exact h1.keeps I.bk) ((h2 "super" (by decide)).trans (by decide +kernel)) ⟨rfl, ?_⟩)
  obtain ⟨mm, hn, hl⟩ := I.loc
  obtain ⟨uc, rc, lc⟩ := hl j _ _ hj hsj (.inr (.inr T.kc))
  obtain ⟨ua, ra, la⟩ := hl i _ _ hi hs (.inl T.ka)
  obtain rfl : uc = Value.ref C := rc
  obtain rfl : ua = Value.ref a := ra
  obtain ⟨cc, hcc, hcell⟩ : ∃ cc, X.env.cells.lookup ("__class__" : Str) = some cc ∧ s.heap.IsCell cc (some (Value.ref C)) := by
    rcases lc with ⟨z, _⟩ | ⟨_, z⟩
    · rw [T.kc] at z
      cases z
    · exact z
  have hma : mm ar.arg = some (Value.ref a) := by
    rcases la with ⟨_, z⟩ | ⟨z, _⟩
    · exact z
    · rw [T.ka] at z
      rcases z with z | z <;> cases z
  refine wpAny_loadName_free I.ok.kind T.kc hcc hcell ?_
  refine wpAny_loadName_local I.ok.kind T.ka hn hma ?_
  have hCh := KX _ _ hC
  refine ks_wpAny_isType_cls hCh rfl ⟨rfl, ?_⟩
  obtain ⟨hp', g, d, t, os⟩ := s
  refine ks_wpAny_call_super hCh rfl ho rfl (fun z e => by cases e) (PySem.W.looks_mroIn KX hDD) fun h1 so kk => ?_
  have I1 : Inv X pins σ H ⟨h1, g, d, t, os⟩ := I.kept (t' := t) kk
  have hin : PySem.W.Looks (model X.prog X.w) h1 (isInstance (.ref a) (.type B)) true := (show PySem.W.InstAt h1 a (PySem.HandSPX.excO C t1) C none from ⟨kk _ _ ho, rfl, rfl, trivial⟩).type.andThen (PySem.W.looks_subIn I1.kIn hB)
  have hsup' := hsup
  unfold PySem.W.ks_superIn at hsup'
  rw [hcl] at hsup'
  refine PySem.W.kxs_getMethod E.kx so (PySem.W.looks_opaque I1.kIn T.op) (l₀ := .ref C :: bm) (fun A Q E s k q => wpAny_bind ((PySem.W.looks_clsIn I1.kIn hcl) A _ E s k (wpAny_pure q))) rfl I1.kIn hsup' hin (fun z => ?_) (by decide) ?_
  · subst z
    rw [show hp'.get? a = _ from hCh] at ho
    cases ho
  have kk2 : ∀ b o, h1.get? b = some o → (h1.push (PySem.W.kxs_mw initId a)).get? b = some o := fun b o e => Heap.get?_push_of_some _ e
  have I2 : Inv X pins σ H ⟨h1.push (PySem.W.kxs_mw initId a), g, d, t + 1, os⟩ := I1.kept (t' := t + 1) kk2
  have hmw : (h1.push (PySem.W.kxs_mw initId a)).get? h1.objs.size = some (PySem.W.kxs_mw initId a) := Heap.get?_push_at rfl rfl
  show wpAny _ _ (callWith p4 (.ref h1.objs.size) [] ((false, eval (.Constant (.str m) n p3) X.env) :: backTo p4 (starEach [] X.env)) []) _ _ _
  refine PySem.W.kxs_callWith (i := initId) (x := a) rfl (PySem.Calls.evalArgs_plain (PySem.Calls.spliced_cons (PySem.Calls.Constant_str (PySem.Calls.spliced_nil ⟨hmw, ?_⟩))))
  show wpAny _ _ (call (.ref h1.objs.size) [.str m (t + 1)]) _ _ _
  refine mw_call E.fb (kk2 _ _ (kk _ _ hCh)) (kk2 _ _ (kk _ _ ho)) hmw (by show 1 ≤ sizeLine; decide) fun h3 t3 k3 e3 => ⟨rfl, ?_⟩
  have J := (I2.tok (t + 1 + 1)).write (h' := h3) (t' := t + 1 + 1) (x := a) (e := a) (o := exo a C none) (by rw [ha]; exact True.intro) (.inl rfl) k3 ⟨_, e3⟩ (exo_ok e3)
  rw [show upd H a (exo a C none) = H from funext fun z => by
    by_cases hz : z = a
    · rw [hz, upd_same, ha]
    · rw [upd_ne hz]] at J
  exact J
end
section
variable {P : Program} {w : World} {K : PySem.W.Frag} {mg : Str → Option Value} {base : Heap} {B newId initId : String} {bmB : List Value}
/-- what stands written of an own error's __init__: its words F, the def at f, its class at C -/
structure IniM (P : Program) (K : PySem.W.Frag) (mg : Str → Option Value) (B newId initId : String) (bmB : List Value) (f C : Addr) (F : NF) (ar : Arg) (doc pm ctv : Value) : Prop where
  lk : ∃ (od : Option Addr) (sl : Array (Option Value)), K.lookup f = some ⟨.type "function", od, .func (F.fd doc pm ctv), sl⟩
  cd : PySem.W.codeIn K (.ref F.c) F.qual = true
  cl : ∃ (cc : Addr) (o : Obj), F.cl = [(("__class__" : Str), cc)] ∧ K.lookup cc = some o ∧ o.data = .cell (some (.ref C))
  hd : (F.params.posonlyargs ++ F.params.args).head? = some ar
  fl : ∃ (o : Obj) (vs : Array Value) (file : Str) (tk : Tok), K.lookup F.c = some o ∧ o.data = .fields vs ∧ vs[2]? = some (.str file tk) ∧ ((P.main.file : Str) == file) = true
  ks : F.scope.names.lookup ("super" : Str) = some .globalImplicit
  kc : F.scope.names.lookup ("__class__" : Str) = some .free
  ka : F.scope.names.lookup ar.arg = some .local
  top : (P.main.scope.names.lookup ("super" : Str)).isSome = false
  no : mg "super" = none
  op : PySem.W.nsIn K cStatics "thirdparty.any" = some none
  ox : ErC K C newId bmB
  su : PySem.W.ks_superIn K C C "__init__" = some (some (.builtin initId))
  sb : PySem.W.subIn K (.ref C) (.type B) = some true
  mr : PySem.W.mroIn K C (.ref C) = some true
theorem init_fn {f C : Addr} {F : NF} {ar : Arg} {doc pm ctv : Value} {N ps : List Str} {k i j n : Nat} {sp : Sp} {m : Str} {p0 p1 p2 p3 p4 p5 : Pos} {rest : List Stmt} {pl : Addr → Sem Bool} (EB : ErB B newId initId bmB) (T : IniM P K mg B newId initId bmB f C F ar doc pm ctv)
    (S : NScope N ps ["__class__"] F.scope) (len : ∀ vs H Q E, sp vs H Q E → vs.length = ps.length) (hi : N[i]? = some ar.arg) (hj : N[j]? = some ("__class__" : Str))
    (hbd : F.body = .Expr (.Call (.Attribute (.Call (.Name "super" p0) [] [] p1) "__init__" p2) [.Constant (.str m) n p3] [] p4) p5 :: rest)
    (hst : ∀ vs H Q E, sp vs H Q E → ∃ a, (startF N vs [some (.ref C)])[i]? = some (some (.ref a)) ∧ (startF N vs [some (.ref C)])[j]? = some (some (.ref C)) ∧ H a = some (exo a C none))
    (hbody : ∀ (A : Around) (outer : List Env) (s : Shared) (H : Hp) (vs : List V) (Q : VK) (E : XK), Room k (A.deeper (envF F f s.heap.objs.size)) → sp vs H Q E →
      ∃ t, PSs (ncx CX0 P w K mg base N F f A outer s H E) rest t ∧ t { nx := fun _ H' => Q .non H', rt := Q } (startF N vs [some (.ref C)]) H)
    (he : ∀ L, eval (.Call (.Attribute (.Call (.Name "super" p0) [] [] p1) "__init__" p2) [.Constant (.str m) n p3] [] p4) (envF F f L) = (do
      let ov ← attributeBase (.Call (.Name "super" p0) [] [] p1) "__init__" (envF F f L) (eval (.Call (.Name "super" p0) [] [] p1) (envF F f L))
      standAt p2.atName
      let (g, first) ← holding [ov] (getMethod ov "__init__" (pl L))
      callWith p4 g first (backTo p4 (starEach [.Constant (.str m) n p3] (envF F f L))) []) := by intro _; rfl)
    (hint : ∀ L, interactive (envF F f L) = false := by intro _; rfl)
    (hsw : ∀ L, swapsWith (.Call (.Attribute (.Call (.Name "super" p0) [] [] p1) "__init__" p2) [.Constant (.str m) n p3] [] p4) none p5.line (envF F f L) = pure false := by intro _; rfl) :
    FnOk P w K mg base CX0 (k + 1) f (F.fd doc pm ctv) ps sp := by
  refine ⟨len, fun A outer s H args us vs Q E hr e0 hb r hsp => ?_⟩
  have KX : K.In s.heap := e0.mod.kin.keeps fun b o e => (e0.bs b o e).1
  have hl := len _ _ _ _ hsp
  have lim : s.heap.NoLimit := e0.mod.nolimit.keeps fun b o e => (e0.bs b o e).1
  obtain ⟨od, sl, lk⟩ := T.lk
  obtain ⟨cc, oc, ecl, lcc, dcc⟩ := T.cl
  refine codeAny_call_function hr.depth (KX _ _ lk) rfl S.co S.gen rfl (PySem.W.codeRec_of KX T.cd) (hb _ _ _ _ ?_)
  refine wpAny_newFunctionEnv S.nocell (fun ⟨x, _⟩ hy => S.par x (List.of_mem_zip hy).1) (fun h1 hns hsb => ⟨lim.fresh _ hsb, ?_⟩) S.kind
  have kp : ∀ b o, s.heap.get? b = some o → h1.get? b = some o := fun b o e => hsb.extBut b o (Nat.ne_of_lt (Heap.lt_size e)) (Heap.get?_push_of_some _ e)
  have CA : CellsAt F.cl ["__class__"] [some (.ref C)] s.heap H := by
    rw [ecl]
    have hc : ∀ (y : Str) (c : Addr), ([(("__class__" : Str), cc)] : List (Str × Addr)).lookup y = some c → c = cc ∧ y = "__class__" := fun y c e => by
      rw [List.lookup_cons] at e
      split at e
      · rename_i z
        exact ⟨(Option.some.inj e).symm, eq_of_beq z⟩
      · cases e
    refine ⟨rfl, fun y c e => ?_, fun x y c e1 e2 => (hc x c e1).2.trans (hc y c e2).2.symm, fun i y e => ?_⟩
    · rw [(hc y c e).1]
      exact ⟨(e0.bs _ _ (e0.mod.kin _ _ lcc)).2, _, oc, KX _ _ lcc, dcc⟩
    · match i, e with
      | 0, e =>
        cases e
        exact ⟨cc, by simp, fun v e => by cases e; exact ⟨_, rfl, oc, KX _ _ lcc, dcc⟩⟩
  have I : Inv (ncx CX0 P w K mg base N F f A outer s H E) [] (startF N vs [some (.ref C)]) H { s with heap := h1, toks := s.toks + (ps.zip us).length } := inv_startN S hr.hd e0 hl r CA hns kp
  obtain ⟨a, s1, s2, ha⟩ := hst _ _ _ _ hsp
  have TM : SupM (ncx CX0 P w K mg base N F f A outer s H E) f F.c ar := ⟨rfl, rfl, ⟨_, _, lk, rfl, T.hd⟩, T.fl, T.ks, T.kc, T.ka, T.top, T.no, T.op⟩
  have fin : ∀ {τ : L2.St} {G : Hp} {v : V} {u : Value} {z : Shared}, Inv (ncx CX0 P w K mg base N F f A outer s H E) [] τ G z → L2.RelV v u → Q v G → CE outer P w H s Q u z :=
    fun J rv q => ⟨_, _, J.os, J.bare, J.base, J.hok, rv, q⟩
  obtain ⟨t, ht, hq⟩ := hbody A outer s H vs Q E (hr.deeper _) hsp
  refine ks_codeAny_funcAt (body := F.body) (env := envF F f s.heap.objs.size) ?_
  rw [hbd]
  refine ks_wpAt_execs_cons (ks_wpAt_mono (sup_stmt (X := ncx CX0 P w K mg base N F f A outer s H E) (i := i) (j := j) EB TM T.ox I hi s1 hj s2 ha T.su T.sb T.mr (he _) (hint _) (hsw _)) (fun fl s' hs => ?_) fun e s' hx => hx)
  obtain ⟨rfl, J⟩ := hs
  refine _root_.PySem.wpAt_of_wpAny (wpAny_mono (ht.run [] s' _ H _ J hq) (fun fl z hz => ?_) fun e s' hx => hx)
  cases fl with
  | ret u =>
    obtain ⟨v5, τ5, G5, J5, r5, q5⟩ := hz
    exact fin J5 r5 q5
  | next =>
    obtain ⟨τ5, G5, J5, q5⟩ := hz
    exact fin (v := V.non) (u := Value.none) J5 rfl q5
  | brk =>
    obtain ⟨_, _, _, q5⟩ := hz
    exact q5.elim
  | cont =>
    obtain ⟨_, _, _, q5⟩ := hz
    exact q5.elim
end
section
variable {X : Cx} {B newId initId : String} {bmB : List Value}
theorem ErC.has {K : PySem.W.Frag} {C : Addr} (T : ErC K C newId bmB) : PySem.W.hasDictIn K C = true ∧ (PySem.W.clsIn K C).isSome = true := by
  obtain ⟨nm, q, N, bs, bm, sn, sub, ab, col, dd, k0, k1, k2, k3, k5, hC, hbm⟩ := T.cls
  have hcl : PySem.W.clsIn K C = some { name := nm, bases := bs, mro := .ref C :: bm, ns := N, qualname := q, hasDict := true, slotNames := sn, subclasses := sub, abstract := ab, collection := col, hasDel := false } := by unfold PySem.W.clsIn; rw [hC] <;> rfl
  exact ⟨by unfold PySem.W.hasDictIn; rw [hcl] <;> rfl, by rw [hcl] <;> rfl⟩
/-! ### C(..): an own error as a value -/
def tMkV (C : Addr) (sp : Sp) (dvs : List V) (ta : TA) : TE := fun σ H Q => ta σ H fun vs H1 => vs.length ≤ 1000 ∧ ∀ a, H1 a = none → sp (.ref a :: (vs ++ dvs)) (upd H1 a (exo a C none)) (fun v H2 => v = .non ∧ Q (.ref a) H2) (fun _ _ _ => False)
theorem run_mkE {CX : CXT} {C fI : Addr} {k : Nat} {fd : FuncData} {ps : List Str} {sp : Sp} {ds : List Value} {dvs vs : List V} {us : List Value} {pins : List (Addr × Obj)} {σ : L2.St} {H1 : Hp} {s1 : Shared} {Q : VK} (E : ErB B newId initId bmB) (T : ErC X.K C newId bmB)
    (iC : PySem.W.findIn X.K (.ref C) "__init__" = some (some (.ref fI))) (tI : PySem.W.typeIn X.K (.ref fI) = some (.type "function")) (F1 : FnOk X.prog X.w X.K X.mg X.base CX k fI fd ps sp) (hr : Room (k + 1) X.A) (hb : Binds X.K fd ps ds) (hd : Vals dvs ds)
    (hx : Passes CX X (fun _ _ _ => False)) (I1 : Inv X pins σ H1 s1) (r1 : Vals vs us) (hz : vs.length ≤ 1000) (q1 : ∀ a, H1 a = none → sp (.ref a :: (vs ++ dvs)) (upd H1 a (exo a C none)) (fun v H2 => v = .non ∧ Q (.ref a) H2) (fun _ _ _ => False)) :
    wpAny (model X.prog X.w) X.A (call (.ref C) us) (EP X pins σ Q) X.xe s1 := by
  obtain ⟨nm, q, N, bs, bm, sn, sub, ab, col, dd, k0, k1, k2, k3, k5, hC, hbm⟩ := T.cls
  obtain ⟨hp, g, dr, tk, os⟩ := s1
  have hsz : hp.objs.size ≤ hp.objs.size + 1 := Nat.le_succ _
  have hq := q1 (hp.objs.size + 1) (I1.hok.fresh hsz)
  have kk : ∀ b o, hp.get? b = some o → ((hp.push (PySem.W.kdv_tup us)).push (PySem.HandSPX.excO C hp.objs.size)).get? b = some o := fun b o e => Heap.get?_push_of_some _ (Heap.get?_push_of_some _ e)
  have hget : ((hp.push (PySem.W.kdv_tup us)).push (PySem.HandSPX.excO C hp.objs.size)).get? (hp.objs.size + 1) = some (PySem.HandSPX.excO C hp.objs.size) := by heap_get
  have I2 : Inv X pins σ (upd H1 (hp.objs.size + 1) (exo (hp.objs.size + 1) C none)) ⟨(hp.push (PySem.W.kdv_tup us)).push (PySem.HandSPX.excO C hp.objs.size), g, dr, tk, os⟩ :=
    I1.laid (t' := tk) kk hsz (exo_ok hget)
  have r2 : Vals (V.ref (hp.objs.size + 1) :: (vs ++ dvs)) (Value.ref (hp.objs.size + 1) :: (us ++ ds)) := .cons rfl (r1.append hd)
  have hl : (Value.ref (hp.objs.size + 1) :: us ++ ds).length = ps.length := r2.length.symm.trans (F1.len _ _ _ _ hq)
  have hus : us.length ≤ sizeLine := by
    rw [← Paired.length r1, sizeLine_eq]
    omega
  refine wpAny_call (PySem.HandSPX.call_own E.fb (fun Y => PySem.W.excTail_contains Y bm hbm) (I1.kIn _ _ hC) (PySem.W.looks_findIn I1.kIn iC) (fun self => PySem.W.bind_fn I1.kIn self tI) hus
    (codeAny_mono (F1.run _ X.stack _ _ ⟨Value.ref (hp.objs.size + 1) :: us, []⟩ (Value.ref (hp.objs.size + 1) :: (us ++ ds)) _ _ (fun _ _ _ => False) (hr.make C us []) (I2.env0.make C us []) (hb _ (Value.ref (hp.objs.size + 1) :: us) I2.kIn hl) r2 hq) fun r s' hq' => ?_))
  match r, hq' with
  | .error er, hq' => exact hx pins σ _ _ er s' I2 hq'
  | .ok (.ret u), hq' =>
    obtain ⟨v, H2, J, rv, ev, q2⟩ := I2.after hq'
    subst ev
    exact ⟨rv, .ref (hp.objs.size + 1), H2, J, rfl, q2⟩
  | .ok .next, hq' => exact False.elim hq'
  | .ok .brk, hq' => exact False.elim hq'
  | .ok .cont, hq' => exact False.elim hq'
variable {CX : CXT} {x : Str} {C fI : Addr} {k : Nat} {fd : FuncData} {ps : List Str} {sp : Sp} {ds : List Value} {dvs : List V} {e : Expr} {es : List Expr} {ta : TA} {te : TE} {p pos : Pos}
theorem pe_mkE (E : ErB B newId initId bmB) (T : ErC X.K C newId bmB) (iC : PySem.W.findIn X.K (.ref C) "__init__" = some (some (.ref fI))) (tI : PySem.W.typeIn X.K (.ref fI) = some (.type "function"))
    (F1 : FnOk X.prog X.w X.K X.mg X.base CX k fI fd ps sp) (hr : Room (k + 1) X.A) (hb : Binds X.K fd ps ds) (hd : Vals dvs ds) (hx : Passes CX X (fun _ _ _ => False)) (hg : Gl X x) (hm : X.mg x = some (.ref C)) (ha : PA X (e :: es) ta)
    (hdb : (x == ("__debug__" : Str)) = false := by decide) (he : starEach (e :: es) X.env = (false, eval e X.env) :: starEach es X.env := by rfl) (hpl : (backTo pos (starEach es X.env)).any (·.1) = false := by rfl) :
    PE X (.Call (.Name x p) (e :: es) [] pos) (tMkV C sp dvs ta) := by
  refine ⟨fun pins s σ H Q I h => ?_⟩
  refine wpAny_Call_Name_kw (ld_glob I hg hm ?_ hdb)
  refine PySem.W.callWith_K (h₀ := X.base) I.ok.mod.kin T.kp (thn (ha.run pos pins s σ H _ I h) fun us s1 ⟨vs, H1, I1, r1, hz, q1⟩ => ⟨I1.kIn, ?_⟩) he hpl
  exact run_mkE E T iC tI F1 hr hb hd hx I1 r1 hz q1
theorem pe_mkE0 (E : ErB B newId initId bmB) (T : ErC X.K C newId bmB) (iC : PySem.W.findIn X.K (.ref C) "__init__" = some (some (.ref fI))) (tI : PySem.W.typeIn X.K (.ref fI) = some (.type "function"))
    (F1 : FnOk X.prog X.w X.K X.mg X.base CX k fI fd ps sp) (hr : Room (k + 1) X.A) (hb : Binds X.K fd ps ds) (hd : Vals dvs ds) (hx : Passes CX X (fun _ _ _ => False)) (hg : Gl X x) (hm : X.mg x = some (.ref C))
    (hdb : (x == ("__debug__" : Str)) = false := by decide) : PE X (.Call (.Name x p) [] [] pos) (tMkV C sp dvs tNil) := by
  refine ⟨fun pins s σ H Q I h => ?_⟩
  refine wpAny_Call_Name_kw (ld_glob I hg hm ?_ hdb)
  exact PySem.W.callWith_K0 I.kIn T.kp (run_mkE (us := []) E T iC tI F1 hr hb hd hx I .nil h.1 h.2)
/-! ### e.f of such a value -/
def tXo (K : PySem.W.Frag) (f : Str) (te : TE) : TE := fun σ H Q => te σ H fun x H1 => ∃ (a C d : Addr) (nw : String) (bm : List Value) (fs : List (Str × V)) (v : V), x = .ref a ∧ H1 a = some (exo a C (some d)) ∧ H1 d = some (exd d fs) ∧ fs.lookup f = some v ∧
  PySem.W.findIn K (.ref C) f = some none ∧ ErC K C nw bm ∧ Q v H1
theorem inst_exo {pins : List (Addr × Obj)} {σ : L2.St} {H : Hp} {s : Shared} {a C d : Addr} {fs : List (Str × V)} (I : Inv X pins σ H s) (ea : H a = some (exo a C (some d))) (ed : H d = some (exd d fs)) :
    ∃ (ox od : Obj) (mA : Str → Option Value), PySem.W.InstAt s.heap a ox C (some od) ∧ (∀ n, PySem.W.lookIn n od = some (mA n)) ∧ ∀ f, RelO (fs.lookup f) (mA f) := by
  obtain ⟨t1, ho⟩ := exo_at I.hok ea
  obtain ⟨mA, hns, rel⟩ := exd_at I.hok ed
  obtain ⟨od, hod, hl⟩ := lookIn_ns hns
  exact ⟨_, od, mA, ⟨ho, rfl, rfl, hod⟩, hl, rel⟩
theorem pe_xo {n : Str} (he : PE X e te) (hb : attributeBase e n X.env (eval e X.env) = eval e X.env := by rfl) : PE X (.Attribute e n pos) (tXo X.K n te) := by
  refine ⟨fun pins s σ H Q I h => ?_⟩
  refine attr_of hb (thn (he.run pins s σ H _ I h) fun u s1 hh => ?_)
  obtain ⟨x, H1, I1, rx, a, C, d, nw, bm, fs, v, ex, ea, ed, l, hno, T, q⟩ := hh
  subst ex
  obtain rfl : u = Value.ref a := rx
  obtain ⟨ox, od, mA, J, hl, rel⟩ := inst_exo I1 ea ed
  obtain ⟨u, hu, ru⟩ := RelO.some_of (v := v) (o := mA n) (l ▸ rel n)
  exact HandSPX.exc_get I1.kIn J T.ga T.gt T.ex (PySem.W.findObj_own T.has.1 hno rfl ((hl n).trans (congrArg some hu))) (handed_of ru) ⟨v, H1, I1.tok _, ru, q⟩
/-! ### isinstance of such a value -/
def rIsO (K : PySem.W.Frag) : List V → Hp → VK → Prop := fun xs H Q => ∃ (a C d : Addr) (nw : String) (bm : List Value) (fs : List (Str × V)) (c : V) (cv : Value) (b : Bool), xs = [.ref a, c] ∧ H a = some (exo a C (some d)) ∧ H d = some (exd d fs) ∧ ErC K C nw bm ∧ ClsV c cv ∧
  PySem.W.kitOne K (.ref C) cv = some b ∧ Q (.bl b) H
theorem call_isO (hn : PySem.W.specialIn X.K (.builtin "object.__class__") "__get__" = some (some (.builtin "getset_descriptor.__get__"))) (ht : PySem.W.takesIn X.K (.builtin "object.__class__") = some true) : CallR X (.builtin "isinstance") (rIsO X.K) := by
  intro pins s σ H xs us Q I r h
  obtain ⟨a, C, d, nw, bm, fs, c, cv, b, rfl, ea, ed, T, hc, e, q⟩ := h
  obtain ⟨u1, u2, rfl, r1, r2⟩ := vals2 r
  have e2 := hc.eq r2
  subst e2
  cases (show u1 = Value.ref a from r1)
  obtain ⟨ox, od, mA, J, _, _⟩ := inst_exo I ea ed
  exact PySem.W.kia_one (PySem.W.kitx_exc T.has.2 T.ga T.gt T.ex T.cl hn ht T.ob) I.kIn J e (fun z => nomatch z) fun tk => ⟨.bl b, H, I.tok tk, rfl, q⟩
end
/-! ### an own error made -/
/-- what __init__ leaves: the object at a with its dict at d -/
def Made (H H' : Hp) (a C d : Addr) (fs : List (Str × V)) : Prop := H d = none ∧ d ≠ a ∧ H' a = some (exo a C (some d)) ∧ H' d = some (exd d fs) ∧ ∀ b o, b ≠ a → H b = some o → H' b = some o
def spIni (C : Addr) (n : Nat) (fs : List V → List (Str × V)) : Sp := fun vs H Q _ => ∃ (a : Addr) (ws : List V), vs = .ref a :: ws ∧ ws.length = n ∧ H a = some (exo a C none) ∧ ∀ d H', Made H H' a C d (fs ws) → Q .non H'
abbrev NFI (st : Stmt) (qual : Str) (cc c : Addr) : NF := ⟨"__init__", qual, defArgs st, defBody st, defScope st, [(("__class__" : Str), cc)], c⟩
theorem made1 {H : Hp} {a C d : Addr} {f : Str} {y : V} (ha : H a = some (exo a C none)) (hd : H d = none) (ne : d ≠ a) : Made H (upd (upd H d (exd d [(f, y)])) a (exo a C (some d))) a C d [(f, y)] :=
  ⟨hd, ne, upd_same, (upd_ne ne).trans upd_same, fun b o hb e => (upd_ne hb).trans ((upd_ne (ne_of_none e hd)).trans e)⟩
theorem made2 {H H' : Hp} {a C d : Addr} {f : Str} {y : V} {fs : List (Str × V)} (m : Made H H' a C d fs) : Made H (upd H' d (exd d ((f, y) :: fs))) a C d ((f, y) :: fs) :=
  ⟨m.1, m.2.1, (upd_ne m.2.1.symm).trans m.2.2.1, upd_same, fun b o hb e => (upd_ne (ne_of_none e m.1)).trans (m.2.2.2.2 b o hb e)⟩
/-- the value x is an error of the class at C with the fields fs -/
def IsE (H : Hp) (C : Addr) (fs : List (Str × V)) (x : V) : Prop := ∃ a d : Addr, x = .ref a ∧ H a = some (exo a C (some d)) ∧ H d = some (exd d fs)
theorem IsE.same {H H' : Hp} {C : Addr} {fs : List (Str × V)} {x : V} (h : IsE H C fs x) (s : Same H H') : IsE H' C fs x := by
  obtain ⟨a, d, rfl, ea, ed⟩ := h
  exact ⟨a, d, rfl, s _ _ ea, s _ _ ed⟩
theorem mkv_use {H1 : Hp} {Q : VK} {C : Addr} {n : Nat} {fs : List V → List (Str × V)} {vs : List V} (hn : vs.length = n) (h0 : n ≤ 1000) (h : ∀ x H', Same H1 H' → IsE H' C (fs vs) x → Q x H') :
    vs.length ≤ 1000 ∧ ∀ a, H1 a = none → spIni C n fs (.ref a :: (vs ++ [])) (upd H1 a (exo a C none)) (fun v H2 => v = .non ∧ Q (.ref a) H2) (fun _ _ _ => False) := by
  refine ⟨by omega, fun a ha => ?_⟩
  rw [List.append_nil]
  refine ⟨a, vs, rfl, hn, upd_same, fun d H2 m => ⟨rfl, h _ _ (fun b o e => ?_) ⟨a, d, rfl, m.2.2.1, m.2.2.2.1⟩⟩⟩
  exact m.2.2.2.2 b o (ne_of_none e ha) ((upd_ne (ne_of_none e ha)).trans e)
/-- the class nm, an own error over B: its mro behind itself is pre and then bmB -/
structure Er (P : Program) (K : PySem.W.Frag) (mg : Str → Option Value) (B newId initId : String) (bmB pre : List Value) (st : Stmt) (nm qual : Str) where
  C : Addr
  f : Addr
  cc : Addr
  c : Addr
  ar : Arg
  doc : Value
  pm : Value
  ctv : Value
  T : IniM P K mg B newId initId bmB f C (NFI st qual cc c) ar doc pm ctv
  iC : PySem.W.findIn K (.ref C) "__init__" = some (some (.ref f))
  tI : PySem.W.typeIn K (.ref f) = some (.type "function")
  g : mg nm = some (.ref C)
  har : ar.arg = "self"
  lk : ∃ q N bs sn sub ab col dd k0 k1 k2 k3 k5, K.lookup C = some (excClassObj nm q C N bs (pre ++ bmB) true sn sub ab col dd k0 k1 k2 k3 k5 newId)
section
variable {base : Heap} {K : PySem.W.Frag} {mg : Str → Option Value} {P : Program} {w : World} {B newId initId : String} {bmB pre : List Value} {st : Stmt} {nm qual : Str}
theorem ok_ini1 {fl pn wd m : Str} {p0 p1 p2 p3 p4 p5 q0 q1 q2 q3 r0 r1 r2 r3 : Pos} {n1 n2 : Nat} {pl : Addr → Sem Bool} (EB : ErB B newId initId bmB) (T : Er P K mg B newId initId bmB pre st nm qual) (S : NScope ["self", pn, "__class__"] ["self", pn] ["__class__"] (defScope st))
    (hbd : defBody st = [.Expr (.Call (.Attribute (.Call (.Name "super" p0) [] [] p1) "__init__" p2) [.Constant (.str m) n1 p3] [] p4) p5, .Assign [.Attribute (.Name "self" q0) "word" q1] (.Constant (.str wd) n2 q2) q3, .Assign [.Attribute (.Name "self" r0) fl r1] (.Name pn r2) r3])
    (e1 : PySem.W.findIn K (.ref T.C) "word" = some none) (e2 : PySem.W.findIn K (.ref T.C) fl = some none) (hn1 : (pn == ("__debug__" : Str)) = false := by decide) (hn2 : (pn == ("__classdict__" : Str)) = false := by decide)
    (he : ∀ L, eval (.Call (.Attribute (.Call (.Name "super" p0) [] [] p1) "__init__" p2) [.Constant (.str m) n1 p3] [] p4) (envF (NFI st qual T.cc T.c) T.f L) = (do
      let ov ← attributeBase (.Call (.Name "super" p0) [] [] p1) "__init__" (envF (NFI st qual T.cc T.c) T.f L) (eval (.Call (.Name "super" p0) [] [] p1) (envF (NFI st qual T.cc T.c) T.f L))
      standAt p2.atName
      let (g, first) ← holding [ov] (getMethod ov "__init__" (pl L))
      callWith p4 g first (backTo p4 (starEach [.Constant (.str m) n1 p3] (envF (NFI st qual T.cc T.c) T.f L))) []) := by intro _; rfl)
    (hint : ∀ L, interactive (envF (NFI st qual T.cc T.c) T.f L) = false := by intro _; rfl)
    (hsw : ∀ L, swapsWith (.Call (.Attribute (.Call (.Name "super" p0) [] [] p1) "__init__" p2) [.Constant (.str m) n1 p3] [] p4) none p5.line (envF (NFI st qual T.cc T.c) T.f L) = pure false := by intro _; rfl)
    (hs1 : ∀ L, swapsWith (.Constant (.str wd) n2 q2) (some (.Attribute (.Name "self" q0) "word" q1)) q3.line (envF (NFI st qual T.cc T.c) T.f L) = pure false := by intro _; rfl)
    (hs2 : ∀ L, swapsWith (.Name pn r2) (some (.Attribute (.Name "self" r0) fl r1)) r3.line (envF (NFI st qual T.cc T.c) T.f L) = pure false := by intro _; rfl) :
    FnOk P w K mg base CX0 1 T.f ((NFI st qual T.cc T.c).fd T.doc T.pm T.ctv) ["self", pn] (spIni T.C 1 fun ws => [(fl, ws.getD 0 .non), ("word", .str wd)]) := by
  refine init_fn (i := 0) (j := 2) (N := ["self", pn, "__class__"]) EB T.T S (fun vs H Q E h => ?_) (by rw [T.har]; rfl) rfl hbd (fun vs H Q E h => ?_) (fun A outer s H vs Q E hr h => ?_) he hint hsw
  · obtain ⟨a, ws, rfl, hn, _⟩ := h
    show ws.length + 1 = 2
    omega
  · obtain ⟨a, ws, rfl, hn, ha, _⟩ := h
    match ws, hn with
    | [v], _ => exact ⟨a, rfl, rfl, ha⟩
  · obtain ⟨a, ws, rfl, hn, ha, q⟩ := h
    match ws, hn, q with
    | [v], _, q =>
      refine ⟨_, pss_cons (ps_gst EB (pe_var (i := 0) rfl (Or.inl (S.par _ (by simp)))) pe_str (hs1 _)) (pss_one (ps_gst EB (pe_var (i := 0) rfl (Or.inl (S.par _ (by simp)))) (pe_var (i := 1) rfl (Or.inl (S.par _ (by simp))) hn1 hn2) (hs2 _))), ?_⟩
      refine ⟨_, rfl, a, T.C, rfl, T.T.ox, e1, .inl ⟨ha, fun d hd ne => ?_⟩⟩
      have m1 := made1 (f := "word") (y := .str wd) ha hd ne
      exact ⟨_, rfl, _, rfl, a, T.C, rfl, T.T.ox, e2, .inr ⟨d, _, m1.2.2.1, m1.2.2.2.1, by simp, q d _ (made2 m1)⟩⟩
theorem ok_ini0 {wd m : Str} {p0 p1 p2 p3 p4 p5 q0 q1 q2 q3 : Pos} {n1 n2 : Nat} {pl : Addr → Sem Bool} (EB : ErB B newId initId bmB) (T : Er P K mg B newId initId bmB pre st nm qual) (S : NScope ["self", "__class__"] ["self"] ["__class__"] (defScope st))
    (hbd : defBody st = [.Expr (.Call (.Attribute (.Call (.Name "super" p0) [] [] p1) "__init__" p2) [.Constant (.str m) n1 p3] [] p4) p5, .Assign [.Attribute (.Name "self" q0) "word" q1] (.Constant (.str wd) n2 q2) q3])
    (e1 : PySem.W.findIn K (.ref T.C) "word" = some none)
    (he : ∀ L, eval (.Call (.Attribute (.Call (.Name "super" p0) [] [] p1) "__init__" p2) [.Constant (.str m) n1 p3] [] p4) (envF (NFI st qual T.cc T.c) T.f L) = (do
      let ov ← attributeBase (.Call (.Name "super" p0) [] [] p1) "__init__" (envF (NFI st qual T.cc T.c) T.f L) (eval (.Call (.Name "super" p0) [] [] p1) (envF (NFI st qual T.cc T.c) T.f L))
      standAt p2.atName
      let (g, first) ← holding [ov] (getMethod ov "__init__" (pl L))
      callWith p4 g first (backTo p4 (starEach [.Constant (.str m) n1 p3] (envF (NFI st qual T.cc T.c) T.f L))) []) := by intro _; rfl)
    (hint : ∀ L, interactive (envF (NFI st qual T.cc T.c) T.f L) = false := by intro _; rfl)
    (hsw : ∀ L, swapsWith (.Call (.Attribute (.Call (.Name "super" p0) [] [] p1) "__init__" p2) [.Constant (.str m) n1 p3] [] p4) none p5.line (envF (NFI st qual T.cc T.c) T.f L) = pure false := by intro _; rfl)
    (hs1 : ∀ L, swapsWith (.Constant (.str wd) n2 q2) (some (.Attribute (.Name "self" q0) "word" q1)) q3.line (envF (NFI st qual T.cc T.c) T.f L) = pure false := by intro _; rfl) :
    FnOk P w K mg base CX0 1 T.f ((NFI st qual T.cc T.c).fd T.doc T.pm T.ctv) ["self"] (spIni T.C 0 fun _ => [("word", .str wd)]) := by
  refine init_fn (i := 0) (j := 1) (N := ["self", "__class__"]) EB T.T S (fun vs H Q E h => ?_) (by rw [T.har]; rfl) rfl hbd (fun vs H Q E h => ?_) (fun A outer s H vs Q E hr h => ?_) he hint hsw
  · obtain ⟨a, ws, rfl, hn, _⟩ := h
    show ws.length + 1 = 1
    omega
  · obtain ⟨a, ws, rfl, hn, ha, _⟩ := h
    match ws, hn with
    | [], _ => exact ⟨a, rfl, rfl, ha⟩
  · obtain ⟨a, ws, rfl, hn, ha, q⟩ := h
    match ws, hn, q with
    | [], _, q =>
      refine ⟨_, pss_one (ps_gst EB (pe_var (i := 0) rfl (Or.inl (S.par _ (by simp)))) pe_str (hs1 _)), ?_⟩
      refine ⟨_, rfl, a, T.C, rfl, T.T.ox, e1, .inl ⟨ha, fun d hd ne => ?_⟩⟩
      exact q d _ (made1 (f := "word") (y := .str wd) ha hd ne)
/-! ### isinstance between own errors -/
theorem Er.cl (T : Er P K mg B newId initId bmB pre st nm qual) : ∃ cd : ClassData, PySem.W.clsIn K T.C = some cd ∧ cd.name = nm ∧ cd.mro = .ref T.C :: (pre ++ bmB) := by
  obtain ⟨q, N, bs, sn, sub, ab, col, dd, k0, k1, k2, k3, k5, h⟩ := T.lk
  exact ⟨{ name := nm, bases := bs, mro := .ref T.C :: (pre ++ bmB), ns := N, qualname := q, hasDict := true, slotNames := sn, subclasses := sub, abstract := ab, collection := col, hasDel := false }, by unfold PySem.W.clsIn; rw [h] <;> rfl, rfl, rfl⟩
theorem kit_ref {C D : Addr} {l : List Value} {cd cd' : ClassData} (hC : PySem.W.clsIn K C = some cd) (hm : cd.mro = .ref C :: l) (hD : PySem.W.clsIn K D = some cd') (hT : PySem.W.typeIn K (.ref D) = some (.type "type")) :
    PySem.W.kitOne K (.ref C) (.ref D) = some ((Value.ref C :: l).contains (.ref D)) := by
  unfold PySem.W.kitOne
  split
  · rename_i h
    rw [List.contains_cons, show (Value.ref D == Value.ref C) = true by rw [eq_of_beq h]; exact beq_self_eq_true _]
    rfl
  · unfold PySem.W.kitCls
    dsimp only
    rw [hD, hT, if_pos (show ((some cd').isSome && some (Value.type "type") == some (Value.type "type")) = true from show (true && some (Value.type "type") == some (Value.type "type")) = true by decide +kernel)]
    show PySem.W.mroIn K C (.ref D) = _
    unfold PySem.W.mroIn
    rw [hC, Option.bind_some, hm]
    rfl
theorem kit_typ {C : Addr} {T : String} {l : List Value} {cd : ClassData} (hC : PySem.W.clsIn K C = some cd) (hm : cd.mro = .ref C :: l) (hT : PySem.W.kitMeta T = true) :
    PySem.W.kitOne K (.ref C) (.type T) = some ((Value.ref C :: l).contains (.type T)) := by
  unfold PySem.W.kitOne
  rw [if_neg (by intro h; cases eq_of_beq h)]
  unfold PySem.W.kitCls
  dsimp only
  rw [if_pos hT]
  show PySem.W.mroIn K C (.type T) = _
  unfold PySem.W.mroIn
  rw [hC, Option.bind_some, hm]
  rfl
theorem cls_ne {C D : Addr} {c d : ClassData} (hC : PySem.W.clsIn K C = some c) (hD : PySem.W.clsIn K D = some d) (hn : c.name ≠ d.name) : C ≠ D := by
  intro e
  subst e
  rw [hC] at hD
  cases hD
  exact hn rfl
end
section
variable {P : Program} {K : PySem.W.Frag} {h : Heap} {mg : Str → Option Value} {B newId initId : String} {bmB pre : List Value} {st : Stmt} {nm qual : Str}
theorem mro_at {C : Addr} {q : Str} {N : Addr} {bs : List Value} {sn : List Str} {sub : List Value} {ab : Bool} {col : Option Bool} {dd : Option Addr} {k0 k1 k2 k3 k5 : Option Value} (lC : K.lookup C = some (excClassObj nm q C N bs (pre ++ bmB) true sn sub ab col dd k0 k1 k2 k3 k5 newId)) (v : Value) :
    PySem.W.mroIn K C v = some ((Value.ref C :: (pre ++ bmB)).contains v) := by
  have hcl : PySem.W.clsIn K C = some { name := nm, bases := bs, mro := .ref C :: (pre ++ bmB), ns := N, qualname := q, hasDict := true, slotNames := sn, subclasses := sub, abstract := ab, collection := col, hasDel := false } := by unfold PySem.W.clsIn; rw [lC] <;> rfl
  unfold PySem.W.mroIn
  rw [hcl, Option.bind_some]
  rfl
theorem mro_ty {C : Addr} {X : String} (ht : PySem.W.excTail bmB (pre ++ bmB) = true) (hx : bmB.contains (.type X) = true) : (Value.ref C :: (pre ++ bmB)).contains (.type X) = true := by
  rw [List.contains_cons, PySem.W.excTail_contains X _ ht, hx, Bool.or_true]
theorem ov_at {C : Addr} {q : Str} {N : Addr} {bs : List Value} {sn : List Str} {sub : List Value} {ab : Bool} {col : Option Bool} {dd : Option Addr} {k0 k1 k2 k3 k5 : Option Value} (lC : K.lookup C = some (excClassObj nm q C N bs (pre ++ bmB) true sn sub ab col dd k0 k1 k2 k3 k5 newId)) (ht : PySem.W.excTail bmB (pre ++ bmB) = true) : PySem.W.excOver K C bmB = true := by
  have hcl : PySem.W.clsIn K C = some { name := nm, bases := bs, mro := .ref C :: (pre ++ bmB), ns := N, qualname := q, hasDict := true, slotNames := sn, subclasses := sub, abstract := ab, collection := col, hasDel := false } := by unfold PySem.W.clsIn; rw [lC] <;> rfl
  unfold PySem.W.excOver
  rw [hcl]
  show (C == C && PySem.W.excTail bmB (pre ++ bmB)) = true
  rw [beq_self_eq_true, ht]
  rfl
@[reducible] def er_mk (X : K.In h) (G : h.Ns mainGlobals mg) {C f c cc : Addr} {od cld cdd : Option Addr} {sl csl ccs : Array (Option Value)} {doc pm ctv clc ccl : Value} {vs : Array Value} {file : Str} {tf : Tok} {ar : Arg}
    {q : Str} {N : Addr} {bs : List Value} {sn : List Str} {sub : List Value} {ab : Bool} {col : Option Bool} {dd : Option Addr} {k0 k1 k2 k3 k5 : Option Value}
    (op : PySem.W.nsIn K cStatics "thirdparty.any" = some none) (no : PySem.W.nsIn K mainGlobals "super" = some none)
    (h1 : bmB.contains (.type "BaseException") = true) (h2 : bmB.contains (.type B) = true) (h3 : bmB.contains (.type "object") = true)
    (ht : PySem.W.excTail bmB (pre ++ bmB) = true)
    (hh : ((defArgs st).posonlyargs ++ (defArgs st).args).head? = some ar) (har : ar.arg = "self")
    (ks : (defScope st).names.lookup ("super" : Str) = some .globalImplicit) (kc : (defScope st).names.lookup ("__class__" : Str) = some .free) (ka : (defScope st).names.lookup ar.arg = some .local)
    (top : (P.main.scope.names.lookup ("super" : Str)).isSome = false)
    (aC : PySem.W.nsIn K mainGlobals nm = some (some (.ref C)))
    (lC : K.lookup C = some (excClassObj nm q C N bs (pre ++ bmB) true sn sub ab col dd k0 k1 k2 k3 k5 newId))
    (aI : PySem.W.findIn K (.ref C) "__init__" = some (some (.ref f)))
    (lI : K.lookup f = some ⟨.type "function", od, .func (PySem.W.fnX "__init__" qual (defArgs st) (defBody st) (defScope st) [(("__class__" : Str), cc)] .none .none doc pm none (.ref c) ctv), sl⟩)
    (cI : PySem.W.codeIn K (.ref c) qual = true)
    (lc : K.lookup cc = some ⟨clc, cld, .cell (some (.ref C)), csl⟩)
    (lco : K.lookup c = some ⟨ccl, cdd, .fields vs, ccs⟩)
    (sa : PySem.W.findIn K (.ref C) "__setattr__" = some (some (.builtin "object.__setattr__")))
    (ga : PySem.W.findIn K (.ref C) "__getattribute__" = some (some (.builtin "BaseException.__getattribute__")))
    (gt : PySem.W.findIn K (.ref C) "__getattr__" = some none)
    (kp : PySem.W.keepIn K (.ref C) = true)
    (cl : PySem.W.findIn K (.ref C) "__class__" = some (some (.builtin "object.__class__")))
    (su : PySem.W.ks_superIn K C C "__init__" = some (some (.builtin initId)))
    (hvs : vs[2]? = some (.str file tf)) (hfile : ((P.main.file : Str) == file) = true) : Er P K mg B newId initId bmB pre st nm qual where
  C := C
  f := f
  cc := cc
  c := c
  ar := ar
  doc := doc
  pm := pm
  ctv := ctv
  T := {
    lk := ⟨od, sl, lI⟩
    cd := cI
    cl := ⟨cc, _, rfl, lc, rfl⟩
    hd := hh
    fl := ⟨_, vs, file, tf, lco, rfl, hvs, hfile⟩
    ks := ks
    kc := kc
    ka := ka
    top := top
    no := PySem.W.mg_none_of X G no
    op := op
    ox := {
      cls := ⟨nm, q, N, bs, pre ++ bmB, sn, sub, ab, col, dd, k0, k1, k2, k3, k5, lC, ht⟩
      ov := ov_at lC ht
      sa := sa
      ga := ga
      gt := gt
      ex := (mro_at lC _).trans (congrArg some (mro_ty ht h1))
      ty := congrArg (Option.map fun o : Obj => o.cls) lC
      kp := kp
      cl := cl
      ob := (mro_at lC _).trans (congrArg some (mro_ty ht h3)) }
    su := su
    sb := (mro_at lC _).trans (congrArg some (mro_ty ht h2))
    mr := (mro_at lC _).trans (by rw [List.contains_cons, beq_self_eq_true, Bool.true_or]) }
  iC := aI
  tI := congrArg (Option.map fun o : Obj => o.cls) lI
  g := PySem.W.mg_of X G aC
  har := har
  lk := ⟨q, N, bs, sn, sub, ab, col, dd, k0, k1, k2, k3, k5, lC⟩
/-- an own error and the fields that its class lacks -/
structure ErW (P : Program) (K : PySem.W.Frag) (mg : Str → Option Value) (B newId initId : String) (bmB pre : List Value) (st : Stmt) (nm qual : Str) (fl : List Str) where
  e : Er P K mg B newId initId bmB pre st nm qual
  no : ∀ x ∈ fl, PySem.W.findIn K (.ref e.C) x = some none
def erw1 (X : K.In h) (G : h.Ns mainGlobals mg) {C f c cc : Addr} {od cld cdd : Option Addr} {sl csl ccs : Array (Option Value)} {doc pm ctv clc ccl : Value} {vs : Array Value} {file : Str} {tf : Tok} {ar : Arg}
    {q : Str} {N : Addr} {bs : List Value} {sn : List Str} {sub : List Value} {ab : Bool} {col : Option Bool} {dd : Option Addr} {k0 k1 k2 k3 k5 : Option Value}
    (op : PySem.W.nsIn K cStatics "thirdparty.any" = some none) (no : PySem.W.nsIn K mainGlobals "super" = some none)
    (h1 : bmB.contains (.type "BaseException") = true) (h2 : bmB.contains (.type B) = true) (h3 : bmB.contains (.type "object") = true)
    (ht : PySem.W.excTail bmB (pre ++ bmB) = true)
    (hh : ((defArgs st).posonlyargs ++ (defArgs st).args).head? = some ar) (har : ar.arg = "self")
    (ks : (defScope st).names.lookup ("super" : Str) = some .globalImplicit) (kc : (defScope st).names.lookup ("__class__" : Str) = some .free) (ka : (defScope st).names.lookup ar.arg = some .local)
    (top : (P.main.scope.names.lookup ("super" : Str)).isSome = false)
    (aC : PySem.W.nsIn K mainGlobals nm = some (some (.ref C)))
    (lC : K.lookup C = some (excClassObj nm q C N bs (pre ++ bmB) true sn sub ab col dd k0 k1 k2 k3 k5 newId))
    (aI : PySem.W.findIn K (.ref C) "__init__" = some (some (.ref f)))
    (lI : K.lookup f = some ⟨.type "function", od, .func (PySem.W.fnX "__init__" qual (defArgs st) (defBody st) (defScope st) [(("__class__" : Str), cc)] .none .none doc pm none (.ref c) ctv), sl⟩)
    (cI : PySem.W.codeIn K (.ref c) qual = true)
    (lc : K.lookup cc = some ⟨clc, cld, .cell (some (.ref C)), csl⟩)
    (lco : K.lookup c = some ⟨ccl, cdd, .fields vs, ccs⟩)
    (sa : PySem.W.findIn K (.ref C) "__setattr__" = some (some (.builtin "object.__setattr__")))
    (ga : PySem.W.findIn K (.ref C) "__getattribute__" = some (some (.builtin "BaseException.__getattribute__")))
    (gt : PySem.W.findIn K (.ref C) "__getattr__" = some none)
    (kp : PySem.W.keepIn K (.ref C) = true)
    (cl : PySem.W.findIn K (.ref C) "__class__" = some (some (.builtin "object.__class__")))
    (su : PySem.W.ks_superIn K C C "__init__" = some (some (.builtin initId)))
    (hvs : vs[2]? = some (.str file tf)) (hfile : ((P.main.file : Str) == file) = true) {f1 : Str} (x1 : PySem.W.findIn K (.ref C) f1 = some none) : ErW P K mg B newId initId bmB pre st nm qual [f1] :=
  ⟨er_mk (C := C) X G op no h1 h2 h3 ht hh har ks kc ka top aC lC aI lI cI lc lco sa ga gt kp cl su hvs hfile, fun x hx => by
    rcases List.mem_cons.mp hx with rfl | e
    · exact x1
    · cases e⟩
def erw2 (X : K.In h) (G : h.Ns mainGlobals mg) {C f c cc : Addr} {od cld cdd : Option Addr} {sl csl ccs : Array (Option Value)} {doc pm ctv clc ccl : Value} {vs : Array Value} {file : Str} {tf : Tok} {ar : Arg}
    {q : Str} {N : Addr} {bs : List Value} {sn : List Str} {sub : List Value} {ab : Bool} {col : Option Bool} {dd : Option Addr} {k0 k1 k2 k3 k5 : Option Value}
    (op : PySem.W.nsIn K cStatics "thirdparty.any" = some none) (no : PySem.W.nsIn K mainGlobals "super" = some none)
    (h1 : bmB.contains (.type "BaseException") = true) (h2 : bmB.contains (.type B) = true) (h3 : bmB.contains (.type "object") = true)
    (ht : PySem.W.excTail bmB (pre ++ bmB) = true)
    (hh : ((defArgs st).posonlyargs ++ (defArgs st).args).head? = some ar) (har : ar.arg = "self")
    (ks : (defScope st).names.lookup ("super" : Str) = some .globalImplicit) (kc : (defScope st).names.lookup ("__class__" : Str) = some .free) (ka : (defScope st).names.lookup ar.arg = some .local)
    (top : (P.main.scope.names.lookup ("super" : Str)).isSome = false)
    (aC : PySem.W.nsIn K mainGlobals nm = some (some (.ref C)))
    (lC : K.lookup C = some (excClassObj nm q C N bs (pre ++ bmB) true sn sub ab col dd k0 k1 k2 k3 k5 newId))
    (aI : PySem.W.findIn K (.ref C) "__init__" = some (some (.ref f)))
    (lI : K.lookup f = some ⟨.type "function", od, .func (PySem.W.fnX "__init__" qual (defArgs st) (defBody st) (defScope st) [(("__class__" : Str), cc)] .none .none doc pm none (.ref c) ctv), sl⟩)
    (cI : PySem.W.codeIn K (.ref c) qual = true)
    (lc : K.lookup cc = some ⟨clc, cld, .cell (some (.ref C)), csl⟩)
    (lco : K.lookup c = some ⟨ccl, cdd, .fields vs, ccs⟩)
    (sa : PySem.W.findIn K (.ref C) "__setattr__" = some (some (.builtin "object.__setattr__")))
    (ga : PySem.W.findIn K (.ref C) "__getattribute__" = some (some (.builtin "BaseException.__getattribute__")))
    (gt : PySem.W.findIn K (.ref C) "__getattr__" = some none)
    (kp : PySem.W.keepIn K (.ref C) = true)
    (cl : PySem.W.findIn K (.ref C) "__class__" = some (some (.builtin "object.__class__")))
    (su : PySem.W.ks_superIn K C C "__init__" = some (some (.builtin initId)))
    (hvs : vs[2]? = some (.str file tf)) (hfile : ((P.main.file : Str) == file) = true) {f1 f2 : Str} (x1 : PySem.W.findIn K (.ref C) f1 = some none) (x2 : PySem.W.findIn K (.ref C) f2 = some none) : ErW P K mg B newId initId bmB pre st nm qual [f1, f2] :=
  ⟨er_mk (C := C) X G op no h1 h2 h3 ht hh har ks kc ka top aC lC aI lI cI lc lco sa ga gt kp cl su hvs hfile, fun x hx => by
    rcases List.mem_cons.mp hx with rfl | e
    · exact x1
    · rcases List.mem_cons.mp e with rfl | e
      · exact x2
      · cases e⟩
end
/-! ### raise of an own error -/
section
variable {P : Program} {K : PySem.W.Frag} {mg : Str → Option Value} {G : Addr} {st : Stmt} {nm qual : Str}
theorem oex_of (T : Er P K mg "ValueError" "ValueError.__new__" "ValueError.__init__" [.type "ValueError", .type "Exception", .type "BaseException", .type "object"] [.ref G] st nm qual) : OexC K T.C := by
  obtain ⟨q, N, bs, sn, sub, ab, col, dd, k0, k1, k2, k3, k5, lk⟩ := T.lk
  exact ⟨⟨nm, q, N, bs, _, sn, sub, ab, col, dd, k0, k1, k2, k3, k5, lk, rfl⟩, T.T.ox.sa, T.T.ox.ex, T.T.ox.ty, T.T.ox.kp⟩
theorem xfc_of {B newId initId : String} {bmB pre : List Value} (T : Er P K mg B newId initId bmB pre st nm qual) : XfC K T.C := ⟨T.T.ox.ga, T.T.ox.gt, T.T.ox.ex, T.T.ox.has.1⟩
/-- what the making of an error asks, ahead of its raise -/
theorem mk_use {H1 : Hp} {C : Addr} {n : Nat} {fF : List V → List (Str × V)} {vs : List V} {R : Value → Option Addr → Hp → Prop} (hn : vs.length = n) (h0 : n ≤ 1000) (k : ∀ d Hf, H1 d = none → Same H1 Hf → Hf d = some (.xd (fF vs)) → R (.ref C) (some d) Hf) :
    vs.length ≤ 1000 ∧ ∀ a, H1 a = none → spIni C n fF (.ref a :: (vs ++ [])) (upd H1 a (exo a C none)) (fun v H2 => v = .non ∧ ∃ (d : Addr) (fs : List (Str × V)), H2 a = some (exo a C (some d)) ∧ H2 d = some (exd d fs) ∧ H1 d = none ∧ R (.ref C) (some d) (upd (del H2 a) d (.xd fs))) (fun _ _ _ => False) := by
  refine ⟨by omega, fun a na => ?_⟩
  rw [List.append_nil]
  refine ⟨a, vs, rfl, hn, upd_same, fun d H2 M => ?_⟩
  obtain ⟨m1, m2, m3, m4, m5⟩ := M
  have hd : H1 d = none := by
    rw [upd_ne m2] at m1
    exact m1
  refine ⟨rfl, d, _, m3, m4, hd, k d _ hd (fun b o z => ?_) upd_same⟩
  have hb : b ≠ a := ne_of_none z na
  rw [upd_ne (ne_of_none z hd), del_ne hb]
  exact m5 b o hb ((upd_ne hb).trans z)
end
/-! ### raise of an own error that takes no arguments
By the statements of call_own, FnOk.run and mk_end; the first two are met in the order in which the model makes an object, as in every rule of this kind. -/
section
variable {X : Cx} {pins : List (Addr × Obj)} {σ : L2.St} {H : Hp} {s : Shared} {C : Addr}
/-- an error just made, with nothing in it -/
def bare (C : Addr) (h : Heap) : Heap := (h.push (PySem.W.kdv_tup [])).push (PySem.HandSPX.excO C h.objs.size)
theorem bare_keeps {h : Heap} : ∀ b o, h.get? b = some o → (bare C h).get? b = some o := by
  intro b o z
  unfold bare
  apply Heap.get?_push_of_some
  apply Heap.get?_push_of_some
  exact z
theorem bare_at {h : Heap} : (bare C h).get? (h.objs.size + 1) = some (PySem.HandSPX.excO C h.objs.size) := by
  have z := Heap.get?_push_size (h.push (PySem.W.kdv_tup [])) (o := PySem.HandSPX.excO C h.objs.size) rfl
  rwa [Heap.size_push] at z
theorem bare_inv (I : Inv X pins σ H s) : Inv X pins σ (upd H (s.heap.objs.size + 1) (exo (s.heap.objs.size + 1) C none)) { s with heap := bare C s.heap } := by
  have ok : ObjOk X.prog X.w (upd H (s.heap.objs.size + 1) (exo (s.heap.objs.size + 1) C none)) (bare C s.heap) (s.heap.objs.size + 1) (exo (s.heap.objs.size + 1) C none) := exo_ok bare_at
  exact I.laid (t' := s.toks) bare_keeps (Nat.le_succ _) ok
/-- what is told of the raise: a table of fields at a new place, the rest as before -/
def ToldE (C : Addr) (fs : List (Str × V)) : L2.St → Hp → XK → Prop := fun _ H Q => ∀ d G, H d = none → Same H G → G d = some (.xd fs) → Q (.ref C) (some d) G
theorem told_end {fs : List (Str × V)} {Q : XK} {a d : Addr} {G : Hp} (na : H a = none) (q : ToldE C fs σ H Q) (m : Made (upd H a (exo a C none)) G a C d fs) : H d = none ∧ Q (.ref C) (some d) (upd (del G a) d (.xd fs)) := by
  have free : H d = none := (upd_ne m.2.1).symm.trans m.1
  refine ⟨free, q d _ free ?_ upd_same⟩
  intro b o z
  have nb := ne_of_none z na
  calc (upd (del G a) d (.xd fs)) b = del G a b := upd_ne (ne_of_none z free)
    _ = G b := del_ne nb
    _ = some o := m.2.2.2.2 b o nb ((upd_ne nb).trans z)
theorem pmkE0 {B newId initId : String} {bmB : List Value} {CX : CXT} {x : Str} {fI : Addr} {k : Nat} {fd : FuncData} {ps : List Str} {fF : List V → List (Str × V)} {p pos : Pos} (E : ErB B newId initId bmB) (T : ErC X.K C newId bmB)
    (iC : PySem.W.findIn X.K (.ref C) "__init__" = some (some (.ref fI))) (tI : PySem.W.typeIn X.K (.ref fI) = some (.type "function")) (ini : FnOk X.prog X.w X.K X.mg X.base CX k fI fd ps (spIni C 0 fF)) (room : Room (k + 1) X.A)
    (binds : Binds X.K fd ps []) (none : Vals [] []) (never : Passes CX X (fun _ _ _ => False)) (gl : Gl X x) (named : X.mg x = some (.ref C)) (plain : (x == ("__debug__" : Str)) = false := by decide) : PMk X (.Call (.Name x p) [] [] pos) (ToldE C (fF [])) := by
  intro pins s σ H Q I q
  apply wpAny_Call_Name_kw
  refine ld_glob I gl named ?_ plain
  refine PySem.W.callWith_K0 I.kIn T.kp (wpAny_call ?_)
  have J := bare_inv (C := C) I
  have na : H (s.heap.objs.size + 1) = .none := I.hok.fresh (Nat.le_succ _)
  -- the initializer, at the bare error
  have asked : spIni C 0 fF [.ref (s.heap.objs.size + 1)] (upd H (s.heap.objs.size + 1) (exo (s.heap.objs.size + 1) C .none)) (fun v G => v = .non ∧ ∃ d, Made (upd H (s.heap.objs.size + 1) (exo (s.heap.objs.size + 1) C .none)) G (s.heap.objs.size + 1) C d (fF [])) (fun _ _ _ => False) := ⟨_, [], rfl, rfl, upd_same, fun d G m => ⟨rfl, d, m⟩⟩
  have one : Vals [V.ref (s.heap.objs.size + 1)] [Value.ref (s.heap.objs.size + 1)] := .cons rfl .nil
  have count : ([Value.ref (s.heap.objs.size + 1)] ++ []).length = ps.length := (ini.len _ _ _ _ asked)
  have ran := ini.run _ X.stack _ _ ⟨[.ref (s.heap.objs.size + 1)], []⟩ _ _ _ _ (room.make C [] []) (J.env0.make C [] []) (binds _ [.ref (s.heap.objs.size + 1)] J.kIn count) one asked
  obtain ⟨_, _, _, _, bm, _, _, _, _, _, _, _, _, _, _, hC, hbm⟩ := T.cls
  refine PySem.HandSPX.call_own (rest := []) E.fb (fun Y => PySem.W.excTail_contains Y bm hbm) (I.kIn _ _ hC) (PySem.W.looks_findIn I.kIn iC) (fun self => PySem.W.bind_fn I.kIn self tI) (Nat.zero_le _) (codeAny_mono ran ?_)
  intro r s' back
  cases r with
  | error er => exact never pins σ _ _ er s' J back
  | ok f =>
    cases f with
    | ret u =>
      obtain ⟨v, G, os', bare', un, hok, rv, rfl, d, m⟩ := back
      obtain ⟨free, q'⟩ := told_end na q m
      exact ⟨rv, mk_end (raises_own T.ex T.ty) I (Nat.le_succ _) bare_keeps un hok os' bare' m.2.2.1 m.2.2.2.1 free q'⟩
    | _ => exact back.elim
end
theorem sq_nn (x : Int) : 0 ≤ x * x := by
  rcases Int.le_total 0 x with h | h
  · exact Int.mul_nonneg h h
  · exact Int.mul_nonneg_of_nonpos_of_nonpos h h
theorem sq_le {x y : Int} (h0 : 0 ≤ x) (h : x ≤ y) : x * x ≤ y * y := Int.mul_le_mul h h h0 (Int.le_trans h0 h)
theorem sq_lt {x y : Int} (h0 : 0 ≤ x) (h : x < y) : x * x < y * y := by
  have h1 : (x + 1) * (x + 1) ≤ y * y := sq_le (by omega) (by omega)
  grind
theorem lt_of_sq {x y : Int} (h0 : 0 ≤ y) (h : x * x < y * y) : x < y := by
  rcases Int.lt_or_le x y with z | z
  · exact z
  · have := sq_le h0 z
    omega
theorem le_of_sq {x y : Int} (h0 : 0 ≤ y) (h : x * x ≤ y * y) : x ≤ y := by
  rcases Int.lt_or_le y x with z | z
  · have := sq_lt h0 z
    omega
  · exact z
/-- Newton's step from above -/
theorem newton_up {g n : Int} (hg : 0 < g) (hn : 0 ≤ n) : n < ((g + n / g) / 2 + 1) * ((g + n / g) / 2 + 1) := by
  have hq : 0 ≤ n / g := Int.ediv_nonneg hn (by omega)
  have h1 : n < g * (n / g + 1) := by
    have := Int.lt_ediv_add_one_mul_self n hg
    grind
  generalize n / g = q at hq h1 ⊢
  have h2 : g + q + 1 ≤ 2 * ((g + q) / 2 + 1) := by omega
  generalize (g + q) / 2 = r at h2 ⊢
  have h3 := sq_nn (g - (q + 1))
  have h4 := sq_le (show 0 ≤ g + q + 1 by omega) h2
  grind
theorem newton_dn {g n : Int} (hg : 0 < g) (h : n < g * g) : (g + n / g) / 2 < g := by
  have h1 : n / g < g := Int.ediv_lt_of_lt_mul hg h
  omega
theorem newton_nn {g n : Int} (hg : 0 < g) (hn : 0 ≤ n) : 0 ≤ (g + n / g) / 2 := by
  have hq : 0 ≤ n / g := Int.ediv_nonneg hn (by omega)
  omega
/-- no root times a square is a square -/
theorem no_square {d k : Int} (hk : 0 ≤ k) (h1 : k * k < d) (h2 : d < (k + 1) * (k + 1)) : ∀ (n : Nat) (b w : Int), 0 < b → 0 ≤ w → b.toNat ≤ n → w * w ≠ d * b * b
  | 0, b, w, hb, _, hn => by omega
  | n + 1, b, w, hb, hw, hn => fun e => by
    have hbb : 0 < b * b := Int.mul_pos hb hb
    have l1 : (k * b) * (k * b) < w * w := by
      have := Int.mul_lt_mul_of_pos_right h1 hbb
      grind
    have l2 : w * w < ((k + 1) * b) * ((k + 1) * b) := by
      have := Int.mul_lt_mul_of_pos_right h2 hbb
      grind
    have m1 : k * b < w := lt_of_sq hw l1
    have m2 : w < (k + 1) * b := lt_of_sq (Int.mul_nonneg (by omega) (by omega)) l2
    have m3 : w - k * b < b := by grind
    refine no_square hk h1 h2 n (w - k * b) (d * b - k * w) (by omega) ?_ (by omega) (by grind)
    have : (k * w) * b ≤ (d * b) * b := by
      have z := Int.mul_le_mul_of_nonneg_right (Int.le_of_lt m1) hw
      grind
    have z : k * w ≤ d * b := Int.le_of_mul_le_mul_right this hb
    omega
/-! ### defs with defaults, methods by keywords -/
inductive Dflt (K : PySem.W.Frag) (r : Addr) : Prop
  | mk {y1 y2 : Addr} {d e f : Option Addr} {m n o : Nat} {s t u : Array (Option Value)} {v w x y : Tok} (a : K.lookup r = some ⟨.type "tuple", d, .seq #[.ref y1, .ref y2] m, s⟩)
      (b : K.lookup y1 = some ⟨.type "tuple", e, .seq #[.int 0 v, .int 0 w] n, t⟩) (c : K.lookup y2 = some ⟨.type "tuple", f, .seq #[.int 0 x, .int 0 y] o, u⟩) : Dflt K r
section
variable {K : PySem.W.Frag} {f T D : Addr} {oc tc u : Value} {od td : Option Addr} {fd : FuncData} {sl ts : Array (Option Value)} {tn : Nat} {its : Array Value} {ps : List Str} {x : Str}
theorem bd_given (l : K.lookup f = some ⟨oc, od, .func fd, sl⟩) (t : K.lookup T = some ⟨tc, td, .seq its tn, ts⟩) (h : ∀ us : List Value, us.length = ps.length → ∃ k, bindArgs fd ⟨us, []⟩ = seqItems? (.ref T) >>= k ∧ k (some its) = pure (ps.zip us)) : Binds K fd ps [] := fun s us X hl => by
  rw [List.append_nil] at hl ⊢
  obtain ⟨k, e1, e2⟩ := h us hl
  refine BindsTo.of_looks fun M => ?_
  rw [e1]
  exact looks_items X t rfl (.of_pure e2)
theorem bd_dflt {v : Value} (l : K.lookup f = some ⟨oc, od, .func fd, sl⟩) (t : K.lookup T = some ⟨tc, td, .seq #[v] tn, ts⟩) (h : ∀ us : List Value, us.length + 1 = ps.length → ∃ k, bindArgs fd ⟨us, []⟩ = seqItems? (.ref T) >>= k ∧ k (some #[v]) = pure (ps.zip (us ++ [v]))) : Binds K fd ps [v] := fun s us X hl => by
  rw [List.length_append] at hl
  obtain ⟨k, e1, e2⟩ := h us hl
  refine BindsTo.of_looks fun M => ?_
  rw [e1]
  exact looks_items X t rfl (.of_pure e2)
theorem bd_kw (l : K.lookup f = some ⟨oc, od, .func fd, sl⟩) (kd : PySem.W.nsIn K D x = some (some u)) (h : ∀ us : List Value, us.length + 1 = ps.length → KwChain D [(x, u)] (bindArgs fd ⟨us, []⟩) (ps.zip (us ++ [u]))) : Binds K fd ps [u] := fun s us X hl => by
  rw [List.length_append] at hl
  refine BindsTo.of_looks fun M => ?_
  refine KwChain.looks X ?_ (h us hl)
  intro q hq
  rcases List.mem_cons.mp hq with e | e
  · rw [e]
    exact kd
  · cases e
end
section
variable {X : Cx} {CX : CXT} {k : Nat} {f C : Addr} {fd : FuncData} {ps ks : List Str} {sp : Sp} {E : XK} {m : Str} {pos apos : Pos} {o : Expr} {kws : List Keyword} {ta : TE} {tk : TA}
theorem pe_methK0 {pl : Sem Bool} {g : List Value → List Value → List Value} {gV : List V → List V → List V} (he : PE X o ta) (c : Cls X.K C) (hm : Meth X.K C m f) (F : FnOk X.prog X.w X.K X.mg X.base CX k f fd ps sp) (hr : Room k X.A) (hb : KBn X.K fd ps 1 ks g gV) (hx : Passes CX X E) (hkw : PK X kws tk)
    (hall : (backToKw pos (keywordEach kws X.env)).all (·.1.isSome) = true := by rfl)
    (hks : (backToKw pos (keywordEach kws X.env)).filterMap (·.1) = ks := by rfl)
    (hpl : ((backTo pos (starEach [] X.env)).any (·.1) || (backToKw pos (keywordEach kws X.env)).any (·.1.isNone)) = false := by rfl)
    (ht : eval (.Call (.Attribute o m apos) [] kws pos) X.env = (do
      let ov ← eval o X.env
      standAt apos.atName
      let (f, first) ← holding [ov] (getMethod ov m pl)
      callWith pos f first (backTo pos (starEach [] X.env)) (backToKw pos (keywordEach kws X.env))) := by rfl) :
    PE X (.Call (.Attribute o m apos) [] kws pos) (fun σ H Q => ta σ H fun x H1 => ∃ a dx fs, x = .ref a ∧ H1 a = some (.ins C dx fs) ∧ fs.lookup m = none ∧ tk σ H1 fun zs H2 => zs.length = ks.length ∧ sp (gV [.ref a] zs) H2 Q E) := by
  refine ⟨fun pins s σ H Q I h => ?_⟩
  refine PySem.W.methodCall_KW (pl := pl) (thn (he.run pins s σ H _ I h) fun u s1 ⟨x, H1, I1, rx, a, dx, fs, ex, ea, l, q⟩ => ?_) ht
  subst ex
  obtain rfl : u = Value.ref a := rx
  refine getmeth_ok I1 ea c hm l ?_
  refine PySem.W.callWith_KW0 (first := [.ref a]) (h₀ := X.base) I.ok.mod.kin hm.kp hall ?_ hpl
  refine thn (hkw.run pos pins s1 σ H1 _ I1 q) fun ws s2 ⟨zs, H2, I2, rz, l2, q2⟩ => ⟨I2.kIn, ?_⟩
  rw [hks]
  exact run_fnN (us := [.ref a]) (vs := [.ref a]) F hr hb hx I2 (.cons rfl .nil) rz rfl l2 q2
end
def topS (i : Nat) : Stmt := PySem.Challenge.pw_grainyard_k63_texts_of_pairs.main.body.getD i (.Pass ⟨0, 0, 0, 0⟩)
abbrev s_decimal_text : Stmt := topS 7
theorem sc_decimal_text : FnScope ["number", "rest", "groups", "group"] ["number"] (defScope s_decimal_text) := ⟨rfl, rfl, rfl, by decide +kernel, rfl, by decide +kernel, by decide +kernel⟩
abbrev s_scaled : Stmt := topS 9
theorem sc_scaled : FnScope ["pair", "number", "a", "b"] ["pair", "number"] (defScope s_scaled) := ⟨rfl, rfl, rfl, by decide +kernel, rfl, by decide +kernel, by decide +kernel⟩
abbrev s_pair_text : Stmt := topS 12
theorem sc_pair_text : FnScope ["pair", "sign", "a", "b"] ["pair"] (defScope s_pair_text) := ⟨rfl, rfl, rfl, by decide +kernel, rfl, by decide +kernel, by decide +kernel⟩
abbrev s_read_number : Stmt := topS 13
theorem sc_read_number : FnScope ["text", "digits", "number", "digit"] ["text"] (defScope s_read_number) := ⟨rfl, rfl, rfl, by decide +kernel, rfl, by decide +kernel, by decide +kernel⟩
abbrev s_read_numbers : Stmt := topS 14
theorem sc_read_numbers : FnScope ["texts", "numbers", "text"] ["texts"] (defScope s_read_numbers) := ⟨rfl, rfl, rfl, by decide +kernel, rfl, by decide +kernel, by decide +kernel⟩
abbrev s_read_pair : Stmt := topS 15
theorem sc_read_pair : FnScope ["text", "body", "at", "pair"] ["text"] (defScope s_read_pair) := ⟨rfl, rfl, rfl, by decide +kernel, rfl, by decide +kernel, by decide +kernel⟩
abbrev s_found_in_text : Stmt := topS 16
theorem sc_found_in_text : FnScope ["item"] ["item"] (defScope s_found_in_text) := ⟨rfl, rfl, rfl, by decide +kernel, rfl, by decide +kernel, by decide +kernel⟩
abbrev s_parse_pair : Stmt := topS 17
theorem sc_parse_pair : FnScope ["text"] ["text"] (defScope s_parse_pair) := ⟨rfl, rfl, rfl, by decide +kernel, rfl, by decide +kernel, by decide +kernel⟩
abbrev s_source : Stmt := topS 19
theorem sc_source : FnScope ["_law_script", "_law_mix", "_law_cell"] ["_law_script"] (defScope s_source) := ⟨rfl, rfl, rfl, by decide +kernel, rfl, by decide +kernel, by decide +kernel⟩
abbrev s_pull : Stmt := topS 20
theorem sc_pull : FnScope ["_law_bag", "_law_size", "_law_mix", "_law_cell", "_law_found"] ["_law_bag", "_law_size"] (defScope s_pull) := ⟨rfl, rfl, rfl, by decide +kernel, rfl, by decide +kernel, by decide +kernel⟩
abbrev s_of : Stmt := topS 21
theorem sc_of : FnScope ["_law_bag", "_law_some"] ["_law_bag", "_law_some"] (defScope s_of) := ⟨rfl, rfl, rfl, by decide +kernel, rfl, by decide +kernel, by decide +kernel⟩
abbrev s_any_pair : Stmt := topS 22
theorem sc_any_pair : FnScope ["_law_bag", "_law_size"] ["_law_bag"] (defScope s_any_pair) := ⟨rfl, rfl, rfl, by decide +kernel, rfl, by decide +kernel, by decide +kernel⟩
abbrev s_a_number : Stmt := topS 23
theorem sc_a_number : FnScope ["_law_bag", "_law_size"] ["_law_bag"] (defScope s_a_number) := ⟨rfl, rfl, rfl, by decide +kernel, rfl, by decide +kernel, by decide +kernel⟩
abbrev s_lpair_text : Stmt := topS 24
theorem sc_lpair_text : FnScope ["_law_pair_z", "_law_a", "_law_b"] ["_law_pair_z"] (defScope s_lpair_text) := ⟨rfl, rfl, rfl, by decide +kernel, rfl, by decide +kernel, by decide +kernel⟩
abbrev s_like : Stmt := topS 25
theorem sc_like : FnScope ["_law_found", "_law_due", "_law_k"] ["_law_found", "_law_due"] (defScope s_like) := ⟨rfl, rfl, rfl, by decide +kernel, rfl, by decide +kernel, by decide +kernel⟩
abbrev s_bent_text : Stmt := topS 26
theorem sc_bent_text : FnScope ["_law_bag", "_law_text_z", "_law_signs", "_law_at", "_law_sign_z"] ["_law_bag", "_law_text_z", "_law_signs"] (defScope s_bent_text) := ⟨rfl, rfl, rfl, by decide +kernel, rfl, by decide +kernel, by decide +kernel⟩
abbrev s_number_read : Stmt := topS 27
theorem sc_number_read : FnScope ["_law_word", "_law_digits", "_law_sign_z"] ["_law_word"] (defScope s_number_read) := ⟨rfl, rfl, rfl, by decide +kernel, rfl, by decide +kernel, by decide +kernel⟩
abbrev s_pair_read : Stmt := topS 28
theorem sc_pair_read : FnScope ["_law_text_z", "_law_signs", "_law_at", "_law_first", "_law_second", "_law_number", "_law_one", "_law_other", "_law_k"] ["_law_text_z"] (defScope s_pair_read) := ⟨rfl, rfl, rfl, by decide +kernel, rfl, by decide +kernel, by decide +kernel⟩
abbrev s_field_of : Stmt := topS 29
theorem sc_field_of : FnScope ["_law_e"] ["_law_e"] (defScope s_field_of) := ⟨rfl, rfl, rfl, by decide +kernel, rfl, by decide +kernel, by decide +kernel⟩
abbrev s_try : Stmt := topS 30
theorem sc_try : FnScope ["_law_ask", "_law_e"] ["_law_ask"] (defScope s_try) := ⟨rfl, rfl, rfl, by decide +kernel, rfl, by decide +kernel, by decide +kernel⟩
abbrev s_law : Stmt := topS 31
theorem sc_law : FnScope ["_law_script", "_law_bag", "_law_signs", "_law_turn", "_law_long", "_law_word", "_law_odd", "_law_due", "_law_pair_z", "_law_text_z", "_law_bent", "_law_some", "_law_big", "_law_many", "_law_found", "_law_k"] ["_law_script"] (defScope s_law) := ⟨rfl, rfl, rfl, by decide +kernel, rfl, by decide +kernel, by decide +kernel⟩
abbrev i_BadText : Stmt := inClass (topS 3) 0
theorem sc_iBadText : NScope ["self", "at", "__class__"] ["self", "at"] ["__class__"] (defScope i_BadText) := nscope_by (by decide +kernel)
abbrev i_NothingLeft : Stmt := inClass (topS 4) 0
theorem sc_iNothingLeft : NScope ["self", "__class__"] ["self"] ["__class__"] (defScope i_NothingLeft) := nscope_by (by decide +kernel)
structure Txt (K : PySem.W.Frag) (mg : Str → Option Value) where
  f_decimal_text : Addr
  d_decimal_text : FuncData
  F_decimal_text : Fun K "decimal_text" "decimal_text" s_decimal_text f_decimal_text d_decimal_text
  g_decimal_text : mg "decimal_text" = some (.ref f_decimal_text)
  b_decimal_text : Binds K d_decimal_text ["number"] []
  f_scaled : Addr
  d_scaled : FuncData
  F_scaled : Fun K "scaled" "scaled" s_scaled f_scaled d_scaled
  g_scaled : mg "scaled" = some (.ref f_scaled)
  b_scaled : Binds K d_scaled ["pair", "number"] []
  f_pair_text : Addr
  d_pair_text : FuncData
  F_pair_text : Fun K "pair_text" "pair_text" s_pair_text f_pair_text d_pair_text
  g_pair_text : mg "pair_text" = some (.ref f_pair_text)
  b_pair_text : Binds K d_pair_text ["pair"] []
  f_read_number : Addr
  d_read_number : FuncData
  F_read_number : Fun K "read_number" "read_number" s_read_number f_read_number d_read_number
  g_read_number : mg "read_number" = some (.ref f_read_number)
  b_read_number : Binds K d_read_number ["text"] []
  f_read_numbers : Addr
  d_read_numbers : FuncData
  F_read_numbers : Fun K "read_numbers" "read_numbers" s_read_numbers f_read_numbers d_read_numbers
  g_read_numbers : mg "read_numbers" = some (.ref f_read_numbers)
  b_read_numbers : Binds K d_read_numbers ["texts"] []
  f_read_pair : Addr
  d_read_pair : FuncData
  F_read_pair : Fun K "read_pair" "read_pair" s_read_pair f_read_pair d_read_pair
  g_read_pair : mg "read_pair" = some (.ref f_read_pair)
  b_read_pair : Binds K d_read_pair ["text"] []
  f_found_in_text : Addr
  d_found_in_text : FuncData
  F_found_in_text : Fun K "found_in_text" "found_in_text" s_found_in_text f_found_in_text d_found_in_text
  g_found_in_text : mg "found_in_text" = some (.ref f_found_in_text)
  b_found_in_text : Binds K d_found_in_text ["item"] []
  f_parse_pair : Addr
  d_parse_pair : FuncData
  F_parse_pair : Fun K "parse_pair" "parse_pair" s_parse_pair f_parse_pair d_parse_pair
  g_parse_pair : mg "parse_pair" = some (.ref f_parse_pair)
  b_parse_pair : Binds K d_parse_pair ["text"] []
  f_source : Addr
  d_source : FuncData
  F_source : Fun K "_law_source" "_law_source" s_source f_source d_source
  g_source : mg "_law_source" = some (.ref f_source)
  b_source : Binds K d_source ["_law_script"] []
  f_pull : Addr
  d_pull : FuncData
  F_pull : Fun K "_law_pull" "_law_pull" s_pull f_pull d_pull
  g_pull : mg "_law_pull" = some (.ref f_pull)
  b_pull : Binds K d_pull ["_law_bag", "_law_size"] []
  f_of : Addr
  d_of : FuncData
  F_of : Fun K "_law_of" "_law_of" s_of f_of d_of
  g_of : mg "_law_of" = some (.ref f_of)
  b_of : Binds K d_of ["_law_bag", "_law_some"] []
  f_any_pair : Addr
  d_any_pair : FuncData
  F_any_pair : Fun K "_law_any_pair" "_law_any_pair" s_any_pair f_any_pair d_any_pair
  g_any_pair : mg "_law_any_pair" = some (.ref f_any_pair)
  b_any_pair : Binds K d_any_pair ["_law_bag"] []
  f_a_number : Addr
  d_a_number : FuncData
  F_a_number : Fun K "_law_a_number" "_law_a_number" s_a_number f_a_number d_a_number
  g_a_number : mg "_law_a_number" = some (.ref f_a_number)
  b_a_number : Binds K d_a_number ["_law_bag"] []
  f_lpair_text : Addr
  d_lpair_text : FuncData
  F_lpair_text : Fun K "_law_pair_text" "_law_pair_text" s_lpair_text f_lpair_text d_lpair_text
  g_lpair_text : mg "_law_pair_text" = some (.ref f_lpair_text)
  b_lpair_text : Binds K d_lpair_text ["_law_pair_z"] []
  f_like : Addr
  d_like : FuncData
  F_like : Fun K "_law_like" "_law_like" s_like f_like d_like
  g_like : mg "_law_like" = some (.ref f_like)
  b_like : Binds K d_like ["_law_found", "_law_due"] []
  f_bent_text : Addr
  d_bent_text : FuncData
  F_bent_text : Fun K "_law_bent_text" "_law_bent_text" s_bent_text f_bent_text d_bent_text
  g_bent_text : mg "_law_bent_text" = some (.ref f_bent_text)
  b_bent_text : Binds K d_bent_text ["_law_bag", "_law_text_z", "_law_signs"] []
  f_number_read : Addr
  d_number_read : FuncData
  F_number_read : Fun K "_law_number_read" "_law_number_read" s_number_read f_number_read d_number_read
  g_number_read : mg "_law_number_read" = some (.ref f_number_read)
  b_number_read : Binds K d_number_read ["_law_word"] []
  f_pair_read : Addr
  d_pair_read : FuncData
  F_pair_read : Fun K "_law_pair_read" "_law_pair_read" s_pair_read f_pair_read d_pair_read
  g_pair_read : mg "_law_pair_read" = some (.ref f_pair_read)
  b_pair_read : Binds K d_pair_read ["_law_text_z"] []
  f_field_of : Addr
  d_field_of : FuncData
  F_field_of : Fun K "_law_field_of" "_law_field_of" s_field_of f_field_of d_field_of
  g_field_of : mg "_law_field_of" = some (.ref f_field_of)
  b_field_of : Binds K d_field_of ["_law_e"] []
  f_try : Addr
  d_try : FuncData
  F_try : Fun K "_law_try" "_law_try" s_try f_try d_try
  g_try : mg "_law_try" = some (.ref f_try)
  b_try : Binds K d_try ["_law_ask"] []
  n_ValueError : mg "ValueError" = none
  n_LookupError : mg "LookupError" = none
  n_IndexError : mg "IndexError" = none
  n_int : mg "int" = none
  n_tuple : mg "tuple" = none
  n_max : mg "max" = none
  n_isinstance : mg "isinstance" = none
  n_range : mg "range" = none
  n_str : mg "str" = none
  n_list : mg "list" = none
  n_all : mg "all" = none
  n_len : mg "len" = none
  n_bool : mg "bool" = none
  u_GROUP : Value
  g_GROUP : mg "GROUP" = some u_GROUP
  rv_GROUP : RelV (.int (10 ^ 64)) u_GROUP
  u_MOST_DIGITS : Value
  g_MOST_DIGITS : mg "MOST_DIGITS" = some u_MOST_DIGITS
  rv_MOST_DIGITS : RelV (.int (20)) u_MOST_DIGITS
  kb_parse_pair_text : KBn K d_parse_pair ["text"] 0 ["text"] (fun us ws : List Value => [ws.getD 0 .none]) (fun us ws : List V => [ws.getD 0 .non])
  kb_pair_text_pair : KBn K d_pair_text ["pair"] 0 ["pair"] (fun us ws : List Value => [ws.getD 0 .none]) (fun us ws : List V => [ws.getD 0 .non])
  r_GrainError : Addr
  g_GrainError : mg "GrainError" = some (.ref r_GrainError)
  c_GrainError : ∃ cd : ClassData, PySem.W.clsIn K r_GrainError = some cd ∧ cd.name = "GrainError"
  t_GrainError : PySem.W.typeIn K (.ref r_GrainError) = some (.type "type")
  sb_GrainError : PySem.W.subIn K (.ref r_GrainError) (.type "BaseException") = some true
  r_GrainMissing : Addr
  g_GrainMissing : mg "GrainMissing" = some (.ref r_GrainMissing)
  c_GrainMissing : ∃ cd : ClassData, PySem.W.clsIn K r_GrainMissing = some cd ∧ cd.name = "GrainMissing"
  t_GrainMissing : PySem.W.typeIn K (.ref r_GrainMissing) = some (.type "type")
  sb_GrainMissing : PySem.W.subIn K (.ref r_GrainMissing) (.type "BaseException") = some true
  e_BadText : Er PySem.Challenge.pw_grainyard_k63_texts_of_pairs K mg "ValueError" "ValueError.__new__" "ValueError.__init__" [.type "ValueError", .type "Exception", .type "BaseException", .type "object"] [.ref r_GrainError] i_BadText "BadText" "BadText.__init__"
  x_BadText_word : PySem.W.findIn K (.ref e_BadText.C) "word" = some none
  x_BadText_at : PySem.W.findIn K (.ref e_BadText.C) "at" = some none
  e_NothingLeft : Er PySem.Challenge.pw_grainyard_k63_texts_of_pairs K mg "IndexError" "IndexError.__new__" "IndexError.__init__" [.type "IndexError", .type "LookupError", .type "Exception", .type "BaseException", .type "object"] [] i_NothingLeft "NothingLeft" "NothingLeft.__init__"
  x_NothingLeft_word : PySem.W.findIn K (.ref e_NothingLeft.C) "word" = some none
  hn : PySem.W.specialIn K (.builtin "object.__class__") "__get__" = some (some (.builtin "getset_descriptor.__get__"))
  ht : PySem.W.takesIn K (.builtin "object.__class__") = some true
theorem vals_getD : ∀ {zs : List V} {ws : List Value} (_ : Vals zs ws) (i : Nat), RelV (zs.getD i .non) (ws.getD i .none)
  | _, _, .nil, _ => rfl
  | _, _, .cons r _, 0 => r
  | _, _, .cons _ t, i + 1 => vals_getD t i
theorem kbn_parse_pair_text {K : PySem.W.Frag} {f : Addr} {fd : FuncData} (F : Fun K "parse_pair" "parse_pair" s_parse_pair f fd) : KBn K fd ["text"] 0 ["text"] (fun us ws : List Value => [ws.getD 0 .none]) (fun us ws : List V => [ws.getD 0 .non]) := by
  obtain ⟨o1, o2, v1, v2, v3, a1, v4, v5, s1, rfl, r1, r2⟩ := F.ex
  refine ⟨fun s us ws _ l1 l2 => ?_, fun r1 r2 => .cons (vals_getD r2 0) (.nil)⟩
  match us, ws, l1, l2 with
  | [], [_], _, _ => exact .of_eq rfl
theorem kbn_pair_text_pair {K : PySem.W.Frag} {f : Addr} {fd : FuncData} (F : Fun K "pair_text" "pair_text" s_pair_text f fd) : KBn K fd ["pair"] 0 ["pair"] (fun us ws : List Value => [ws.getD 0 .none]) (fun us ws : List V => [ws.getD 0 .non]) := by
  obtain ⟨o1, o2, v1, v2, v3, a1, v4, v5, s1, rfl, r1, r2⟩ := F.ex
  refine ⟨fun s us ws _ l1 l2 => ?_, fun r1 r2 => .cons (vals_getD r2 0) (.nil)⟩
  match us, ws, l1, l2 with
  | [], [_], _, _ => exact .of_eq rfl
section
variable {base : Heap} {K : PySem.W.Frag} {mg : Str → Option Value} {w : World}
theorem ini_BadText (T : Txt K mg) : FnOk PySem.Challenge.pw_grainyard_k63_texts_of_pairs w K mg base CX0 1 T.e_BadText.f ((NFI i_BadText "BadText.__init__" T.e_BadText.cc T.e_BadText.c).fd T.e_BadText.doc T.e_BadText.pm T.e_BadText.ctv) ["self", "at"] (spIni T.e_BadText.C 1 fun ws => [("at", ws.getD 0 .non), ("word", .str "BadText")]) := ok_ini1 erb_VE T.e_BadText sc_iBadText rfl T.x_BadText_word T.x_BadText_at
theorem bi_BadText (T : Txt K mg) : Binds K ((NFI i_BadText "BadText.__init__" T.e_BadText.cc T.e_BadText.c).fd T.e_BadText.doc T.e_BadText.pm T.e_BadText.ctv) ["self", "at"] [] := .all fun us hl => match us, hl with | [_, _], _ => rfl
theorem ini_NothingLeft (T : Txt K mg) : FnOk PySem.Challenge.pw_grainyard_k63_texts_of_pairs w K mg base CX0 1 T.e_NothingLeft.f ((NFI i_NothingLeft "NothingLeft.__init__" T.e_NothingLeft.cc T.e_NothingLeft.c).fd T.e_NothingLeft.doc T.e_NothingLeft.pm T.e_NothingLeft.ctv) ["self"] (spIni T.e_NothingLeft.C 0 fun _ => [("word", .str "NothingLeft")]) := ok_ini0 erb_IE T.e_NothingLeft sc_iNothingLeft rfl T.x_NothingLeft_word
theorem bi_NothingLeft (T : Txt K mg) : Binds K ((NFI i_NothingLeft "NothingLeft.__init__" T.e_NothingLeft.cc T.e_NothingLeft.c).fd T.e_NothingLeft.doc T.e_NothingLeft.pm T.e_NothingLeft.ctv) ["self"] [] := .all fun us hl => match us, hl with | [_], _ => rfl
end
/-! ### heaps, and the bag that the draws change -/
def Keep (b : Addr) (H H' : Hp) : Prop := ∀ a o, a ≠ b → H a = some o → H' a = some o
theorem Keep.refl {b : Addr} (H : Hp) : Keep b H H := fun _ _ _ e => e
theorem Keep.trans {b : Addr} {H H1 H2 : Hp} (x : Keep b H H1) (y : Keep b H1 H2) : Keep b H H2 := fun a o n e => y a o n (x a o n e)
theorem keep_put {b : Addr} {H : Hp} {o : HO} : Keep b H (upd H b o) := fun a u n e => (upd_ne n).trans e
theorem keep_new {b p : Addr} {H : Hp} {o : HO} (hp : H p = none) : Keep b H (upd H p o) := fun a u _ e => (upd_ne (ne_of_none e hp)).trans e
theorem same_new {p : Addr} {H : Hp} {o : HO} (hp : H p = none) : Same H (upd H p o) := fun a u e => (upd_ne (ne_of_none e hp)).trans e
theorem keep_of {b : Addr} {H H' : Hp} (s : Same H H') : Keep b H H' := fun a o _ e => s a o e
theorem Same.keep {b : Addr} {H H1 H2 : Hp} (s : Same H H1) (k : Keep b H1 H2) (hb : H b = none) : Same H H2 := fun a o e => k a o (ne_of_none e hb) (s a o e)
structure BagAt (H : Hp) (b s : Addr) (ns : List Int) (i j m c : Int) : Prop where
  hb : H b = some (.lst [.ref s, .int i, .int j, .int m, .int c])
  hs : H s = some (.lst (ns.map V.int))
  i0 : 0 ≤ i
  i1 : i ≤ (ns.length : Int)
  m0 : 0 ≤ m
  m1 : m < 2147483399
def Bag (H : Hp) (b sb : Addr) : Prop := ∃ (ns : List Int) (i j m c : Int), BagAt H b sb ns i j m c
theorem BagAt.ne {H : Hp} {b s : Addr} {ns : List Int} {i j m c : Int} (B : BagAt H b s ns i j m c) : s ≠ b := ne_of B.hs B.hb (by
  intro e
  injection e with e
  cases ns with
  | nil => simp at e
  | cons x r => simp at e)
theorem BagAt.put {H : Hp} {b s : Addr} {ns : List Int} {i j m c : Int} (B : BagAt H b s ns i j m c) {i' j' m' c' : Int} (h0 : 0 ≤ i') (h1 : i' ≤ (ns.length : Int)) (h2 : 0 ≤ m') (h3 : m' < 2147483399) :
    BagAt (upd H b (.lst [.ref s, .int i', .int j', .int m', .int c'])) b s ns i' j' m' c' := ⟨upd_same, (upd_ne B.ne).trans B.hs, h0, h1, h2, h3⟩
theorem BagAt.same {H H' : Hp} {b s : Addr} {ns : List Int} {i j m c : Int} (B : BagAt H b s ns i j m c) (e : Same H H') : BagAt H' b s ns i j m c := ⟨e _ _ B.hb, e _ _ B.hs, B.i0, B.i1, B.m0, B.m1⟩
theorem Bag.same {H H' : Hp} {b sb : Addr} (B : Bag H b sb) (e : Same H H') : Bag H' b sb := by
  obtain ⟨ns, i, j, m, c, B⟩ := B
  exact ⟨ns, i, j, m, c, B.same e⟩
theorem Bag.new {H : Hp} {b sb p : Addr} {o : HO} (B : Bag H b sb) (hp : H p = none) : Bag (upd H p o) b sb := B.same (same_new hp)
theorem Bag.ne {H : Hp} {b sb p : Addr} (B : Bag H b sb) (hp : H p = none) : p ≠ b := by
  obtain ⟨ns, i, j, m, c, B⟩ := B
  exact (ne_of_none B.hb hp).symm
theorem Bag.ne2 {H : Hp} {b sb p : Addr} (B : Bag H b sb) (hp : H p = none) : p ≠ sb := by
  obtain ⟨ns, i, j, m, c, B⟩ := B
  exact (ne_of_none B.hs hp).symm
theorem Bag.tup {H : Hp} {b sb p : Addr} {xs : List V} (B : Bag H b sb) (hp : H p = some (.tup xs)) : p ≠ b := by
  obtain ⟨ns, i, j, m, c, B⟩ := B
  exact ne_of hp B.hb (by intro z; cases z)
theorem Bag.put {H : Hp} {b sb l : Addr} {o : HO} (B : Bag H b sb) (h1 : l ≠ b) (h2 : l ≠ sb) : Bag (upd H l o) b sb := by
  obtain ⟨ns, i, j, m, c, B⟩ := B
  exact ⟨ns, i, j, m, c, (upd_ne h1.symm).trans B.hb, (upd_ne h2.symm).trans B.hs, B.i0, B.i1, B.m0, B.m1⟩
theorem Keep.list {K : PySem.W.Frag} {H H' : Hp} {b p : Addr} {xs : List V} (k : Keep b H H') (hp : p ≠ b) (h : H p = some (.lst xs)) : SqL K H' p xs := SqL.of (k _ _ hp h)
theorem at_some {α : Type} {xs : List α} {i : Int} (h0 : 0 ≤ i) (h1 : i < (xs.length : Int)) : ∃ v, xs[i.toNat]? = some v ∧ atI xs i = some v := by
  obtain ⟨n, rfl⟩ := Int.eq_ofNat_of_zero_le h0
  have hl : n < xs.length := by omega
  exact ⟨xs[n], by simp [hl], atI_nat (by simp [hl])⟩
theorem at_ex {ns : List Int} {i : Int} (h0 : 0 ≤ i) (h1 : i < (ns.length : Int)) : ∃ z, atI (ns.map V.int) i = some (.int z) := by
  obtain ⟨n, rfl⟩ := Int.eq_ofNat_of_zero_le h0
  have hl : n < ns.length := by omega
  exact ⟨ns[n], atI_nat (by simp [hl])⟩
/-! ### f(k = v, ..): keywords alone -/
section
variable {X : Cx}
theorem pe_kwOnly {CX : CXT} {k : Nat} {f : Addr} {fd : FuncData} {ps ks : List Str} {sp : Sp} {E : XK} {x : Str} {p pos : Pos} {kws : List Keyword} {tk : TA} {g : List Value → List Value → List Value} {gV : List V → List V → List V}
    (F : FnOk X.prog X.w X.K X.mg X.base CX k f fd ps sp) (hr : Room k X.A) (hg : Gl X x) (hm : X.mg x = some (.ref f))
    (hk : PySem.W.keepIn X.K (.ref f) = true) (hb : KBn X.K fd ps 0 ks g gV) (hx : Passes CX X E) (hkw : PK X kws tk)
    (hall : (backToKw pos (keywordEach kws X.env)).all (·.1.isSome) = true := by rfl)
    (hks : (backToKw pos (keywordEach kws X.env)).filterMap (·.1) = ks := by rfl)
    (hdb : (x == ("__debug__" : Str)) = false := by decide)
    (hpl : ((backTo pos (starEach [] X.env)).any (·.1) || (backToKw pos (keywordEach kws X.env)).any (·.1.isNone)) = false := by rfl) :
    PE X (.Call (.Name x p) [] kws pos) (fun σ H Q => tk σ H fun zs H2 => zs.length = ks.length ∧ sp (gV [] zs) H2 Q E) := by
  refine ⟨fun pins s σ H Q I h => wpAny_Call_Name_kw (ld_glob I hg hm ?_ hdb)⟩
  refine PySem.W.callWith_KW0 (h₀ := X.base) I.ok.mod.kin hk hall ?_ hpl
  refine thn (hkw.run pos pins s σ H _ I h) fun ws s2 ⟨zs, H2, I2, rz, l2, q2⟩ => ⟨I2.kIn, ?_⟩
  rw [hks]
  exact run_fnN (us := []) (vs := []) F hr hb hx I2 .nil rz rfl l2 q2
end
/-! ### the law's own draws -/
section
variable {base : Heap} {K : PySem.W.Frag} {mg : Str → Option Value} {P : Program} {w : World}
def spPull : Sp := fun vs H Q _ => ∃ (b sb : Addr) (n : Int), vs = [.ref b, .int n] ∧ Bag H b sb ∧ 0 < n ∧ n.natAbs < 2 ^ 100 ∧ ∀ z H', 0 ≤ z → z < n → Bag H' b sb → Keep b H H' → Q (.int z) H'
theorem ok_pull (T : Txt K mg) : FnOk P w K mg base CX0 1 T.f_pull T.d_pull ["_law_bag", "_law_size"] spPull := by
  refine T.F_pull.ok sc_pull (fun vs H Q E h => ?_) (fun cdv A outer s H vs Q E hr h => ?_)
  · obtain ⟨b, sb, n, rfl, _⟩ := h
    rfl
  · obtain ⟨b, s1, n, rfl, ⟨ns, i, j, m, c, B⟩, h0, h1, q⟩ := h
    refine ⟨_, (pss_cons (ps_asg (pe_op op_add (pe_ix ix_list (pv 0) pe_int (fun _ _ => rfl)) pe_int) (pg_sub (pv 0) pe_int set_list))
      (Evl.pss_cut (ps_if (PW.pt (pw_and (pt_cmpR op_eq (pe_ix ix_list (pv 0) pe_int (fun _ _ => rfl)) pe_int (nomark _)) (pw_and1 (pt_cmpR op_lt (pe_ix ix_list (pv 0) pe_int (fun _ _ => rfl)) (pe_callB call_len_seq (by rfl) T.n_len (by decide +kernel) (pa_cons (pe_ix ix_list (pv 0) pe_int (fun _ _ => rfl)) pa_nil)) (nomark _))))) (pss_cons (ps_set (i := 3) sc_pull.nd rfl (Or.inl rfl) (pe_ix ix_list (pe_ix ix_list (pv 0) pe_int (fun _ _ => rfl)) (pe_ix ix_list (pv 0) pe_int (fun _ _ => rfl)) (fun _ _ => rfl)))
      (pss_cons (ps_asg (pe_op op_add (pe_ix ix_list (pv 0) pe_int (fun _ _ => rfl)) pe_int) (pg_sub (pv 0) pe_int set_list))
      (pss_one (ps_if (pt_cmpR op_ge (pv 3) (pe_op op_pow pe_int pe_int) (nomark _)) (pss_one (ps_asg (pv 3) (pg_sub (pv 0) pe_int set_list))) (pss_cons (ps_set (i := 2) sc_pull.nd rfl (Or.inl rfl) (pe_op op_add (pe_op op_mul (pe_ix ix_list (pv 0) pe_int (fun _ _ => rfl)) pe_int) (pe_op op_mul (pe_op op_mod (pv 3) pe_int) pe_int)))
      (pss_one (ps_asg (pe_op op_mod (pe_op op_add (pv 2) pe_int) pe_int) (pg_sub (pv 0) pe_int set_list)))))))) pss_nil)
      (pss_cons (ps_if (pt_cmpR op_gt (pe_ix ix_list (pv 0) pe_int (fun _ _ => rfl)) pe_int (nomark _)) (pss_cons (ps_set (i := 4) sc_pull.nd rfl (Or.inl rfl) (pe_op op_mod (pe_ix ix_list (pv 0) pe_int (fun _ _ => rfl)) (pv 1)))
      (pss_cons (ps_asg (pe_op op_fdivW (pe_ix ix_list (pv 0) pe_int (fun _ _ => rfl)) (pv 1)) (pg_sub (pv 0) pe_int set_list))
      (pss_one (ps_ret (pv 4))))) pss_nil)
      (pss_cons (ps_set (i := 2) sc_pull.nd rfl (Or.inl rfl) (pe_op op_add (pe_op op_mul (pe_op op_mul (pe_ix ix_list (pv 0) pe_int (fun _ _ => rfl)) (pe_ix ix_list (pv 0) pe_int (fun _ _ => rfl))) pe_int) (pe_op op_mul (pe_ix ix_list (pv 0) pe_int (fun _ _ => rfl)) pe_int)))
      (pss_cons (ps_asg (pe_op op_mod (pe_op op_add (pv 2) (pe_op op_mul pe_int (pe_ix ix_list (pv 0) pe_int (fun _ _ => rfl)))) pe_int) (pg_sub (pv 0) pe_int set_list))
      (pss_one (ps_ret (pe_op op_mod (pe_op op_fdiv (pe_ix ix_list (pv 0) pe_int (fun _ _ => rfl)) pe_int) (pv 1))))))))), ?_⟩
    -- the count of the draws
    have B1 := B.put (j' := j) (c' := c + 1) B.i0 B.i1 B.m0 B.m1
    refine ⟨.ref b, rfl, b, _, 4, .int c, rfl, rfl, SqL.of B.hb, atI_nat (j := 4) rfl, c, 1, rfl, rfl, .ref b, rfl, b, _, 4, 4, rfl, rfl, B.hb, rfl, ?_⟩
    refine ⟨fun σ H' => ∃ y2 y3 y4, σ = [some (.ref b), some (.int n), y2, y3, y4] ∧ Bag H' b s1 ∧ Keep b H H', ?_, ?_⟩
    · -- the next cell of the script
      refine ⟨.ref b, rfl, b, _, 2, .int j, rfl, rfl, SqL.of B1.hb, atI_nat (j := 2) rfl, rfl, _, rfl, ite2 (fun e => ?_) (fun e => ?_)⟩
      · refine ⟨.ref b, rfl, b, _, 1, .int i, rfl, rfl, SqL.of B1.hb, atI_nat (j := 1) rfl, .ref b, rfl, b, _, 0, .ref s1, rfl, rfl, SqL.of B1.hb, atI_nat (j := 0) rfl, s1, _, rfl, .inl (SqL.of B1.hs), i, _, rfl, rfl, _, rfl, ite2 (fun e2 => ?_) (fun e2 => ?_)⟩
        · have e3 : i < (ns.length : Int) := by
            have := of_decide_eq_true e2
            rw [List.length_map] at this
            exact this
          obtain ⟨z, hz⟩ := at_ex B.i0 e3
          have B2 := B1.put (j' := j) (c' := c + 1) (show 0 ≤ i + 1 by have := B.i0; omega) (show i + 1 ≤ (ns.length : Int) by omega) B.m0 B.m1
          refine ⟨.ref b, rfl, b, _, 0, .ref s1, rfl, rfl, SqL.of B1.hb, atI_nat (j := 0) rfl, .ref b, rfl, b, _, 1, .int i, rfl, rfl, SqL.of B1.hb, atI_nat (j := 1) rfl, s1, _, i, _, rfl, rfl, SqL.of B1.hs, hz, ?_⟩
          refine ⟨.ref b, rfl, b, _, 1, .int i, rfl, rfl, SqL.of B1.hb, atI_nat (j := 1) rfl, i, 1, rfl, rfl, .ref b, rfl, b, _, 1, 1, rfl, rfl, B1.hb, rfl, ?_⟩
          refine ⟨_, rfl, 10, 18, rfl, rfl, ⟨by decide, by decide, by decide⟩, z, _, rfl, rfl, _, rfl, ite2 (fun e4 => ?_) (fun e4 => ?_)⟩
          · have B3 := B2.put (j' := z) (c' := c + 1) (show 0 ≤ i + 1 by have := B.i0; omega) (show i + 1 ≤ (ns.length : Int) by omega) B.m0 B.m1
            refine ⟨_, rfl, .ref b, rfl, b, _, 2, 2, rfl, rfl, B2.hb, rfl, ?_⟩
            exact ⟨_, _, _, rfl, ⟨ns, _, _, _, _, B3⟩, keep_put.trans (keep_put.trans keep_put)⟩
          · refine ⟨.ref b, rfl, b, _, 3, .int m, rfl, rfl, SqL.of B2.hb, atI_nat (j := 3) rfl, m, 40014, rfl, rfl, .inr ⟨by decide, by decide⟩, _, rfl, z, 2147483399, rfl, rfl, (by show (0 : Int) < 2147483399; decide), _, 69069, rfl, rfl, .inr ⟨by decide, by decide⟩, _, _, rfl, rfl, ?_⟩
            refine ⟨_, rfl, _, 11, rfl, rfl, _, 2147483399, rfl, rfl, (by show (0 : Int) < 2147483399; decide), .ref b, rfl, b, _, 3, 3, rfl, rfl, B2.hb, rfl, ?_⟩
            have B3 := B2.put (j' := j) (m' := (m * 40014 + z % 2147483399 * 69069 + 11) % 2147483399) (c' := c + 1) (show 0 ≤ i + 1 by have := B.i0; omega) (show i + 1 ≤ (ns.length : Int) by omega) (by omega) (by omega)
            exact ⟨_, _, _, rfl, ⟨ns, _, _, _, _, B3⟩, keep_put.trans (keep_put.trans keep_put)⟩
        · exact ⟨_, _, _, rfl, ⟨ns, _, _, _, _, B1⟩, keep_put⟩
      · exact ⟨_, _, _, rfl, ⟨ns, _, _, _, _, B1⟩, keep_put⟩
    · rintro σ H' ⟨y2, y3, y4, rfl, ⟨ns2, i2, j2, m2, c2, B2⟩, k2⟩
      refine ⟨.ref b, rfl, b, _, 2, .int j2, rfl, rfl, SqL.of B2.hb, atI_nat (j := 2) rfl, j2, 0, rfl, rfl, _, rfl, ite2 (fun e => ?_) (fun e => ?_)⟩
      · have B3 := B2.put (j' := j2 / n) (c' := c2) B2.i0 B2.i1 B2.m0 B2.m1
        refine ⟨.ref b, rfl, b, _, 2, .int j2, rfl, rfl, SqL.of B2.hb, atI_nat (j := 2) rfl, .int n, rfl, j2, n, rfl, rfl, h0, ?_⟩
        refine ⟨.ref b, rfl, b, _, 2, .int j2, rfl, rfl, SqL.of B2.hb, atI_nat (j := 2) rfl, .int n, rfl, j2, n, rfl, rfl, wide_div h0 h1 (by decide) (by decide), .ref b, rfl, b, _, 2, 2, rfl, rfl, B2.hb, rfl, ?_⟩
        exact ⟨_, rfl, q _ _ (Int.emod_nonneg _ (by omega)) (Int.emod_lt_of_pos _ h0) ⟨ns2, _, _, _, _, B3⟩ (k2.trans keep_put)⟩
      · have hm : -(2 ^ 64) < m2 ∧ m2 < 2 ^ 64 := ⟨by have := B2.m0; omega, by have := B2.m1; omega⟩
        refine ⟨.ref b, rfl, b, _, 3, .int m2, rfl, rfl, SqL.of B2.hb, atI_nat (j := 3) rfl, .ref b, rfl, b, _, 3, .int m2, rfl, rfl, SqL.of B2.hb, atI_nat (j := 3) rfl, m2, m2, rfl, rfl, .inl hm, _, 7, rfl, rfl, .inr ⟨by decide, by decide⟩,
          .ref b, rfl, b, _, 3, .int m2, rfl, rfl, SqL.of B2.hb, atI_nat (j := 3) rfl, m2, 40692, rfl, rfl, .inr ⟨by decide, by decide⟩, _, _, rfl, rfl, ?_⟩
        refine ⟨_, rfl, .ref b, rfl, b, _, 4, .int c2, rfl, rfl, SqL.of B2.hb, atI_nat (j := 4) rfl, 1013904223, c2, rfl, rfl, .inl ⟨by decide, by decide⟩, _, _, rfl, rfl, _, 2147483399, rfl, rfl, (by show (0 : Int) < 2147483399; decide), .ref b, rfl, b, _, 3, 3, rfl, rfl, B2.hb, rfl, ?_⟩
        have B3 := B2.put (j' := j2) (m' := (m2 * m2 * 7 + m2 * 40692 + 1013904223 * c2) % 2147483399) (c' := c2) B2.i0 B2.i1 (Int.emod_nonneg _ (by decide)) (Int.emod_lt_of_pos _ (by decide))
        refine ⟨.ref b, rfl, b, _, 3, _, rfl, rfl, SqL.of B3.hb, atI_nat (j := 3) rfl, _, 37, rfl, rfl, ⟨by decide, by decide⟩, .int n, rfl, _, n, rfl, rfl, h0, ?_⟩
        exact q _ _ (Int.emod_nonneg _ (by omega)) (Int.emod_lt_of_pos _ h0) ⟨ns2, _, _, _, _, B3⟩ (k2.trans keep_put)
def spOf : Sp := fun vs H Q _ => ∃ (b sb l : Addr) (xs : List V), vs = [.ref b, .ref l] ∧ Bag H b sb ∧ H l = some (.lst xs) ∧ l ≠ b ∧ 0 < xs.length ∧ xs.length ≤ 1000 ∧ ∀ (i : Nat) (v : V) (H' : Hp), xs[i]? = some v → Bag H' b sb → Keep b H H' → Q v H'
theorem ok_of (T : Txt K mg) : FnOk P w K mg base CX0 2 T.f_of T.d_of ["_law_bag", "_law_some"] spOf := by
  refine T.F_of.ok sc_of (fun vs H Q E h => ?_) (fun cdv A outer s H vs Q E hr h => ?_)
  · obtain ⟨b, sb, l, xs, rfl, _⟩ := h
    rfl
  · obtain ⟨b, sb, l, xs, rfl, B, hl, nl, h0, h1, q⟩ := h
    refine ⟨_, (pss_one (ps_ret (pe_ix ix_list (pv 1) (pe_call (ok_pull T) (hr.mono (by decide)) (by rfl) T.g_pull T.F_pull.kp T.b_pull .nil pass0 (pa_cons (pv 0) (pa_cons (pe_callB call_len_seq (by rfl) T.n_len (by decide +kernel) (pa_cons (pv 1) pa_nil)) pa_nil))) (fun _ _ => rfl)))), ?_⟩
    have hn : ((xs.length : Int)).natAbs < 2 ^ 100 := Nat.lt_of_le_of_lt (show (xs.length : Int).natAbs ≤ 1000 by omega) (by decide)
    refine ⟨.ref l, rfl, .ref b, rfl, .ref l, rfl, l, xs, rfl, .inl (SqL.of hl), b, sb, _, rfl, B, (by show (0 : Int) < (xs.length : Int); omega), hn, fun z H' z0 z1 B' k' => ?_⟩
    obtain ⟨v, e1, e2⟩ := at_some z0 z1
    exact ⟨l, xs, z, v, rfl, rfl, k'.list nl hl, e2, q _ _ _ e1 B' k'⟩
end
section
variable {base : Heap} {K : PySem.W.Frag} {mg : Str → Option Value} {P : Program} {w : World}
def spSource (K : PySem.W.Frag) : Sp := fun vs H Q _ => ∃ (a : Addr) (ns : List Int), vs = [.ref a] ∧ SqL K H a (ns.map V.int) ∧ ns.length ≤ 63 ∧ ∀ b sb H', H b = none → Same H H' → Bag H' b sb → Q (.ref b) H'
theorem ok_source (T : Txt K mg) : FnOk P w K mg base CX0 1 T.f_source T.d_source ["_law_script"] (spSource K) := by
  refine T.F_source.ok sc_source (fun vs H Q E h => ?_) (fun cdv A outer s H vs Q E hr h => ?_)
  · obtain ⟨a, ns, rfl, _⟩ := h
    rfl
  · obtain ⟨a, ns, rfl, hS, hlen, q⟩ := h
    refine ⟨_, (pss_cons (ps_set (i := 1) sc_source.nd rfl (Or.inl rfl) pe_int)
      (pss_cons (ps_for PassesOwn.never rfl (pi_list (pe_slice sl_list (pv 0) po_none (po_some pe_int))) (pg_name (i := 2) sc_source.nd rfl (Or.inl rfl)) (pss_one (ps_set (i := 1) sc_source.nd rfl (Or.inl rfl) (pe_op op_mod (pe_op op_add (pe_op op_add (pe_op op_mul (pv 1) pe_int) (pe_op op_mod (pv 2) pe_int)) pe_int) pe_int))))
      (pss_one (ps_ret (pe_lst (pa_cons (pe_callTy call_list_of (by rfl) T.n_list (by decide +kernel) (pa_cons (pe_slice sl_list (pv 0) po_none (po_some pe_int)) pa_nil)) (pa_cons pe_int (pa_cons pe_int (pa_cons (pv 1) (pa_cons pe_int pa_nil)))))))))), ?_⟩
    have hcut : cutV (ns.map V.int) none (some 63) = ns.map V.int := by
      unfold cutV
      rw [HT.sIx_none, show HT.sIx (ns.map V.int).length (ns.map V.int).length (some 63) = min 63 (ns.map V.int).length from HT.sIx_nat _ _ 63]
      rw [List.drop_zero, List.length_map, Nat.sub_zero, Nat.min_eq_right hlen]
      exact List.take_of_length_le (by rw [List.length_map]; exact Nat.le_refl _)
    refine ⟨.ref a, rfl, 63, rfl, a, _, rfl, hS, fun p hp => ?_⟩
    rw [hcut]
    refine ⟨p, rfl, ⟨_, SqL.of upd_same⟩, for_list (K := K) (a := p) (xs := ns.map V.int) (fun i σ H2 => ∃ (m : Int) (y : Option V), σ = [some (.ref a), some (.int m), y] ∧ 0 ≤ m ∧ m < 2147483399 ∧ H2 = upd H p (.lst (ns.map V.int)))
      ⟨3812, none, rfl, by decide, by decide, rfl⟩ (fun i σ H2 _ ⟨_, _, _, _, _, e⟩ => by rw [e]; exact SqL.of upd_same) ?_ ?_⟩
    · rintro i x σ H2 hx ⟨m, y, rfl, m0, m1, rfl⟩
      obtain ⟨z, rfl⟩ : ∃ z, x = V.int z := by
        rw [List.getElem?_map] at hx
        cases e : ns[i]? with
        | none =>
          rw [e] at hx
          cases hx
        | some z =>
          rw [e] at hx
          exact ⟨z, (Option.some.inj hx).symm⟩
      refine ⟨_, rfl, m, 40692, rfl, rfl, .inr ⟨by decide, by decide⟩, _, rfl, z, 2147483399, rfl, rfl, (by show (0 : Int) < 2147483399; decide), _, _, rfl, rfl, _, 17, rfl, rfl, _, 2147483399, rfl, rfl, (by show (0 : Int) < 2147483399; decide), ?_⟩
      exact ⟨_, _, rfl, Int.emod_nonneg _ (by decide), Int.emod_lt_of_pos _ (by decide), rfl⟩
    · rintro σ H2 ⟨m, y, rfl, m0, m1, rfl⟩
      have hS2 : SqL K (upd H p (.lst (ns.map V.int))) a (ns.map V.int) := (same_new hp).seq hS
      refine ⟨.ref a, rfl, 63, rfl, a, _, rfl, hS2, fun p2 hp2 => ?_⟩
      rw [hcut]
      refine ⟨p2, _, rfl, .inl (SqL.of upd_same), fun l hl => ?_⟩
      refine ⟨_, rfl, (by show 5 ≤ sizeLine; decide), fun b hb => ?_⟩
      have sm : Same H (upd (upd (upd (upd H p (.lst (ns.map V.int))) p2 (.lst (ns.map V.int))) l (.lst (ns.map V.int))) b (.lst [.ref l, .int 0, .int 0, .int m, .int 0])) := (same_new hp).trans ((same_new hp2).trans ((same_new hl).trans (same_new hb)))
      exact q b l _ (((same_new hp).trans ((same_new hp2).trans (same_new hl))).free hb) sm ⟨ns, 0, 0, m, 0, upd_same, same_new hb _ _ upd_same, Int.le_refl _, by omega, m0, m1⟩
end
section
variable {base : Heap} {K : PySem.W.Frag} {mg : Str → Option Value} {P : Program} {w : World}
def spAnyPair : Sp := fun vs H Q _ => ∃ b sb : Addr, vs = [.ref b] ∧ Bag H b sb ∧ ∀ x y p H', -(10 ^ 6) ≤ x → x ≤ 10 ^ 6 → -(10 ^ 6) ≤ y → y ≤ 10 ^ 6 → H p = none → H' p = some (.tup [.int x, .int y]) → Bag H' b sb → Keep b H H' → Q (.ref p) H'
theorem ok_any_pair (T : Txt K mg) : FnOk P w K mg base CX0 3 T.f_any_pair T.d_any_pair ["_law_bag"] spAnyPair := by
  refine T.F_any_pair.ok sc_any_pair (fun vs H Q E h => ?_) (fun cdv A outer s H vs Q E hr h => ?_)
  · obtain ⟨b, sb, rfl, _⟩ := h
    rfl
  · obtain ⟨b, sb, rfl, B, q⟩ := h
    refine ⟨_, (pss_cons (ps_set (i := 1) sc_any_pair.nd rfl (Or.inl rfl) (pe_call (ok_of T) (hr.mono (by decide)) (by rfl) T.g_of T.F_of.kp T.b_of .nil pass0 (pa_cons (pv 0) (pa_cons (pe_lst (pa_cons pe_int (pa_cons pe_int (pa_cons pe_int (pa_cons pe_int (pa_cons (pe_op op_pow pe_int pe_int) pa_nil)))))) pa_nil))))
      (pss_one (ps_ret (pe_tup (pa_cons (pe_op op_sub (pe_call (ok_pull T) (hr.mono (by decide)) (by rfl) T.g_pull T.F_pull.kp T.b_pull .nil pass0 (pa_cons (pv 0) (pa_cons (pe_op op_add (pe_op op_mul pe_int (pv 1)) pe_int) pa_nil))) (pv 1)) (pa_cons (pe_op op_sub (pe_call (ok_pull T) (hr.mono (by decide)) (by rfl) T.g_pull T.F_pull.kp T.b_pull .nil pass0 (pa_cons (pv 0) (pa_cons (pe_op op_add (pe_op op_mul pe_int (pv 1)) pe_int) pa_nil))) (pv 1)) pa_nil)))))), ?_⟩
    refine ⟨.ref b, rfl, 10, 6, rfl, rfl, ⟨by decide, by decide, by decide⟩, (by show 5 ≤ sizeLine; decide), fun l hl => ?_⟩
    refine ⟨b, sb, l, _, rfl, B.new hl, upd_same, B.ne hl, by decide, by decide, fun i v H1 hv B1 k1 => ?_⟩
    obtain ⟨n, rfl, n0, n1⟩ : ∃ n : Int, v = .int n ∧ 1 ≤ n ∧ n ≤ 10 ^ 6 := by
      match i, hv with
      | 0, hv => cases hv; exact ⟨2, rfl, by decide, by decide⟩
      | 1, hv => cases hv; exact ⟨5, rfl, by decide, by decide⟩
      | 2, hv => cases hv; exact ⟨9, rfl, by decide, by decide⟩
      | 3, hv => cases hv; exact ⟨30, rfl, by decide, by decide⟩
      | 4, hv => cases hv; exact ⟨10 ^ 6, rfl, by decide, by decide⟩
      | n + 5, hv => simp at hv
    have hn : (2 * n + 1).natAbs < 2 ^ 100 := Nat.lt_of_le_of_lt (show (2 * n + 1).natAbs ≤ 2000001 by omega) (by decide)
    refine ⟨.ref b, rfl, _, rfl, 2, n, rfl, rfl, .inl ⟨by decide, by decide⟩, _, 1, rfl, rfl, b, sb, _, rfl, B1, (show (0 : Int) < 2 * n + 1 by omega), hn, fun z H2 z0 z1 B2 k2 => ?_⟩
    refine ⟨_, rfl, z, n, rfl, rfl, .ref b, rfl, _, rfl, 2, n, rfl, rfl, .inl ⟨by decide, by decide⟩, _, 1, rfl, rfl, b, sb, _, rfl, B2, (show (0 : Int) < 2 * n + 1 by omega), hn, fun z' H3 z0' z1' B3 k3 => ?_⟩
    refine ⟨_, rfl, z', n, rfl, rfl, (by show 2 ≤ sizeLine; decide), fun p hp => ?_⟩
    have kk : Keep b H H3 := (keep_new hl).trans (k1.trans (k2.trans k3))
    have hpn : H p = none := by
      cases e : H p with
      | none => rfl
      | some o => exact absurd (kk p o (B3.ne hp) e) (by rw [hp]; simp)
    exact q _ _ p _ (by omega) (by omega) (by omega) (by omega) hpn upd_same (B3.new hp) (kk.trans (keep_new hp))
end
section
variable {base : Heap} {K : PySem.W.Frag} {mg : Str → Option Value} {P : Program} {w : World}
def spANumber : Sp := fun vs H Q _ => ∃ b sb : Addr, vs = [.ref b] ∧ Bag H b sb ∧ ∀ x H', -(10 ^ 18) ≤ x → x ≤ 10 ^ 18 → Bag H' b sb → Keep b H H' → Q (.int x) H'
theorem ok_a_number (T : Txt K mg) : FnOk P w K mg base CX0 3 T.f_a_number T.d_a_number ["_law_bag"] spANumber := by
  refine T.F_a_number.ok sc_a_number (fun vs H Q E h => ?_) (fun cdv A outer s H vs Q E hr h => ?_)
  · obtain ⟨b, sb, rfl, _⟩ := h
    rfl
  · obtain ⟨b, sb, rfl, B, q⟩ := h
    refine ⟨_, (pss_cons (ps_set (i := 1) sc_a_number.nd rfl (Or.inl rfl) (pe_call (ok_of T) (hr.mono (by decide)) (by rfl) T.g_of T.F_of.kp T.b_of .nil pass0 (pa_cons (pv 0) (pa_cons (pe_lst (pa_cons pe_int (pa_cons pe_int (pa_cons pe_int (pa_cons pe_int (pa_cons pe_int (pa_cons (pe_op op_pow pe_int pe_int) (pa_cons (pe_op op_pow pe_int pe_int) pa_nil)))))))) pa_nil))))
      (pss_one (ps_ret (pe_op op_sub (pe_call (ok_pull T) (hr.mono (by decide)) (by rfl) T.g_pull T.F_pull.kp T.b_pull .nil pass0 (pa_cons (pv 0) (pa_cons (pe_op op_add (pe_op op_mul pe_int (pv 1)) pe_int) pa_nil))) (pv 1))))), ?_⟩
    refine ⟨.ref b, rfl, 10, 9, rfl, rfl, ⟨by decide, by decide, by decide⟩, 10, 18, rfl, rfl, ⟨by decide, by decide, by decide⟩, (by show 7 ≤ sizeLine; decide), fun l hl => ?_⟩
    refine ⟨b, sb, l, _, rfl, B.new hl, upd_same, B.ne hl, by decide, by decide, fun i v H1 hv B1 k1 => ?_⟩
    obtain ⟨n, rfl, n0, n1⟩ : ∃ n : Int, v = .int n ∧ 1 ≤ n ∧ n ≤ 10 ^ 18 := by
      match i, hv with
      | 0, hv => cases hv; exact ⟨3, rfl, by decide, by decide⟩
      | 1, hv => cases hv; exact ⟨7, rfl, by decide, by decide⟩
      | 2, hv => cases hv; exact ⟨13, rfl, by decide, by decide⟩
      | 3, hv => cases hv; exact ⟨60, rfl, by decide, by decide⟩
      | 4, hv => cases hv; exact ⟨1000, rfl, by decide, by decide⟩
      | 5, hv => cases hv; exact ⟨10 ^ 9, rfl, by decide, by decide⟩
      | 6, hv => cases hv; exact ⟨10 ^ 18, rfl, by decide, by decide⟩
      | n + 7, hv => simp at hv
    have hn : (2 * n + 1).natAbs < 2 ^ 100 := Nat.lt_of_le_of_lt (show (2 * n + 1).natAbs ≤ 2000000000000000001 by omega) (by decide)
    refine ⟨.ref b, rfl, _, rfl, 2, n, rfl, rfl, .inl ⟨by decide, by decide⟩, _, 1, rfl, rfl, b, sb, _, rfl, B1, (show (0 : Int) < 2 * n + 1 by omega), hn, fun z H2 z0 z1 B2 k2 => ?_⟩
    exact ⟨_, rfl, z, n, rfl, rfl, q _ _ (by omega) (by omega) B2 ((keep_new hl).trans (k1.trans k2))⟩
end
/-! ### like -/
def Flat (x y : V) : Prop := (∃ i, x = .int i ∧ y = .int i) ∨ (∃ b, x = .bl b ∧ y = .bl b) ∨ (x = .non ∧ y = .non) ∨ (∃ t, x = .str t ∧ y = .str t)
def Two (H : Hp) (p q : Addr) (xs ys : List V) : Prop := (H p = some (.tup xs) ∧ H q = some (.tup ys)) ∨ (H p = some (.lst xs) ∧ H q = some (.lst ys))
def Lk (H : Hp) : Nat → V → V → Prop
  | 0, x, y => Flat x y
  | n + 1, x, y => Flat x y ∨ ∃ (p q : Addr) (xs ys : List V), x = .ref p ∧ y = .ref q ∧ Two H p q xs ys ∧ xs.length = ys.length ∧ xs.length ≤ 1000 ∧ ∀ (i : Nat) (x y : V), xs[i]? = some x → ys[i]? = some y → Lk H n x y
theorem Two.same {H H' : Hp} {p q : Addr} {xs ys : List V} (h : Two H p q xs ys) (s : Same H H') : Two H' p q xs ys := by
  rcases h with ⟨a, b⟩ | ⟨a, b⟩
  · exact .inl ⟨s _ _ a, s _ _ b⟩
  · exact .inr ⟨s _ _ a, s _ _ b⟩
theorem Lk.same {H H' : Hp} (s : Same H H') : ∀ {n : Nat} {x y : V}, Lk H n x y → Lk H' n x y
  | 0, _, _, h => h
  | n + 1, _, _, h => by
    rcases h with h | ⟨p, q, xs, ys, e1, e2, t, l1, l2, a⟩
    · exact .inl h
    · exact .inr ⟨p, q, xs, ys, e1, e2, t.same s, l1, l2, fun i x y h1 h2 => (a i x y h1 h2).same s⟩
theorem Lk.flat {H : Hp} {n : Nat} {x y : V} (h : Flat x y) : Lk H n x y := match n with
  | 0 => h
  | _ + 1 => .inl h
section
variable {base : Heap} {K : PySem.W.Frag} {mg : Str → Option Value} {P : Program} {w : World}
def spLL (L : V → V → Hp → Prop) : Sp := fun vs H Q _ => ∃ x y : V, vs = [x, y] ∧ L x y H ∧ ∀ H', Same H H' → Q (.bl true) H'
theorem kit2 {a : String} {r1 r2 : Bool} (h1 : kitB a "tuple" = some r1) (h2 : kitB a "list" = some r2) : PySem.W.kitAny K (.type a) [.type "tuple", .type "list"] = some (r1 || r2) := by
  refine kitAny_cons (kit_ty h1) (fun e => ?_) (fun e => by rw [e]; rfl)
  subst e
  exact kitAny_cons (kit_ty h2) (fun e => by rw [e]; exact kitAny_nil) (fun e => by rw [e]; rfl)
theorem lk_core (T : Txt K mg) {k : Nat} {L L' : V → V → Hp → Prop} (G : FnOk P w K mg base CX0 k T.f_like T.d_like ["_law_found", "_law_due"] (spLL L')) (hs : ∀ x y H H', Same H H' → L' x y H → L' x y H')
    (hne : ∀ x y H, L x y H → Flat x y ∨ ∃ (p q : Addr) (xs ys : List V), x = .ref p ∧ y = .ref q ∧ Two H p q xs ys ∧ xs.length = ys.length ∧ xs.length ≤ 1000 ∧ ∀ (i : Nat) (x y : V), xs[i]? = some x → ys[i]? = some y → L' x y H) :
    FnOk P w K mg base CX0 (k + 1) T.f_like T.d_like ["_law_found", "_law_due"] (spLL L) := by
  refine T.F_like.ok sc_like (fun vs H Q E h => ?_) (fun cdv A outer s H vs Q E hr h => ?_)
  · obtain ⟨x, y, rfl, _⟩ := h
    rfl
  · obtain ⟨x, y, rfl, hl, qq⟩ := h
    refine ⟨_, (pss_cons (ps_if (pt_val (pe_callB call_isiT (by rfl) T.n_isinstance (by decide +kernel) (pa_cons (pv 1) (pa_cons (pe_tup (pa_cons (pe_bltn (v := .ty "tuple") (by rfl) T.n_tuple (by decide +kernel) rfl) (pa_cons (pe_bltn (v := .ty "list") (by rfl) T.n_list (by decide +kernel) rfl) pa_nil))) pa_nil)))) (pss_cons (ps_if (PW.pt (pw_or (pt_cmpR op_ne (pe_callB call_isi (by rfl) T.n_isinstance (by decide +kernel) (pa_cons (pv 0) (pa_cons (pe_bltn (v := .ty "tuple") (by rfl) T.n_tuple (by decide +kernel) rfl) pa_nil))) (pe_callB call_isi (by rfl) T.n_isinstance (by decide +kernel) (pa_cons (pv 1) (pa_cons (pe_bltn (v := .ty "tuple") (by rfl) T.n_tuple (by decide +kernel) rfl) pa_nil))) (nomark _)) (pw_or1 (pt_cmpR op_ne (pe_callB call_isi (by rfl) T.n_isinstance (by decide +kernel) (pa_cons (pv 0) (pa_cons (pe_bltn (v := .ty "list") (by rfl) T.n_list (by decide +kernel) rfl) pa_nil))) (pe_callB call_isi (by rfl) T.n_isinstance (by decide +kernel) (pa_cons (pv 1) (pa_cons (pe_bltn (v := .ty "list") (by rfl) T.n_list (by decide +kernel) rfl) pa_nil))) (nomark _))))) (pss_one (ps_ret pe_bl)) pss_nil)
      (pss_one (ps_ret (pe_and (pe_cmpR op_eq (pe_callB call_len_seq (by rfl) T.n_len (by decide +kernel) (pa_cons (pv 0) pa_nil)) (pe_callB call_len_seq (by rfl) T.n_len (by decide +kernel) (pa_cons (pv 1) pa_nil)) (nomark _)) (pe_one (pe_callB (cr_all rfl) (by rfl) T.n_all (by decide +kernel) (pa_cons (pe_lc (own := [("_law_k", 2)]) (g := (gName 2)) (tt := tYes) (te := tCall (spLL L') [] E0 (tCons (tOp (rIx K) _ _) (tCons (tOp (rIx K) _ _) _))) (by rfl) sc_like.nd (pi_range1 (by rfl) T.n_range (pa_cons (pe_callB call_len_seq (by rfl) T.n_len (by decide +kernel) (pa_cons (pv 1) pa_nil)) pa_nil)) (blkOk_by (own := [("_law_k", 2)]) (N := ["_law_found", "_law_due", "_law_k"]) (sc := defScope s_like) (by decide +kernel)) (fun _ _ _ _ _ => (pg_name (i := 2) sc_like.nd rfl (Or.inl rfl))) (fun _ _ _ _ _ => pts_nil) (fun _ _ _ _ _ => (pe_call G hr (by rfl) T.g_like T.F_like.kp T.b_like .nil pass0 (pa_cons (pe_ix ix_seq (pv 0) (pv 2) (fun _ _ => rfl)) (pa_cons (pe_ix ix_seq (pv 1) (pv 2) (fun _ _ => rfl)) pa_nil))))) pa_nil))))))) pss_nil)
      (pss_cons (ps_if (PW.pt (pw_or (pt_cmpR op_isN (pv 1) pe_non (nomark _)) (pw_or1 (pt_cmpR op_isN (pv 0) pe_non (nomark _))))) (pss_one (ps_ret (pe_and (pe_cmpR op_isN (pv 1) pe_non (nomark _)) (pe_one (pe_cmpR op_isN (pv 0) pe_non (nomark _)))))) pss_nil)
      (pss_one (ps_ret (pe_and (pe_cmpR op_eq (pe_callB call_isi (by rfl) T.n_isinstance (by decide +kernel) (pa_cons (pv 0) (pa_cons (pe_bltn (v := .ty "bool") (by rfl) T.n_bool (by decide +kernel) rfl) pa_nil))) (pe_callB call_isi (by rfl) T.n_isinstance (by decide +kernel) (pa_cons (pv 1) (pa_cons (pe_bltn (v := .ty "bool") (by rfl) T.n_bool (by decide +kernel) rfl) pa_nil))) (nomark _)) (pe_one (pe_cmpR op_eq (pv 0) (pv 1) (nomark _)))))))), ?_⟩
    refine ⟨_, rfl, by show 2 ≤ sizeLine; decide, fun tp htp => ?_⟩
    have sm := same_new (o := .tup [.ty "tuple", .ty "list"]) htp
    rcases hne x y H hl with (⟨i, rfl, rfl⟩ | ⟨b, rfl, rfl⟩ | ⟨rfl, rfl⟩ | ⟨i, rfl, rfl⟩) | ⟨p, q, xs, ys, rfl, rfl, hT, l1, l2, hA⟩
    · refine ⟨.int i, tp, [.ty "tuple", .ty "list"], .type "int", [.type "tuple", .type "list"], (false || false), rfl, upd_same, .cons (ClsV.ty _) (.cons (ClsV.ty _) .nil), TyX.base (TyOf.int _), kit2 (by decide +kernel) (by decide +kernel), _, rfl, iteF ?_⟩
      refine ⟨_, rfl, rfl, _, rfl, iteF ?_⟩
      refine ⟨_, rfl, rfl, _, rfl, iteF ?_⟩
      refine ⟨_, rfl, .int i, .ty "bool", _, _, false, rfl, ClsV.ty _, TyX.base (TyOf.int _), kit_ty (by decide +kernel), _, rfl, .int i, .ty "bool", _, _, false, rfl, ClsV.ty _, TyX.base (TyOf.int _), kit_ty (by decide +kernel), rfl, true, rfl, iteT ?_⟩
      refine ⟨_, rfl, _, rfl, rfl, ?_⟩
      rw [decide_eq_true rfl]
      exact qq _ sm
    · refine ⟨.bl b, tp, [.ty "tuple", .ty "list"], .type "bool", [.type "tuple", .type "list"], (false || false), rfl, upd_same, .cons (ClsV.ty _) (.cons (ClsV.ty _) .nil), TyX.base (TyOf.bl _), kit2 (by decide +kernel) (by decide +kernel), _, rfl, iteF ?_⟩
      refine ⟨_, rfl, rfl, _, rfl, iteF ?_⟩
      refine ⟨_, rfl, rfl, _, rfl, iteF ?_⟩
      refine ⟨_, rfl, .bl b, .ty "bool", _, _, true, rfl, ClsV.ty _, TyX.base (TyOf.bl _), kit_ty (by decide +kernel), _, rfl, .bl b, .ty "bool", _, _, true, rfl, ClsV.ty _, TyX.base (TyOf.bl _), kit_ty (by decide +kernel), rfl, true, rfl, iteT ?_⟩
      refine ⟨_, rfl, _, rfl, rfl, ?_⟩
      rw [decide_eq_true rfl]
      exact qq _ sm
    · refine ⟨.non, tp, [.ty "tuple", .ty "list"], .type "NoneType", [.type "tuple", .type "list"], (false || false), rfl, upd_same, .cons (ClsV.ty _) (.cons (ClsV.ty _) .nil), TyX.base TyOf.non, kit2 (by decide +kernel) (by decide +kernel), _, rfl, iteF ?_⟩
      refine ⟨_, rfl, rfl, _, rfl, iteT ?_⟩
      exact ⟨_, rfl, rfl, true, rfl, iteT ⟨_, rfl, rfl, qq _ sm⟩⟩
    · refine ⟨.str i, tp, [.ty "tuple", .ty "list"], .type "str", [.type "tuple", .type "list"], (false || false), rfl, upd_same, .cons (ClsV.ty _) (.cons (ClsV.ty _) .nil), TyX.base (TyOf.str _), kit2 (by decide +kernel) (by decide +kernel), _, rfl, iteF ?_⟩
      refine ⟨_, rfl, rfl, _, rfl, iteF ?_⟩
      refine ⟨_, rfl, rfl, _, rfl, iteF ?_⟩
      refine ⟨_, rfl, .str i, .ty "bool", _, _, false, rfl, ClsV.ty _, TyX.base (TyOf.str _), kit_ty (by decide +kernel), _, rfl, .str i, .ty "bool", _, _, false, rfl, ClsV.ty _, TyX.base (TyOf.str _), kit_ty (by decide +kernel), rfl, true, rfl, iteT ?_⟩
      refine ⟨_, rfl, _, rfl, rfl, ?_⟩
      rw [decide_eq_true rfl]
      exact qq _ sm
    · have hT' := hT.same sm
      rcases hT' with ⟨hp, hq⟩ | ⟨hp, hq⟩
      · refine ⟨.ref q, tp, [.ty "tuple", .ty "list"], .type "tuple", [.type "tuple", .type "list"], (true || false), rfl, upd_same, .cons (ClsV.ty _) (.cons (ClsV.ty _) .nil), TyX.base (TyOf.tup hq), kit2 (by decide +kernel) (by decide +kernel), _, rfl, iteT ?_⟩
        refine ⟨_, rfl, .ref p, .ty "tuple", _, _, true, rfl, ClsV.ty _, TyX.base (TyOf.tup hp), kit_ty (by decide +kernel), _, rfl, .ref q, .ty "tuple", _, _, true, rfl, ClsV.ty _, TyX.base (TyOf.tup hq), kit_ty (by decide +kernel), rfl, _, rfl, iteF ?_⟩
        refine ⟨_, rfl, .ref p, .ty "list", _, _, false, rfl, ClsV.ty _, TyX.base (TyOf.tup hp), kit_ty (by decide +kernel), _, rfl, .ref q, .ty "list", _, _, false, rfl, ClsV.ty _, TyX.base (TyOf.tup hq), kit_ty (by decide +kernel), rfl, _, rfl, iteF ?_⟩
        refine ⟨_, rfl, p, xs, rfl, .inr (SqT.of hp), _, rfl, q, ys, rfl, .inr (SqT.of hq), rfl, true, (by rw [l1, decide_eq_true rfl]), iteT ?_⟩
        refine ⟨_, rfl, q, ys, rfl, .inr (SqT.of hq), _, rfl, (by omega), (by omega), fun D hD => ?_⟩
        refine lc_range (lo := 0) (n := ys.length) (fun i H' => Same H H' ∧ H' D = some (.lst ((List.replicate i true).map V.bl))) ⟨sm.trans (same_new hD), upd_same⟩ ?_ ?_
        · rintro i H' hi ⟨sm', hd⟩
          obtain ⟨x1, e1, f1⟩ := at_some (xs := xs) (show 0 ≤ (0 : Int) + (i : Int) by omega) (by omega)
          obtain ⟨y1, e2, f2⟩ := at_some (xs := ys) (show 0 ≤ (0 : Int) + (i : Int) by omega) (by omega)
          rcases hT with ⟨hp0, hq0⟩ | ⟨hp0, hq0⟩
          · refine ⟨rfl, ⟨_, rfl, _, rfl, .inr (.inl ⟨p, xs, _, x1, rfl, rfl, SqT.of (sm' _ _ hp0), f1, _, rfl, _, rfl, .inr (.inl ⟨q, ys, _, y1, rfl, rfl, SqT.of (sm' _ _ hq0), f2, x1, y1, rfl, hs _ _ _ _ sm' (hA _ _ _ e1 e2), fun H2 s2 => ?_⟩)⟩)⟩⟩
            refine ⟨_, s2 _ _ hd, ?_, ?_, ?_⟩
            · rw [List.length_map, List.length_replicate]
              exact small1000 (by omega)
            · exact fun a o z => (upd_ne (ne_of_none z (sm.free hD))).trans (s2 _ _ (sm' a o z))
            · rw [upd_same, List.replicate_succ', List.map_append]
              rfl
          · exact absurd (sm _ _ hp0) (by rw [hp]; simp)
        · rintro H' ⟨sm', hd⟩
          refine ⟨D, _, rfl, SqL.of hd, ?_⟩
          rw [show (List.replicate ys.length true).all id = true by simp]
          exact qq _ sm'
      · refine ⟨.ref q, tp, [.ty "tuple", .ty "list"], .type "list", [.type "tuple", .type "list"], (false || true), rfl, upd_same, .cons (ClsV.ty _) (.cons (ClsV.ty _) .nil), TyX.base (TyOf.lst hq), kit2 (by decide +kernel) (by decide +kernel), _, rfl, iteT ?_⟩
        refine ⟨_, rfl, .ref p, .ty "tuple", _, _, false, rfl, ClsV.ty _, TyX.base (TyOf.lst hp), kit_ty (by decide +kernel), _, rfl, .ref q, .ty "tuple", _, _, false, rfl, ClsV.ty _, TyX.base (TyOf.lst hq), kit_ty (by decide +kernel), rfl, _, rfl, iteF ?_⟩
        refine ⟨_, rfl, .ref p, .ty "list", _, _, true, rfl, ClsV.ty _, TyX.base (TyOf.lst hp), kit_ty (by decide +kernel), _, rfl, .ref q, .ty "list", _, _, true, rfl, ClsV.ty _, TyX.base (TyOf.lst hq), kit_ty (by decide +kernel), rfl, _, rfl, iteF ?_⟩
        refine ⟨_, rfl, p, xs, rfl, .inl (SqL.of hp), _, rfl, q, ys, rfl, .inl (SqL.of hq), rfl, true, (by rw [l1, decide_eq_true rfl]), iteT ?_⟩
        refine ⟨_, rfl, q, ys, rfl, .inl (SqL.of hq), _, rfl, (by omega), (by omega), fun D hD => ?_⟩
        refine lc_range (lo := 0) (n := ys.length) (fun i H' => Same H H' ∧ H' D = some (.lst ((List.replicate i true).map V.bl))) ⟨sm.trans (same_new hD), upd_same⟩ ?_ ?_
        · rintro i H' hi ⟨sm', hd⟩
          obtain ⟨x1, e1, f1⟩ := at_some (xs := xs) (show 0 ≤ (0 : Int) + (i : Int) by omega) (by omega)
          obtain ⟨y1, e2, f2⟩ := at_some (xs := ys) (show 0 ≤ (0 : Int) + (i : Int) by omega) (by omega)
          rcases hT with ⟨hp0, hq0⟩ | ⟨hp0, hq0⟩
          · exact absurd (sm _ _ hp0) (by rw [hp]; simp)
          · refine ⟨rfl, ⟨_, rfl, _, rfl, .inl ⟨p, xs, _, x1, rfl, rfl, SqL.of (sm' _ _ hp0), f1, _, rfl, _, rfl, .inl ⟨q, ys, _, y1, rfl, rfl, SqL.of (sm' _ _ hq0), f2, x1, y1, rfl, hs _ _ _ _ sm' (hA _ _ _ e1 e2), fun H2 s2 => ?_⟩⟩⟩⟩
            refine ⟨_, s2 _ _ hd, ?_, ?_, ?_⟩
            · rw [List.length_map, List.length_replicate]
              exact small1000 (by omega)
            · exact fun a o z => (upd_ne (ne_of_none z (sm.free hD))).trans (s2 _ _ (sm' a o z))
            · rw [upd_same, List.replicate_succ', List.map_append]
              rfl
        · rintro H' ⟨sm', hd⟩
          refine ⟨D, _, rfl, SqL.of hd, ?_⟩
          rw [show (List.replicate ys.length true).all id = true by simp]
          exact qq _ sm'
theorem ok_likeN (T : Txt K mg) : ∀ n : Nat, FnOk P w K mg base CX0 (n + 1) T.f_like T.d_like ["_law_found", "_law_due"] (spLL fun x y H => Lk H n x y)
  | 0 => lk_core T (L' := fun _ _ _ => False) ⟨fun _ _ _ _ ⟨_, _, _, h, _⟩ => h.elim, fun _ _ _ _ _ _ _ _ _ _ _ _ _ ⟨_, _, _, h, _⟩ => h.elim⟩ (fun _ _ _ _ _ h => h) fun x y H h => .inl h
  | n + 1 => lk_core T (ok_likeN T n) (fun _ _ _ _ s h => h.same s) fun x y H h => h
theorem ok_like (T : Txt K mg) : FnOk P w K mg base CX0 4 T.f_like T.d_like ["_law_found", "_law_due"] (spLL fun x y H => Lk H 3 x y) := ok_likeN T 3
end
inductive LkAll (H : Hp) (n : Nat) : List V → List V → Prop
  | nil : LkAll H n [] []
  | cons {x y : V} {xs ys : List V} : Lk H n x y → LkAll H n xs ys → LkAll H n (x :: xs) (y :: ys)
theorem LkAll.get {H : Hp} {n : Nat} : ∀ {xs ys : List V}, LkAll H n xs ys → xs.length = ys.length ∧ ∀ (i : Nat) (x y : V), xs[i]? = some x → ys[i]? = some y → Lk H n x y
  | _, _, .nil => ⟨rfl, fun i x y h => by simp at h⟩
  | _, _, .cons h t => ⟨congrArg Nat.succ t.get.1, fun i x y h1 h2 => match i, h1, h2 with
    | 0, h1, h2 => by cases h1; cases h2; exact h
    | i + 1, h1, h2 => t.get.2 i x y (by simpa using h1) (by simpa using h2)⟩
theorem Lk.lists {H : Hp} {n : Nat} {p q : Addr} {xs ys : List V} (hp : H p = some (.lst xs)) (hq : H q = some (.lst ys)) (hl : xs.length ≤ 1000) (h : LkAll H n xs ys) : Lk H (n + 1) (.ref p) (.ref q) := .inr ⟨p, q, xs, ys, rfl, rfl, .inr ⟨hp, hq⟩, h.get.1, hl, h.get.2⟩
theorem Lk.tups {H : Hp} {n : Nat} {p q : Addr} {xs ys : List V} (hp : H p = some (.tup xs)) (hq : H q = some (.tup ys)) (hl : xs.length ≤ 1000) (h : LkAll H n xs ys) : Lk H (n + 1) (.ref p) (.ref q) := .inr ⟨p, q, xs, ys, rfl, rfl, .inl ⟨hp, hq⟩, h.get.1, hl, h.get.2⟩
theorem Lk.int {H : Hp} {n : Nat} {i j : Int} (e : i = j) : Lk H n (.int i) (.int j) := Lk.flat (.inl ⟨i, rfl, by rw [e]⟩)
theorem Lk.bl {H : Hp} {n : Nat} {i j : Bool} (e : i = j) : Lk H n (.bl i) (.bl j) := Lk.flat (.inr (.inl ⟨i, rfl, by rw [e]⟩))
theorem Lk.pair {H : Hp} {n : Nat} {p q : Addr} {x y x' y' : Int} (hp : H p = some (.tup [.int x, .int y])) (hq : H q = some (.tup [.int x', .int y'])) (e1 : x = x') (e2 : y = y') : Lk H (n + 1) (.ref p) (.ref q) :=
  .tups hp hq (by simp) (.cons (.int e1) (.cons (.int e2) .nil))
/-! ### the field of a caught error -/
/-- the error of the class cls with its dict at d: its word, its other field -/
structure ErrIs (K : PySem.W.Frag) (H : Hp) (cls : Value) (d : Option Addr) (w : Str) (fs : List (Str × V)) : Prop where
  ex : ∃ C dd : Addr, cls = .ref C ∧ d = some dd ∧ XfC K C ∧ H dd = some (.xd fs) ∧ ∀ f v, fs.lookup f = some v → PySem.W.findIn K (.ref C) f = some none
  wd : fs.lookup ("word" : Str) = some (.str w)
theorem ErrIs.same {K : PySem.W.Frag} {H H' : Hp} {cls : Value} {d : Option Addr} {w : Str} {fs : List (Str × V)} (h : ErrIs K H cls d w fs) (s : Same H H') : ErrIs K H' cls d w fs := by
  obtain ⟨⟨C, dd, e1, e2, x, hd, no⟩, wd⟩ := h
  exact ⟨⟨C, dd, e1, e2, x, s _ _ hd, no⟩, wd⟩
/-- a field is read -/
theorem ErrIs.read {K : PySem.W.Frag} {H : Hp} {a : Addr} {cls : Value} {d : Option Addr} {w : Str} {fs : List (Str × V)} (h : ErrIs K H cls d w fs) {f : Str} {v : V} {R : V → Prop} (hl : fs.lookup f = some v) (q : R v) :
    (V.ref a) = .ref a ∧ ∃ (C dd : Addr) (fs : List (Str × V)) (v : V), cls = .ref C ∧ d = some dd ∧ XfC K C ∧ PySem.W.findIn K (.ref C) f = some none ∧ H dd = some (.xd fs) ∧ fs.lookup f = some v ∧ R v := by
  obtain ⟨⟨C, dd, e1, e2, x, hd, no⟩, wd⟩ := h
  exact ⟨rfl, C, dd, fs, v, e1, e2, x, no _ _ hl, hd, hl, q⟩
def fieldOf (w : Str) : Option Str :=
  if inV (.str w) [.str "BadRoot", .str "BadCount", .str "NotLinked"] = true then some "number"
  else if inV (.str w) [.str "BadLength", .str "BadRow", .str "BadStep", .str "BadText", .str "BadDeed"] = true then some "at"
  else if inV (.str w) [.str "BadName", .str "Taken"] = true then some "name"
  else if inV (.str w) [.str "TooGreat", .str "Full"] = true then some "most"
  else if decide (V.str w = .str "NoSquares") = true then some "reason" else none
theorem fo0 {w : Str}  (e : inV (.str w) [.str "BadRoot", .str "BadCount", .str "NotLinked"] = true) : fieldOf w = some ("number" : Str) := by unfold fieldOf; rw [if_pos e]
theorem fo1 {w : Str} (b0 : ¬ (inV (.str w) [.str "BadRoot", .str "BadCount", .str "NotLinked"] = true)) (e : inV (.str w) [.str "BadLength", .str "BadRow", .str "BadStep", .str "BadText", .str "BadDeed"] = true) : fieldOf w = some ("at" : Str) := by unfold fieldOf; rw [if_neg b0, if_pos e]
theorem fo2 {w : Str} (b0 : ¬ (inV (.str w) [.str "BadRoot", .str "BadCount", .str "NotLinked"] = true)) (b1 : ¬ (inV (.str w) [.str "BadLength", .str "BadRow", .str "BadStep", .str "BadText", .str "BadDeed"] = true)) (e : inV (.str w) [.str "BadName", .str "Taken"] = true) : fieldOf w = some ("name" : Str) := by unfold fieldOf; rw [if_neg b0, if_neg b1, if_pos e]
theorem fo3 {w : Str} (b0 : ¬ (inV (.str w) [.str "BadRoot", .str "BadCount", .str "NotLinked"] = true)) (b1 : ¬ (inV (.str w) [.str "BadLength", .str "BadRow", .str "BadStep", .str "BadText", .str "BadDeed"] = true)) (b2 : ¬ (inV (.str w) [.str "BadName", .str "Taken"] = true)) (e : inV (.str w) [.str "TooGreat", .str "Full"] = true) : fieldOf w = some ("most" : Str) := by unfold fieldOf; rw [if_neg b0, if_neg b1, if_neg b2, if_pos e]
theorem fo4 {w : Str} (b0 : ¬ (inV (.str w) [.str "BadRoot", .str "BadCount", .str "NotLinked"] = true)) (b1 : ¬ (inV (.str w) [.str "BadLength", .str "BadRow", .str "BadStep", .str "BadText", .str "BadDeed"] = true)) (b2 : ¬ (inV (.str w) [.str "BadName", .str "Taken"] = true)) (b3 : ¬ (inV (.str w) [.str "TooGreat", .str "Full"] = true)) (e : decide (V.str w = .str "NoSquares") = true) : fieldOf w = some ("reason" : Str) := by unfold fieldOf; rw [if_neg b0, if_neg b1, if_neg b2, if_neg b3, if_pos e]
theorem fo5 {w : Str} (b0 : ¬ (inV (.str w) [.str "BadRoot", .str "BadCount", .str "NotLinked"] = true)) (b1 : ¬ (inV (.str w) [.str "BadLength", .str "BadRow", .str "BadStep", .str "BadText", .str "BadDeed"] = true)) (b2 : ¬ (inV (.str w) [.str "BadName", .str "Taken"] = true)) (b3 : ¬ (inV (.str w) [.str "TooGreat", .str "Full"] = true)) (b4 : ¬ (decide (V.str w = .str "NoSquares") = true)) : fieldOf w = none := by unfold fieldOf; rw [if_neg b0, if_neg b1, if_neg b2, if_neg b3, if_neg b4]
def fieldVal (w : Str) (fs : List (Str × V)) : Option V := match fieldOf w with
  | some f => fs.lookup f
  | none => some .non
section
variable {base : Heap} {K : PySem.W.Frag} {mg : Str → Option Value} {P : Program} {w : World}
def spFld (K : PySem.W.Frag) : Addr → Value → Option Addr → Sp := fun a cls d vs H Q _ => ∃ (wd : Str) (fs : List (Str × V)) (v : V), vs = [.ref a] ∧ ErrIs K H cls d wd fs ∧ fieldVal wd fs = some v ∧ ∀ H', Same H H' → Q v H'
theorem ok_field_of (T : Txt K mg) : FnP P w K mg base 1 T.f_field_of T.d_field_of ["_law_e"] (spFld K) := by
  refine fn_ofP T.F_field_of sc_field_of (fun a cls d vs H Q E h => ?_) (fun cdv A outer s H vs Q E p cls d zc dat hr h => ?_)
  · obtain ⟨wd, fs, v, rfl, _⟩ := h
    rfl
  · obtain ⟨wd, fs, v, rfl, E0, hv, q⟩ := h
    refine ⟨_, (pss_cons (ps_if (pt_cmpR op_in_seq (pe_xfG (a := p.1) (oe := p.2) (cls := cls) (d := d) List.mem_cons_self zc dat (pv 0)) (pe_tup (pa_cons pe_str (pa_cons pe_str (pa_cons pe_str pa_nil)))) (by rfl)) (pss_one (ps_ret (pe_xfG (a := p.1) (oe := p.2) (cls := cls) (d := d) List.mem_cons_self zc dat (pv 0)))) pss_nil)
      (pss_cons (ps_if (pt_cmpR op_in_seq (pe_xfG (a := p.1) (oe := p.2) (cls := cls) (d := d) List.mem_cons_self zc dat (pv 0)) (pe_tup (pa_cons pe_str (pa_cons pe_str (pa_cons pe_str (pa_cons pe_str (pa_cons pe_str pa_nil)))))) (by rfl)) (pss_one (ps_ret (pe_xfG (a := p.1) (oe := p.2) (cls := cls) (d := d) List.mem_cons_self zc dat (pv 0)))) pss_nil)
      (pss_cons (ps_if (pt_cmpR op_in_seq (pe_xfG (a := p.1) (oe := p.2) (cls := cls) (d := d) List.mem_cons_self zc dat (pv 0)) (pe_tup (pa_cons pe_str (pa_cons pe_str pa_nil))) (by rfl)) (pss_one (ps_ret (pe_xfG (a := p.1) (oe := p.2) (cls := cls) (d := d) List.mem_cons_self zc dat (pv 0)))) pss_nil)
      (pss_cons (ps_if (pt_cmpR op_in_seq (pe_xfG (a := p.1) (oe := p.2) (cls := cls) (d := d) List.mem_cons_self zc dat (pv 0)) (pe_tup (pa_cons pe_str (pa_cons pe_str pa_nil))) (by rfl)) (pss_one (ps_ret (pe_xfG (a := p.1) (oe := p.2) (cls := cls) (d := d) List.mem_cons_self zc dat (pv 0)))) pss_nil)
      (pss_one (ps_ret (pe_ifExp (pt_cmpR op_eq (pe_xfG (a := p.1) (oe := p.2) (cls := cls) (d := d) List.mem_cons_self zc dat (pv 0)) pe_str (nomark _)) (pe_xfG (a := p.1) (oe := p.2) (cls := cls) (d := d) List.mem_cons_self zc dat (pv 0)) pe_non))))))), ?_⟩
    have fv : ∀ {f : Str}, fieldOf wd = some f → fs.lookup f = some v := fun {f} e => by
      unfold fieldVal at hv
      rw [e] at hv
      exact hv
    refine ⟨_, rfl, E0.read E0.wd ?_⟩
    refine ⟨by show 3 ≤ sizeLine; decide, fun t0 n0 => ?_⟩
    have S1 := same_new (o := .tup [.str "BadRoot", .str "BadCount", .str "NotLinked"]) n0
    have E1 := E0.same S1
    refine ⟨t0, _, rfl, .inr (SqT.of upd_same), rfl, rfl, _, rfl, ite2 (fun e => ?_) (fun b0 => ?_)⟩
    · exact ⟨_, rfl, E1.read (fv (fo0  e)) (q _ S1)⟩
    refine ⟨_, rfl, E1.read E1.wd ?_⟩
    refine ⟨by show 5 ≤ sizeLine; decide, fun t1 n1 => ?_⟩
    have S2 := S1.trans (same_new (o := .tup [.str "BadLength", .str "BadRow", .str "BadStep", .str "BadText", .str "BadDeed"]) n1)
    have E2 := E0.same S2
    refine ⟨t1, _, rfl, .inr (SqT.of upd_same), rfl, rfl, _, rfl, ite2 (fun e => ?_) (fun b1 => ?_)⟩
    · exact ⟨_, rfl, E2.read (fv (fo1 b0 e)) (q _ S2)⟩
    refine ⟨_, rfl, E2.read E2.wd ?_⟩
    refine ⟨by show 2 ≤ sizeLine; decide, fun t2 n2 => ?_⟩
    have S3 := S2.trans (same_new (o := .tup [.str "BadName", .str "Taken"]) n2)
    have E3 := E0.same S3
    refine ⟨t2, _, rfl, .inr (SqT.of upd_same), rfl, rfl, _, rfl, ite2 (fun e => ?_) (fun b2 => ?_)⟩
    · exact ⟨_, rfl, E3.read (fv (fo2 b0 b1 e)) (q _ S3)⟩
    refine ⟨_, rfl, E3.read E3.wd ?_⟩
    refine ⟨by show 2 ≤ sizeLine; decide, fun t3 n3 => ?_⟩
    have S4 := S3.trans (same_new (o := .tup [.str "TooGreat", .str "Full"]) n3)
    have E4 := E0.same S4
    refine ⟨t3, _, rfl, .inr (SqT.of upd_same), rfl, rfl, _, rfl, ite2 (fun e => ?_) (fun b3 => ?_)⟩
    · exact ⟨_, rfl, E4.read (fv (fo3 b0 b1 b2 e)) (q _ S4)⟩
    refine ⟨_, rfl, E4.read E4.wd ?_⟩
    refine ⟨rfl, _, rfl, ite2 (fun e => ?_) (fun b4 => ?_)⟩
    · exact ⟨_, rfl, E4.read (fv (fo4 b0 b1 b2 b3 e)) (q _ S4)⟩
    · have e : fieldOf wd = none := fo5 b0 b1 b2 b3 b4
      have ev : v = .non := by
        unfold fieldVal at hv
        rw [e] at hv
        exact (Option.some.inj hv).symm
      rw [ev] at q
      exact q _ S4
end
/-! ### the def that asks, and tells what was raised -/
section
variable {K : PySem.W.Frag} {mg : Str → Option Value}
/-- what is told of an answer, of an error of the first, of the second, of the third kind -/
def Told (Q : VK) (w : Str) (v : V) (H : Hp) : Prop := ∀ H' p, Same H H' → H' p = some (.tup [.str w, v]) → Q (.ref p) H'
def Raised (K : PySem.W.Frag) (G : Addr) (Q : VK) : XK := fun cls d H => PySem.W.exmOne K cls (.ref G) = some true ∧ ∃ (w : Str) (fs : List (Str × V)) (v : V), ErrIs K H cls d w fs ∧ fieldVal w fs = some v ∧ Told Q w v H
def TTry (K : PySem.W.Frag) (G : Addr) : (XK → Hp → VK → Prop) → Hp → VK → Prop := fun tl H Q => tl (Raised K G Q) H fun v H1 => [V.str "told", v].length ≤ sizeLine ∧ ∀ p, H1 p = none → Q (.ref p) (upd H1 p (.tup [.str "told", v]))
end
section
variable {base : Heap} {K : PySem.W.Frag} {mg : Str → Option Value} {w : World}
theorem try_gives {X : Cx} (T : Txt K mg) (hP : X.K = K) (hm : X.mg = mg) {k : Nat} (hr : Room (k + 3) X.A) {cdg : Value} {q : Str} :
    LamX.GivesTo X ["_law_ask", "_law_e"] "_law_try" (defScope s_try) T.f_try cdg (defBody s_try) "_law_ask" q (TTry K T.r_GrainError) := by
  subst hP
  subst hm
  intro f c' s H Q tl act hc h
  have hr2 : Room (k + 2) (X.A.deeper (envOfC "_law_try" (defScope s_try) s.heap.objs.size T.f_try cdg)) := hr.deeper _
  refine ⟨_, pss_one (ps_tryAs (X := (cxOf CX0 X.prog X.w X.K X.mg X.base ["_law_ask", "_law_e"] "_law_try" (defScope s_try) T.f_try cdg X.A X.stack s H E0).nox) (i := 1)
      (tb := fun W D σ H => ∃ Ech : XK, (∀ cls d σ' H', Ech cls d H' → W cls d σ' H') ∧ σ[0]? = some (some (.ref f)) ∧ H c' = some (LamX.CodeO c' q) ∧ tl Ech H fun v H1 => [V.str "told", v].length ≤ sizeLine ∧ ∀ p, H1 p = none → D.rt (.ref p) (upd H1 p (.tup [.str "told", v])))
      rfl rfl sc_try.nd rfl rfl (fun W pn xe tk _ => ?_)
      (.cons (c := .ref T.r_GrainError) (ts := fun a cls d => tRet (tTup (tCons (tXfA X.K a cls d "word" (tVar 1)) (tCons (fun σ H Q => tCons (tVar 1) tNil σ H fun vs H1 => spFld X.K a cls d vs H1 Q E0) tNil)))) ⟨by rfl, by decide, .inl T.g_GrainError⟩ (fun a oe cls d pn zc dat => pss_one (ps_ret (pe_tup (pa_cons (pe_xfG (a := a) (oe := oe) (cls := cls) (d := d) List.mem_cons_self zc dat (pv 1)) (pa_cons (pe_callP (a := a) (oe := oe) (cls := cls) (d := d) List.mem_cons_self zc dat (ok_field_of T) ?_ (by rfl) T.g_field_of T.F_field_of.kp T.b_field_of (pa_cons (pv 1) pa_nil)) pa_nil)))))
      (.cons (c := .ref T.r_GrainMissing) (ts := fun a cls d => tRet (tTup (tCons (tXfA X.K a cls d "word" (tVar 1)) (tCons (tIf (tTest (tOp rEq (tXfA X.K a cls d "word" (tVar 1)) (tC (.str "NoSheet")))) (tXfA X.K a cls d "sheet" (tVar 1)) (tXfA X.K a cls d "name" (tVar 1))) tNil)))) ⟨by rfl, by decide, .inl T.g_GrainMissing⟩ (fun a oe cls d pn zc dat => pss_one (ps_ret (pe_tup (pa_cons (pe_xfG (a := a) (oe := oe) (cls := cls) (d := d) List.mem_cons_self zc dat (pv 1)) (pa_cons (pe_ifExp (pt_cmpR op_eq (pe_xfG (a := a) (oe := oe) (cls := cls) (d := d) List.mem_cons_self zc dat (pv 1)) pe_str (nomark _)) (pe_xfG (a := a) (oe := oe) (cls := cls) (d := d) List.mem_cons_self zc dat (pv 1)) (pe_xfG (a := a) (oe := oe) (cls := cls) (d := d) List.mem_cons_self zc dat (pv 1))) pa_nil)))))
      (.cons (c := .ref T.e_NothingLeft.C) (ts := fun a cls d => tRet (tTup (tCons (tXfA X.K a cls d "word" (tVar 1)) (tCons (tC .non) tNil)))) ⟨by rfl, by decide, .inl T.e_NothingLeft.g⟩ (fun a oe cls d pn zc dat => pss_one (ps_ret (pe_tup (pa_cons (pe_xfG (a := a) (oe := oe) (cls := cls) (d := d) List.mem_cons_self zc dat (pv 1)) (pa_cons pe_non pa_nil))))) .nil)))), ?_⟩
  · constructor
    intro pins s' σ H' D I h'
    obtain ⟨Ech, hW, h1, h2, h3⟩ := h'
    have asked := fun p1 p2 => act W pn xe Ech p1 p2 tk hW
    exact (pss_one (ps_ret (pe_tup (pa_cons pe_str (pa_cons (asked _ _) pa_nil))))).run pins s' σ H' D I ⟨h1, h2, h3⟩
  · exact ⟨by have := hr.dp; show X.A.depth + 1 + 3 * 1 + 5 < _; omega, by have := hr.un; show X.A.units + 3 + 16 * 1 + 200 < _; omega⟩
  · refine ⟨Raised X.K T.r_GrainError Q, fun cls d σ' H' hR => ?_, rfl, hc, h⟩
    obtain ⟨em, wd, fs, v, er, fv, q1⟩ := hR
    refine ⟨true, em, fun _ a na hl => ?_, fun z => nomatch z⟩
    have at1 : (σ'.set 1 (some (V.ref a)))[1]? = some (some (V.ref a)) := by
      rw [List.getElem?_set_self hl]
    refine ⟨_, at1, er.read er.wd ?_⟩
    refine ⟨_, at1, wd, fs, v, rfl, er, fv, fun H2 s2 => ⟨by show 2 ≤ sizeLine; decide, fun p hp => q1 _ p (s2.trans (same_new hp)) upd_same⟩⟩
end
/-! ### lists of ints that comprehensions make -/
def Pt (H : Hp) (D : Addr) (ns : List Int) (i : Nat) (H' : Hp) : Prop := Same H H' ∧ H' D = some (.lst ((ns.take i).map V.int))
theorem pt_step {H H' : Hp} {D : Addr} {ns : List Int} {i : Nat} {z : Int} (h : Pt H D ns i H') (hD : H D = none) (hz : ns[i]? = some z) : Pt H D ns (i + 1) (upd H' D (.lst ((ns.take i).map V.int ++ [.int z]))) := by
  refine ⟨fun a o e => (upd_ne (ne_of_none e hD)).trans (h.1 a o e), ?_⟩
  rw [upd_same, List.take_add_one, hz, List.map_append]
  rfl
theorem pt_size {ns : List Int} {i : Nat} (h : ns.length ≤ 1000) : ((ns.take i).map V.int).length < sizeLine := by
  rw [List.length_map, List.length_take]
  exact small1000 (by omega)
theorem pt_end {H H' : Hp} {D : Addr} {ns : List Int} {i : Nat} (h : Pt H D ns i H') (hi : ns.length ≤ i) : Same H H' ∧ H' D = some (.lst (ns.map V.int)) := by
  have := h.2
  rw [List.take_of_length_le hi] at this
  exact ⟨h.1, this⟩
/-! ### pairs -/
def PairAt (K : PySem.W.Frag) (H : Hp) (v : V) (x y : Int) : Prop := ∃ t : Addr, v = .ref t ∧ SqT K H t [.int x, .int y]
theorem PairAt.same {K : PySem.W.Frag} {H H' : Hp} {v : V} {x y : Int} (h : PairAt K H v x y) (s : Same H H') : PairAt K H' v x y := by
  obtain ⟨t, e, h⟩ := h
  exact ⟨t, e, Evl.ex_t (show Evl.Ex H H' from s) h⟩
inductive PairsAt (K : PySem.W.Frag) (H : Hp) : List V → List (Int × Int) → Prop
  | nil : PairsAt K H [] []
  | cons {v : V} {vs : List V} {x y : Int} {ps : List (Int × Int)} : PairAt K H v x y → PairsAt K H vs ps → PairsAt K H (v :: vs) ((x, y) :: ps)
theorem PairsAt.get {K : PySem.W.Frag} {H : Hp} : ∀ {vs : List V} {ps : List (Int × Int)}, PairsAt K H vs ps → ∀ {i : Nat} {v : V}, vs[i]? = some v → ∃ x y, ps[i]? = some (x, y) ∧ PairAt K H v x y
  | _, _, .nil, i, v, h => by simp at h
  | _, _, .cons p t, 0, v, h => by cases h; exact ⟨_, _, rfl, p⟩
  | _, _, .cons p t, i + 1, v, h => t.get (i := i) (by simpa using h)
theorem PairsAt.same {K : PySem.W.Frag} {H H' : Hp} (s : Same H H') : ∀ {vs : List V} {ps : List (Int × Int)}, PairsAt K H vs ps → PairsAt K H' vs ps
  | _, _, .nil => .nil
  | _, _, .cons p t => .cons (p.same s) (t.same s)
theorem PairsAt.len {K : PySem.W.Frag} {H : Hp} : ∀ {vs : List V} {ps : List (Int × Int)}, PairsAt K H vs ps → vs.length = ps.length
  | _, _, .nil => rfl
  | _, _, .cons p t => congrArg Nat.succ t.len
def s1 (ps : List (Int × Int)) : Int := (ps.map (·.1)).sum
def s2 (ps : List (Int × Int)) : Int := (ps.map (·.2)).sum
/-- a new pair -/
def NewPair (H : Hp) (x y : Int) (Q : VK) : Prop := ∀ p H', H p = none → Same H H' → H' p = some (.tup [.int x, .int y]) → Q (.ref p) H'
/-! ### what is asked of the def that asks -/
section
variable {X : Cx} {k : Nat} {c P0 : Addr} {params : Arguments} {body d : Expr} {v0 : V} {scope : Scope} {t : XK → TE} {p lpos pos : Pos} {b : Str}
theorem one_tab {P0 : Addr} {q : Str} : ∀ p ∈ [(P0, q)], p.1 = P0 → p.2 = q := by
  intro p hp _
  rw [List.mem_singleton.mp hp]
theorem pe_try (T : Txt X.K X.mg) (hg : Gl X "_law_try") (TB : LamX.TabB X.base X.mg c P0) (hcode : X.env.code = .ref c) (hr : Room (k + 3) X.A) (L : LamX.LamS X.env.scope scope) (hdef : defaultsOf params X.env = ([], []))
    (hbind : ∀ (q : Str) (cl : List (Str × Addr)) (pm cv ctv : Value), bindArgs (PySem.W.kla_fn "<lambda>" q params body scope cl pm cv ctv) ⟨[], []⟩ = pure [])
    (hbody : ∀ (A : Around) (outer : List Env) (s : Shared) (H : Hp) (E : XK) (f c' : Addr), Room (k + 1) (A.deeper (LamX.lamEnv X scope s.heap.objs.size f c')) → PE (LamX.lamCx X A outer s H E scope f c') body (t E)) :
    PE X (.Call (.Name "_law_try" p) [.Lambda params body scope lpos] [] pos) (LamX.tLam [(P0, X.env.qual ++ "<lambda>")] (TTry X.K T.r_GrainError) t) := by
  obtain ⟨oc2, od2, kV2, doc2, pm2, an2, cdv2, ct2, osl2, eT, lkT, cdT⟩ := T.F_try.ex
  have bT := T.b_try
  rw [eT] at bT
  rw [eT] at lkT
  exact LamX.pe_lamcall hg T.g_try T.F_try.kp lkT cdT bT sc_try rfl (Or.inl rfl) (try_gives T rfl rfl (k := k) hr) TB hcode (List.mem_singleton.mpr rfl) one_tab hr L hdef hbind hbody
theorem pass_never {X : Cx} {P : Program} {w : World} : Passes (L2.CX P w) X (fun _ _ _ => False) := by
  intro pins σ H s e s' I z
  obtain ⟨_, _, _, _, _, _, _, _, _, _, _, _, he⟩ := z
  exact he.elim
end
/-! ### an error of the first kind, told -/
section
variable {P : Program} {K : PySem.W.Frag} {mg : Str → Option Value} {G : Addr} {st : Stmt} {nm qual : Str} {B newId initId : String} {bmB : List Value}
theorem exm_er (T : Er P K mg B newId initId bmB [.ref G] st nm qual) {cg : ClassData} (hg : PySem.W.clsIn K G = some cg) (tg : PySem.W.typeIn K (.ref G) = some (.type "type")) (sb : PySem.W.subIn K (.ref G) (.type "BaseException") = some true) : PySem.W.exmOne K (.ref T.C) (.ref G) = some true := by
  unfold PySem.W.exmOne
  rw [if_pos (by rw [sb]; rfl)]
  unfold PySem.W.kitCls
  dsimp only
  rw [hg, tg, if_pos (show ((some cg).isSome && some (Value.type "type") == some (Value.type "type")) = true from show (true && some (Value.type "type") == some (Value.type "type")) = true by decide +kernel)]
  show PySem.W.mroIn K T.C (.ref G) = _
  obtain ⟨cd, hc, _, hm⟩ := T.cl
  unfold PySem.W.mroIn
  rw [hc, Option.bind_some, hm]
  show some ((Value.ref T.C :: ([Value.ref G] ++ _)).contains (.ref G)) = some true
  congr 1
  rw [List.contains_cons, List.cons_append, List.contains_cons, beq_self_eq_true]
  simp
theorem raised_er (T : Er P K mg B newId initId bmB [.ref G] st nm qual) {cg : ClassData} (hg : PySem.W.clsIn K G = some cg) (tg : PySem.W.typeIn K (.ref G) = some (.type "type")) (sb : PySem.W.subIn K (.ref G) (.type "BaseException") = some true)
    {w : Str} {fs : List (Str × V)} {v : V} (no : ∀ f v, fs.lookup f = some v → PySem.W.findIn K (.ref T.C) f = some none) (wd : fs.lookup ("word" : Str) = some (.str w)) (fv : fieldVal w fs = some v)
    {Q : VK} {d : Addr} {Hf : Hp} (hd : Hf d = some (.xd fs)) (q : Told Q w v Hf) : Raised K G Q (.ref T.C) (some d) Hf :=
  ⟨exm_er T hg tg sb, w, fs, v, ⟨⟨_, d, rfl, rfl, xfc_of T, hd, no⟩, wd⟩, fv, q⟩
theorem no_two {C : Addr} {f1 : Str} {v1 v2 : V} (h1 : PySem.W.findIn K (.ref C) f1 = some none) (h2 : PySem.W.findIn K (.ref C) "word" = some none) : ∀ f v, List.lookup f [(f1, v1), (("word" : Str), v2)] = some v → PySem.W.findIn K (.ref C) f = some none := by
  intro f v e
  simp only [List.lookup] at e
  split at e
  · rename_i z
    rw [eq_of_beq z]
    exact h1
  · split at e
    · rename_i z
      rw [eq_of_beq z]
      exact h2
    · cases e
theorem no_one {C : Addr} {v2 : V} (h2 : PySem.W.findIn K (.ref C) "word" = some none) : ∀ f v, List.lookup f [(("word" : Str), v2)] = some v → PySem.W.findIn K (.ref C) f = some none := by
  intro f v e
  simp only [List.lookup] at e
  split at e
  · rename_i z
    rw [eq_of_beq z]
    exact h2
  · cases e
end
/-! ### what stays where lambdas are made -/
theorem Bag.extN {H H' : Hp} {b sb : Addr} (B : Bag H b sb) (e : LamX.ExtN H H') : Bag H' b sb := by
  obtain ⟨ns, i, j, m, c, h1, h2, h3, h4, h5, h6⟩ := B
  exact ⟨ns, i, j, m, c, e _ _ h1 (fun _ z => by cases z), e _ _ h2 (fun _ z => by cases z), h3, h4, h5, h6⟩
theorem lst_extN {H H' : Hp} {a : Addr} {xs : List V} (h : H a = some (.lst xs)) (e : LamX.ExtN H H') : H' a = some (.lst xs) := e _ _ h (fun _ z => by cases z)
theorem tup_extN {H H' : Hp} {a : Addr} {xs : List V} (h : H a = some (.tup xs)) (e : LamX.ExtN H H') : H' a = some (.tup xs) := e _ _ h (fun _ z => by cases z)
theorem tabs_keep {H H' : Hp} {b sb : Addr} {T : List (Addr × Str)} (t : LamX.Tabs T H) (B : Bag H b sb) (k : Keep b H H') : LamX.Tabs T H' := by
  intro p hp
  obtain ⟨ps, h1, h2, h3⟩ := t p hp
  obtain ⟨ns, i, j, m, c, B⟩ := B
  refine ⟨ps, k _ _ (ne_of h1 B.hb (by intro z; cases z)) h1, h2, fun pos cv hc => ?_⟩
  obtain ⟨c', e1, e2⟩ := h3 pos cv hc
  exact ⟨c', e1, k _ _ (ne_of e2 B.hb (by intro z; unfold LamX.CodeO at z; cases z)) e2⟩
/-! ### texts: numbers, pieces of three, lines -/
def decT (n : Int) : Str := Str.ofString (toString n)
theorem neg_text {n : Int} (h : n < 0) : Str.ofString "-" ++ decT (-n) = decT n := by
  match n, h with
  | Int.negSucc m, _ =>
    apply TL.ext_tl
    rw [TL.tl_append]
    unfold decT
    rw [TL.tl_ofString, TL.tl_ofString, TL.tl_ofString, ← List.map_append, ← String.toList_append]
    rfl
def sgT (b : Int) : Str := if 0 < b then Str.ofString "+" else Str.ofString ""
def pairT (a b : Int) : Str := if b = 0 then decT a else if a = 0 then decT b ++ Str.ofString "r" else decT a ++ sgT b ++ decT b ++ Str.ofString "r"
theorem empty_str : Str.ofString "" = Str.empty := by decide +kernel
theorem join_len_le (y : Str) : ∀ ps : List Str, (Str.join y ps).length ≤ (ps.map (·.length)).sum + ps.length * y.length
  | [] => by
    show (0 : Nat) ≤ _
    exact Nat.zero_le _
  | [x] => by
    show x.length ≤ _
    simp only [List.map_cons, List.map_nil, List.sum_cons, List.sum_nil]
    omega
  | x :: z :: r => by
    have ih := join_len_le y (z :: r)
    show (x ++ y ++ Str.join y (z :: r)).length ≤ _
    rw [Str.length_append, Str.length_append]
    simp only [List.map_cons, List.sum_cons, List.length_cons, Nat.succ_mul] at ih ⊢
    omega
theorem join_snoc (x : Str) : ∀ ls : List Str, Str.join (Str.ofString "") (ls ++ [x]) = Str.join (Str.ofString "") ls ++ x
  | [] => by
    show x = Str.empty ++ x
    rw [Str.empty_append]
  | [y] => by
    show y ++ Str.ofString "" ++ x = y ++ x
    rw [empty_str, Str.append_empty]
  | y :: z :: r => by
    have ih := join_snoc x (z :: r)
    show y ++ Str.ofString "" ++ Str.join (Str.ofString "") (z :: (r ++ [x])) = y ++ Str.ofString "" ++ Str.join (Str.ofString "") (z :: r) ++ x
    rw [show z :: (r ++ [x]) = (z :: r) ++ [x] from rfl, ih, Str.append_assoc, Str.append_assoc, Str.append_assoc]
abbrev mkS (l : List Nat) : Str := ⟨l.toArray⟩
theorem mkS_len (l : List Nat) : (mkS l).length = l.length := by
  rw [TL.len_tl, TL.tl_mk]
/-- the pieces of three behind the first f signs -/
def pcs (z : List Nat) (f k : Nat) : List Str := (List.range k).map fun i => mkS ((z.drop (f + 3 * i)).take 3)
/-- the same from the end, as the law finds them -/
def pcsR (z : List Nat) (j : Nat) : List Str := (List.range j).map fun i => mkS ((z.drop (z.length - 3 * (i + 1))).take 3)
theorem pcs_rev {z : List Nat} {f k : Nat} (h : z.length = f + 3 * k) : (pcsR z k).reverse = pcs z f k := by
  apply List.ext_getElem?
  intro i
  unfold pcs pcsR
  by_cases hi : i < k
  · rw [List.getElem?_reverse (by simpa using hi), List.length_map, List.length_range, List.getElem?_map, List.getElem?_map, List.getElem?_range (by omega), List.getElem?_range hi]
    simp only [Option.map_some]
    rw [show z.length - 3 * (k - 1 - i + 1) = f + 3 * i by omega]
  · rw [List.getElem?_eq_none (by simp; omega), List.getElem?_eq_none (by simp; omega)]
def frs (n : Nat) : Nat := if n = 0 then 3 else (n - 1) % 3 + 1
def grpT (z : Str) : Str := Txt.join (Str.ofString ",") (mkS (z.cps.toList.take (frs z.length)) :: pcs z.cps.toList (frs z.length) ((z.length - 1) / 3))
theorem pcs_len {z : List Nat} {f k : Nat} : ∀ y ∈ pcs z f k, y.length ≤ 3 := by
  intro y hy
  obtain ⟨i, _, rfl⟩ := List.mem_map.mp hy
  rw [mkS_len, List.length_take]
  exact Nat.min_le_left _ _
theorem sum_le_three : ∀ {ps : List Str}, (∀ y ∈ ps, y.length ≤ 3) → (ps.map (·.length)).sum ≤ 3 * ps.length
  | [], _ => Nat.zero_le _
  | y :: ps, h => by
    have := sum_le_three fun z hz => h z (List.mem_cons_of_mem y hz)
    have := h y List.mem_cons_self
    simp only [List.map_cons, List.sum_cons, List.length_cons]
    omega
theorem frs_le (n : Nat) : frs n ≤ 3 := by
  unfold frs
  split <;> omega
theorem grp_all (z : Str) : ∀ y ∈ mkS (z.cps.toList.take (frs z.length)) :: pcs z.cps.toList (frs z.length) ((z.length - 1) / 3), y.length ≤ 3 := by
  intro y hy
  rcases List.mem_cons.mp hy with rfl | h
  · rw [mkS_len, List.length_take]
    exact Nat.le_trans (Nat.min_le_left _ _) (frs_le _)
  · exact pcs_len y h
theorem grp_len (z : Str) : (grpT z).length ≤ 4 * ((z.length - 1) / 3 + 1) := by
  unfold grpT
  rw [TL.join_eq]
  refine Nat.le_trans (join_len_le _ _) ?_
  have h := sum_le_three (grp_all z)
  have e : (Str.ofString ",").length = 1 := by decide +kernel
  rw [e]
  simp only [List.length_cons] at h ⊢
  have l : (pcs z.cps.toList (frs z.length) ((z.length - 1) / 3)).length = (z.length - 1) / 3 := by
    unfold pcs
    rw [List.length_map, List.length_range]
  rw [l] at h ⊢
  omega
theorem just_len (x : Str) (i : Int) : (Txt.ljust x i).length ≤ x.length + i.toNat ∧ (Txt.rjust x i).length ≤ x.length + i.toNat := by
  have key : ∀ {l : List Nat} {y : Str}, y.cps.toList = l → y.length = l.length := fun h => (TL.len_tl _).trans (congrArg List.length h)
  constructor
  · rw [show Txt.ljust x i = Txt.ljustF x i 32 from rfl, key (PyProof.Rows.ljustF_list x i 32), List.length_append, List.length_replicate, ← TL.len_tl]
    omega
  · rw [show Txt.rjust x i = Txt.rjustF x i 32 from rfl, key (PyProof.Rows.rjustF_list x i 32), List.length_append, List.length_replicate, ← TL.len_tl]
    omega
def lineT (x : Int × Int × Int × Int) (n wh : Int) : Str :=
  Txt.rjust (decT n) 8 ++ Str.ofString "  " ++ (Txt.ljust (pairT x.1 x.2.1) 14 ++ Str.ofString "  " ++ Txt.ljust (pairT x.2.2.1 x.2.2.2) 14) ++ Str.ofString "  " ++ Txt.rjust (grpT (decT wh)) 12 ++ Str.ofString "\n"
/-! ### the texts of numbers, of pairs -/
theorem ps_never {X : Cx} {st : Stmt} : PS X st (fun _ _ _ => False) := ⟨fun _ _ _ _ _ _ h => h.elim⟩
theorem log2_lt_of {m k : Nat} (h : m < 2 ^ k) (hk : 0 < k) : m.log2 < k := by
  by_cases z : m = 0
  · rw [z]
    simpa using hk
  · exact (Nat.log2_lt z).mpr h
theorem text_len {n : Int} (h : n.natAbs < 10 ^ 64) : n.natAbs.log2 < 1920 ∧ (decT n).length ≤ 70 := by
  refine ⟨log2_lt_of (Nat.lt_of_lt_of_le h (by decide)) (by decide), ?_⟩
  have e := int_text_length_le10 (k := 64) (by decide) h
  unfold decT
  rw [PySem.ofString_length]
  omega
theorem dV' {x y : Int} : decide (V.int x = V.int y) = decide (x = y) := by
  by_cases h : x = y
  · rw [decide_eq_true h, h, decide_eq_true rfl]
  · rw [decide_eq_false h, decide_eq_false fun z => h (V.int.inj z)]
theorem sz_eq : sizeLine = 16777216 := rfl
section
variable {base : Heap} {K : PySem.W.Frag} {mg : Str → Option Value} {P : Program} {w : World}
def spDecL (L : Int → Prop) : Sp := fun vs H Q _ => ∃ n : Int, vs = [.int n] ∧ n.natAbs < 10 ^ 64 ∧ L n ∧ ∀ H', Same H H' → Q (.str (decT n)) H'
theorem dec_core (T : Txt K mg) {k : Nat} {sp' : Sp} {L : Int → Prop} (G : FnOk P w K mg base CX0 k T.f_decimal_text T.d_decimal_text ["number"] sp')
    (neg : ∀ (n : Int) (H : Hp) (Q : VK), L n → n < 0 → n.natAbs < 10 ^ 64 → (∀ H', Same H H' → Q (.str (decT (-n))) H') → sp' [.int (-n)] H Q E0) : FnOk P w K mg base CX0 (k + 1) T.f_decimal_text T.d_decimal_text ["number"] (spDecL L) := by
  refine T.F_decimal_text.ok sc_decimal_text (fun vs H Q E h => ?_) (fun cdv A outer s H vs Q E hr h => ?_)
  · obtain ⟨n, rfl, _⟩ := h
    rfl
  · obtain ⟨n, rfl, hn, hL, q⟩ := h
    refine ⟨_, (pss_cons (ps_if (pt_cmpR op_lt (pv 0) pe_int (nomark _)) (pss_one (ps_ret (pe_joined (.cons pe_str (.cons (pe_fmt (pe_call G hr (by rfl) T.g_decimal_text T.F_decimal_text.kp T.b_decimal_text .nil pass0 (pa_cons (pe_un un_neg (pv 0)) pa_nil))) .nil))))) pss_nil)
      (pss_cons (ps_set (i := 1) sc_decimal_text.nd rfl (Or.inl rfl) (pv 0))
      (pss_cons (ps_set (i := 2) sc_decimal_text.nd rfl (Or.inl rfl) (pe_lst pa_nil))
      (pss_cons (ps_while PassesOwn.never (pt_cmpR op_ge (pv 1) (pe_glob (v := .int (10 ^ 64)) (by rfl) T.g_GROUP T.rv_GROUP) (nomark _)) (pss_cons ps_never
      (pss_one ps_never)))
      (pss_cons (ps_expr (pe_bm PySem.F.plainAttrs_list PySem.F.slot_list_append PySem.F.type_list_append mt_append (pv 2) (pa_cons (pe_callTy call_str_int (by rfl) T.n_str (by decide +kernel) (pa_cons (pv 1) pa_nil)) pa_nil)))
      (pss_one (ps_ret (pe_join pe_str (pe_revL (pv 2)))))))))), ?_⟩
    refine ⟨_, rfl, n, 0, rfl, rfl, _, rfl, ?_⟩
    by_cases hneg : n < 0
    · rw [decide_eq_true hneg]
      obtain ⟨g1, g2⟩ := text_len (n := -n) (by omega)
      have e0 : Str.empty ++ Str.ofString "-" = Str.ofString "-" := Str.empty_append _
      have l0 : (Str.ofString "-").length = 1 := by decide +kernel
      refine iteT ⟨_, rfl, by rw [e0, l0, sz_eq]; decide, _, rfl, n, rfl, neg n H _ hL hneg hn fun H' s' => .inl ⟨_, rfl, by rw [sz_eq]; omega, _, rfl, ?_, ?_⟩⟩
      · rw [e0, Str.length_append, l0, sz_eq]
        omega
      · rw [e0, neg_text hneg]
        exact q _ s'
    · rw [decide_eq_false hneg]
      obtain ⟨g1, g2⟩ := text_len hn
      refine iteF ⟨_, rfl, Nat.zero_le _, fun l hl => ?_⟩
      refine ⟨fun m σ G => m = 0 ∧ σ = [some (.int n), some (.int n), some (.ref l), none] ∧ G = upd H l (.lst []), ⟨0, rfl, rfl, rfl⟩, ?_⟩
      rintro m σ G ⟨rfl, rfl, rfl⟩
      refine ⟨_, rfl, n, 10 ^ 64, rfl, rfl, _, rfl, ?_⟩
      rw [decide_eq_false (by omega)]
      refine iteF ⟨_, rfl, .inl ⟨rfl, _, SqL.of upd_same⟩, _, rfl, n, rfl, g1, l, _, _, rfl, rfl, upd_same, by decide, ?_⟩
      refine ⟨⟨_, rfl⟩, _, rfl, l, _, rfl, SqL.of upd_same, fun p hp => ⟨_, p, [decT n], rfl, rfl, .inl (SqL.of (by rw [upd_same]; rfl)), ?_, ?_⟩⟩
      · show (decT n).length + 0 + 1 * 0 ≤ 16777216
        omega
      · have s1 : Same H (upd (upd (upd H l (.lst [])) l (.lst ([] ++ [.str (decT n)]))) p (.lst ([] ++ [V.str (decT n)]).reverse)) := fun a o z => by
          have na := ne_of_none z hl
          rw [upd_ne (ne_of_none ((upd_ne na).trans ((upd_ne na).trans z)) hp), upd_ne na, upd_ne na]
          exact z
        exact q _ s1
theorem ok_dec0 (T : Txt K mg) : FnOk P w K mg base CX0 1 T.f_decimal_text T.d_decimal_text ["number"] (spDecL fun n => 0 ≤ n) :=
  dec_core T (k := 0) (sp' := fun _ _ _ _ => False) ⟨fun _ _ _ _ h => h.elim, fun _ _ _ _ _ _ _ _ _ _ _ _ _ h => h.elim⟩ fun n H Q h0 hn _ _ => by omega
def spDec : Sp := fun vs H Q _ => ∃ n : Int, vs = [.int n] ∧ n.natAbs < 10 ^ 64 ∧ ∀ H', Same H H' → Q (.str (decT n)) H'
theorem ok_decimal_text (T : Txt K mg) : FnOk P w K mg base CX0 2 T.f_decimal_text T.d_decimal_text ["number"] spDec := by
  have h := dec_core (L := fun _ => True) T (ok_dec0 (P := P) (w := w) (base := base) T) fun n H Q _ hn hb q => ⟨-n, rfl, by omega, by omega, q⟩
  exact h.imp fun vs H Q E ⟨n, e, hb, q⟩ => ⟨n, e, hb, trivial, q⟩
end
/-! ### the texts of pairs -/
section
variable {base : Heap} {K : PySem.W.Frag} {mg : Str → Option Value} {P : Program} {w : World}
def spPairT (K : PySem.W.Frag) : Sp := fun vs H Q _ => ∃ (p : Addr) (a b : Int), vs = [.ref p] ∧ SqT K H p [.int a, .int b] ∧ a.natAbs < 10 ^ 64 ∧ b.natAbs < 10 ^ 64 ∧ ∀ H', Same H H' → Q (.str (pairT a b)) H'
theorem pair_len {a b : Int} (ha : a.natAbs < 10 ^ 64) (hb : b.natAbs < 10 ^ 64) : (pairT a b).length ≤ 150 := by
  have h1 := (text_len ha).2
  have h2 := (text_len hb).2
  have r1 : (Str.ofString "r").length = 1 := by decide +kernel
  have s1 : (sgT b).length ≤ 1 := by
    unfold sgT
    split <;> decide +kernel
  unfold pairT
  split
  · omega
  split
  · rw [Str.length_append, r1]
    omega
  · rw [Str.length_append, Str.length_append, Str.length_append, r1]
    omega
theorem ok_pair_text (T : Txt K mg) : FnOk P w K mg base CX0 3 T.f_pair_text T.d_pair_text ["pair"] (spPairT K) := by
  refine T.F_pair_text.ok sc_pair_text (fun vs H Q E h => ?_) (fun cdv A outer s H vs Q E hr h => ?_)
  · obtain ⟨p, a, b, rfl, _⟩ := h
    rfl
  · obtain ⟨p, a, b, rfl, hp, ha, hb, q⟩ := h
    refine ⟨_, (pss_cons (ps_asg (pv 0) (pg_tup (by rfl) (pgs_cons (pg_name (i := 2) sc_pair_text.nd rfl (Or.inl rfl)) (pgs_cons (pg_name (i := 3) sc_pair_text.nd rfl (Or.inl rfl)) pgs_nil))))
      (pss_cons (ps_if (pt_cmpR op_eq (pv 3) pe_int (nomark _)) (pss_one (ps_ret (pe_call (ok_decimal_text T) (hr.mono (by decide)) (by rfl) T.g_decimal_text T.F_decimal_text.kp T.b_decimal_text .nil pass0 (pa_cons (pv 2) pa_nil)))) pss_nil)
      (pss_cons (ps_if (pt_cmpR op_eq (pv 2) pe_int (nomark _)) (pss_one (ps_ret (pe_joined (.cons (pe_fmt (pe_call (ok_decimal_text T) (hr.mono (by decide)) (by rfl) T.g_decimal_text T.F_decimal_text.kp T.b_decimal_text .nil pass0 (pa_cons (pv 3) pa_nil))) (.cons pe_str .nil))))) pss_nil)
      (pss_cons (ps_set (i := 1) sc_pair_text.nd rfl (Or.inl rfl) (pe_ifExp (pt_cmpR op_gt (pv 3) pe_int (nomark _)) pe_str pe_str))
      (pss_one (ps_ret (pe_joined (.cons (pe_fmt (pe_call (ok_decimal_text T) (hr.mono (by decide)) (by rfl) T.g_decimal_text T.F_decimal_text.kp T.b_decimal_text .nil pass0 (pa_cons (pv 2) pa_nil))) (.cons (pe_fmt (pv 1)) (.cons (pe_fmt (pe_call (ok_decimal_text T) (hr.mono (by decide)) (by rfl) T.g_decimal_text T.F_decimal_text.kp T.b_decimal_text .nil pass0 (pa_cons (pv 3) pa_nil))) (.cons pe_str .nil))))))))))), ?_⟩
    have la := (text_len ha).2
    have lb := (text_len hb).2
    have r1 : (Str.ofString "r").length = 1 := by decide +kernel
    refine ⟨_, rfl, p, _, rfl, hp, rfl, .int a, _, rfl, .int b, _, rfl, rfl, ?_⟩
    unfold pairT at q
    by_cases b0 : b = 0
    · rw [if_pos b0] at q
      exact ⟨_, rfl, rfl, true, congrArg V.bl (by rw [dV', decide_eq_true b0]), iteT ⟨_, rfl, a, rfl, ha, fun H1 s1 => q _ s1⟩⟩
    rw [if_neg b0] at q
    refine ⟨_, rfl, rfl, false, congrArg V.bl (by rw [dV', decide_eq_false b0]), iteF ?_⟩
    by_cases a0 : a = 0
    · rw [if_pos a0] at q
      refine ⟨_, rfl, rfl, true, congrArg V.bl (by rw [dV', decide_eq_true a0]), iteT ⟨_, rfl, b, rfl, hb, fun H1 s1 => .inl ⟨_, rfl, by rw [sz_eq]; omega, _, rfl, by rw [Str.empty_append, sz_eq]; omega, _, rfl, by rw [Str.empty_append, Str.length_append, r1, sz_eq]; omega, ?_⟩⟩⟩
      rw [Str.empty_append]
      exact q _ s1
    rw [if_neg a0] at q
    refine ⟨_, rfl, rfl, false, congrArg V.bl (by rw [dV', decide_eq_false a0]), iteF ?_⟩
    have s1 : (sgT b).length ≤ 1 := by
      unfold sgT
      split <;> decide +kernel
    have fin : ∀ H1, Same H H1 → ∀ sg, sg = sgT b → Q (.str (Str.empty ++ decT a ++ sg ++ decT b ++ Str.ofString "r")) H1 := by
      rintro H1 e sg rfl
      rw [Str.empty_append]
      exact q _ e
    have go : ∀ sg : Str, sg = sgT b → tRet (fun σ H Q => tJs [tFmt (tCall spDec [] E0 (tCons (tVar 1) tNil)), tFmt (tVar 3), tFmt (tCall spDec [] E0 (tCons (tVar 2) tNil)), tC (.str "r")] Str.empty σ H fun out H1 => Q (.str out) H1) { nx := fun _ H' => Q .non H', rt := Q } [some (.ref p), some (.int a), some (.int b), some (.str sg)] H := by
      intro sg esg
      have hsg : sg.length ≤ 1 := by rw [esg]; exact s1
      refine ⟨_, rfl, a, rfl, ha, fun H1 e1 => .inl ⟨_, rfl, by rw [sz_eq]; omega, _, rfl, by rw [Str.empty_append, sz_eq]; omega, _, rfl, .inl ⟨_, rfl, by rw [sz_eq]; omega, _, rfl, by rw [Str.empty_append, Str.length_append, sz_eq]; omega, _, rfl, b, rfl, hb, fun H2 e2 => .inl ⟨_, rfl, by rw [sz_eq]; omega, _, rfl, by rw [Str.empty_append, Str.length_append, Str.length_append, sz_eq]; omega, _, rfl, by rw [Str.empty_append, Str.length_append, Str.length_append, Str.length_append, r1, sz_eq]; omega, ?_⟩⟩⟩⟩
      exact fin H2 (e1.trans e2) sg esg
    by_cases bp : b > 0
    · exact ⟨_, rfl, b, 0, rfl, rfl, true, congrArg V.bl (decide_eq_true bp), iteT (go _ (by unfold sgT; rw [if_pos bp]))⟩
    · exact ⟨_, rfl, b, 0, rfl, rfl, false, congrArg V.bl (decide_eq_false bp), iteF (go _ (by unfold sgT; rw [if_neg bp]))⟩
end
/-! ### the law's own texts of pairs -/
section
variable {base : Heap} {K : PySem.W.Frag} {mg : Str → Option Value} {P : Program} {w : World}
theorem ok_lpair_text (T : Txt K mg) : FnOk P w K mg base CX0 1 T.f_lpair_text T.d_lpair_text ["_law_pair_z"] (spPairT K) := by
  refine T.F_lpair_text.ok sc_lpair_text (fun vs H Q E h => ?_) (fun cdv A outer s H vs Q E hr h => ?_)
  · obtain ⟨p, a, b, rfl, _⟩ := h
    rfl
  · obtain ⟨p, a, b, rfl, hp, ha, hb, q⟩ := h
    refine ⟨_, (pss_cons (ps_asg (pv 0) (pg_tup (by rfl) (pgs_cons (pg_name (i := 1) sc_lpair_text.nd rfl (Or.inl rfl)) (pgs_cons (pg_name (i := 2) sc_lpair_text.nd rfl (Or.inl rfl)) pgs_nil))))
      (pss_cons (ps_if (pt_cmpR op_eq (pv 2) pe_int (nomark _)) (pss_one (ps_ret (pe_callTy call_str_int (by rfl) T.n_str (by decide +kernel) (pa_cons (pv 1) pa_nil)))) pss_nil)
      (pss_cons (ps_if (pt_cmpR op_eq (pv 1) pe_int (nomark _)) (pss_one (ps_ret (pe_op op_add_str (pe_callTy call_str_int (by rfl) T.n_str (by decide +kernel) (pa_cons (pv 2) pa_nil)) pe_str))) pss_nil)
      (pss_one (ps_ret (pe_op op_add_str (pe_op op_add_str (pe_op op_add_str (pe_callTy call_str_int (by rfl) T.n_str (by decide +kernel) (pa_cons (pv 1) pa_nil)) (pe_ifExp (pt_cmpR op_gt (pv 2) pe_int (nomark _)) pe_str pe_str)) (pe_callTy call_str_int (by rfl) T.n_str (by decide +kernel) (pa_cons (pv 2) pa_nil))) pe_str)))))), ?_⟩
    obtain ⟨ga, la⟩ := text_len ha
    obtain ⟨gb, lb⟩ := text_len hb
    have r1 : (Str.ofString "r").length = 1 := by decide +kernel
    refine ⟨_, rfl, p, _, rfl, hp, rfl, .int a, _, rfl, .int b, _, rfl, rfl, ?_⟩
    unfold pairT at q
    by_cases b0 : b = 0
    · rw [if_pos b0] at q
      exact ⟨_, rfl, rfl, true, congrArg V.bl (by rw [dV', decide_eq_true b0]), iteT ⟨_, rfl, a, rfl, ga, q _ (Same.refl _)⟩⟩
    rw [if_neg b0] at q
    refine ⟨_, rfl, rfl, false, congrArg V.bl (by rw [dV', decide_eq_false b0]), iteF ?_⟩
    by_cases a0 : a = 0
    · rw [if_pos a0] at q
      exact ⟨_, rfl, rfl, true, congrArg V.bl (by rw [dV', decide_eq_true a0]), iteT ⟨_, rfl, b, rfl, gb, decT b, _, rfl, rfl, by rw [r1, sz_eq]; omega, q _ (Same.refl _)⟩⟩
    rw [if_neg a0] at q
    refine ⟨_, rfl, rfl, false, congrArg V.bl (by rw [dV', decide_eq_false a0]), iteF ?_⟩
    have s1 : (sgT b).length ≤ 1 := by
      unfold sgT
      split <;> decide +kernel
    by_cases bp : b > 0
    · have e : sgT b = Str.ofString "+" := if_pos bp
      rw [e] at q s1
      exact ⟨_, rfl, a, rfl, ga, _, rfl, b, 0, rfl, rfl, true, congrArg V.bl (decide_eq_true bp), iteT ⟨decT a, _, rfl, rfl, by rw [sz_eq]; omega, _, rfl, b, rfl, gb, _, decT b, rfl, rfl, by rw [Str.length_append, sz_eq]; omega, _, _, rfl, rfl, by rw [Str.length_append, Str.length_append, r1, sz_eq]; omega, q _ (Same.refl _)⟩⟩
    · have e : sgT b = Str.ofString "" := if_neg bp
      rw [e] at q s1
      exact ⟨_, rfl, a, rfl, ga, _, rfl, b, 0, rfl, rfl, false, congrArg V.bl (decide_eq_false bp), iteF ⟨decT a, _, rfl, rfl, by rw [sz_eq]; omega, _, rfl, b, rfl, gb, _, decT b, rfl, rfl, by rw [Str.length_append, sz_eq]; omega, _, _, rfl, rfl, by rw [Str.length_append, Str.length_append, r1, sz_eq]; omega, q _ (Same.refl _)⟩⟩
end
/-! ### numbers that are read: a text is a number's own exactly where it has no needless zero -/
open PySem.NumText in
theorem dval_lt : ∀ {cs : List Nat}, AllDigits cs → digitsVal cs < 10 ^ cs.length := by
  intro cs
  have h : ∀ n (cs : List Nat), cs.length = n → AllDigits cs → digitsVal cs < 10 ^ n := by
    intro n
    induction n with
    | zero =>
      intro cs hl _
      rw [List.eq_nil_of_length_eq_zero hl]
      decide
    | succ n ih =>
      intro cs hl had
      have hne : cs ≠ [] := fun e => by rw [e] at hl; simp at hl
      have e := List.dropLast_concat_getLast hne
      have l1 : cs.dropLast.length = n := by rw [List.length_dropLast, hl]; rfl
      have h1 := ih cs.dropLast l1 fun c hc => had c (List.dropLast_subset _ hc)
      have h2 := had _ (List.getLast_mem hne)
      rw [← e, digitsVal_snoc, Nat.pow_succ]
      omega
  exact h _ cs rfl
open PySem.NumText in
theorem num_canon {cs : List Nat} (had : AllDigits cs) (hne : cs ≠ []) : TL.numL (digitsVal cs) = cs ↔ (cs = [48] ∨ cs.head? ≠ some 48) := by
  constructor
  · intro h
    match cs, hne with
    | c :: r, _ =>
      by_cases z : c = 48
      · subst z
        cases r with
        | nil => exact .inl rfl
        | cons c2 r2 =>
          exfalso
          have hl := TL.numL_len (n := digitsVal (c2 :: r2)) (k := (c2 :: r2).length) (Nat.succ_pos _) (dval_lt had.tail)
          rw [digitsVal_zero] at h
          rw [h] at hl
          simp at hl
          omega
      · exact .inr fun e => z (Option.some.inj e)
  · intro h
    have hc : cs.length = (cs.length - 1) + 1 := by
      have : cs.length ≠ 0 := fun e => hne (List.eq_nil_of_length_eq_zero e)
      omega
    have big : cs.length - 1 = 0 ∨ ∃ c r, cs = c :: r ∧ 49 ≤ c := by
      rcases h with rfl | h
      · exact .inl rfl
      · match cs, hne with
        | c :: r, _ =>
          have h1 := had.head
          have h2 : c ≠ 48 := fun e => h (congrArg some e)
          exact .inr ⟨c, r, rfl, by omega⟩
    have e := toDigits_digitsVal _ cs hc had big
    unfold TL.numL
    rw [e, List.map_map]
    have : ∀ l : List Nat, AllDigits l → l.map (Char.toNat ∘ Char.ofNat) = l := by
      intro l
      induction l with
      | nil => exact fun _ => rfl
      | cons c r ih =>
        intro hl
        have h1 := hl.head
        rw [List.map_cons, ih hl.tail]
        congr 1
        have : ∀ c : Nat, c < 58 → Char.toNat (Char.ofNat c) = c := by decide
        exact this c (by omega)
    exact this cs had
def minusB (z : List Nat) : Bool := z.head? == some 45
def digsL (z : List Nat) : List Nat := if minusB z = true then z.drop 1 else z
def digB (c : Nat) : Bool := decide (48 ≤ c ∧ c ≤ 57)
def guardB (z : List Nat) : Bool := decide (1 ≤ (digsL z).length ∧ (digsL z).length ≤ 20) && (digsL z).all digB
def zeroB (z : List Nat) : Bool := ((digsL z).head? == some 48) && !(z == [48])
def valN (z : List Nat) : Int := if minusB z = true then -((NumText.digitsVal (digsL z) : Nat) : Int) else ((NumText.digitsVal (digsL z) : Nat) : Int)
/-- the number of a text, or nothing -/
def readN (z : List Nat) : Option Int := if guardB z = true then (if zeroB z = true then none else some (valN z)) else none
theorem guard_digits {z : List Nat} (h : guardB z = true) : NumText.AllDigits (digsL z) ∧ digsL z ≠ [] ∧ (digsL z).length ≤ 20 := by
  unfold guardB at h
  rw [Bool.and_eq_true] at h
  obtain ⟨h1, h2⟩ := h
  have h1 := of_decide_eq_true h1
  refine ⟨fun c hc => ?_, fun e => ?_, h1.2⟩
  · exact of_decide_eq_true (List.all_eq_true.mp h2 c hc)
  · rw [e] at h1
    simp at h1
theorem minus_eq {z : List Nat} (h : minusB z = true) : z = 45 :: digsL z := by
  unfold digsL
  rw [if_pos h]
  unfold minusB at h
  match z, h with
  | c :: r, h =>
    have : c = 45 := by simpa using h
    rw [this]
    rfl
theorem guard_int {z : List Nat} (h : guardB z = true) : intText? (mkS z) = some (valN z) := by
  obtain ⟨h1, h2, h3⟩ := guard_digits h
  unfold valN
  by_cases m : minusB z = true
  · rw [if_pos m]
    refine intText_neg (x := mkS z) (cs := digsL z) (minus_eq m) h1 h2 ?_
    rw [mkS_len]
    have := congrArg List.length (minus_eq m)
    rw [List.length_cons] at this
    omega
  · have e : digsL z = z := by
      unfold digsL
      rw [if_neg m]
    rw [if_neg m]
    rw [e] at h1 h2 h3 ⊢
    exact intText_digits (x := mkS z) h1 h2 (by rw [mkS_len]; omega)
theorem guard_len {z : List Nat} (h : guardB z = true) : z.length ≤ 21 := by
  obtain ⟨_, _, h3⟩ := guard_digits h
  by_cases m : minusB z = true
  · have := congrArg List.length (minus_eq m)
    rw [List.length_cons] at this
    omega
  · unfold digsL at h3
    rw [if_neg m] at h3
    omega
theorem guard_bd {z : List Nat} (h : guardB z = true) : (valN z).natAbs < 10 ^ 20 := by
  obtain ⟨h1, h2, h3⟩ := guard_digits h
  have := Nat.lt_of_lt_of_le (dval_lt h1) (Nat.pow_le_pow_right (show 0 < 10 by decide) h3)
  unfold valN
  split <;> omega
/-- str(int(text)) == text -/
theorem guard_text {z : List Nat} (h : guardB z = true) : decT (valN z) = mkS z ↔ zeroB z = false := by
  obtain ⟨h1, h2, h3⟩ := guard_digits h
  have tlN : ∀ n : Nat, TL.tl (decT ((n : Nat) : Int)) = TL.numL n := fun n => TL.tl_num n
  have ext : ∀ {s : Str}, s = mkS z ↔ TL.tl s = z := fun {s} => ⟨fun e => by rw [e, TL.tl_mk], fun e => TL.ext_tl (by rw [e, TL.tl_mk])⟩
  rw [ext]
  unfold valN
  by_cases m : minusB z = true
  · have ez := minus_eq m
    have nz : (z == [48]) = false := by
      rw [ez]
      rfl
    rw [if_pos m]
    unfold zeroB
    rw [nz, Bool.not_false, Bool.and_true]
    have hd : ∃ c r, digsL z = c :: r ∧ 48 ≤ c ∧ c ≤ 57 := by
      match hz : digsL z, h2 with
      | c :: r, _ =>
        rw [hz] at h1
        exact ⟨c, r, rfl, h1.head⟩
    by_cases v0 : NumText.digitsVal (digsL z) = 0
    · -- a minus and noughts
      obtain ⟨c, r, ec, c0, c1⟩ := hd
      have c48 : c = 48 := by
        rcases Nat.lt_or_ge c 49 with l | l
        · omega
        · rw [ec] at v0
          have := NumText.digitsVal_pos (cs := r) l
          omega
      rw [v0, ec, c48]
      constructor
      · intro e
        rw [ez] at e
        have e0 : TL.tl (decT (-((0 : Nat) : Int))) = [48] := by decide +kernel
        rw [e0] at e
        cases e
      · intro e
        simp at e
    · have neg : -((NumText.digitsVal (digsL z) : Nat) : Int) < 0 := by omega
      rw [← neg_text neg, TL.tl_append, Int.neg_neg, tlN]
      have em : TL.tl (Str.ofString "-") = [45] := by decide +kernel
      rw [em]
      have cut : ([45] ++ TL.numL (NumText.digitsVal (digsL z)) = z) ↔ TL.numL (NumText.digitsVal (digsL z)) = digsL z := by
        constructor
        · intro e
          rw [List.singleton_append] at e
          have := e.trans ez
          injection this
        · intro e
          rw [e, List.singleton_append]
          exact ez.symm
      rw [cut, num_canon h1 h2]
      have n48 : digsL z ≠ [48] := fun e => v0 (by rw [e]; decide)
      simp [n48]
  · have e : digsL z = z := by
      unfold digsL
      rw [if_neg m]
    rw [if_neg m, tlN]
    rw [e] at h1 h2 ⊢
    rw [num_canon h1 h2]
    unfold zeroB
    rw [e]
    by_cases q : z = [48]
    · subst q
      simp
    · have : (z == [48]) = false := by simpa using q
      rw [this]
      simp [q]
/-! ### pairs that are read -/
def signB (c : Nat) : Bool := c == 43 || c == 45
/-- the places of signs behind the first letter -/
def sgs (b : List Nat) : List Nat := (List.range' 1 (b.length - 1)).filter fun k => signB (b.getD k 0)
def sgAt (b : List Nat) : Nat := (sgs b).getLast?.getD 0
def IsAt (b : List Nat) (k : Nat) : Prop := (k = 0 ∧ ∀ j, 1 ≤ j → j < b.length → signB (b.getD j 0) = false) ∨ (1 ≤ k ∧ k < b.length ∧ signB (b.getD k 0) = true ∧ ∀ j, k < j → j < b.length → signB (b.getD j 0) = false)
theorem at_one {b : List Nat} {k l : Nat} (h : IsAt b k) (g : IsAt b l) : k = l := by
  rcases h with ⟨rfl, h⟩ | ⟨h1, h2, h3, h4⟩ <;> rcases g with ⟨rfl, g⟩ | ⟨g1, g2, g3, g4⟩
  · rfl
  · rw [h l g1 g2] at g3
    cases g3
  · rw [g k h1 h2] at h3
    cases h3
  · rcases Nat.lt_trichotomy k l with z | z | z
    · rw [h4 l z g2] at g3
      cases g3
    · exact z
    · rw [g4 k z h2] at h3
      cases h3
theorem sgAt_is (b : List Nat) : IsAt b (sgAt b) := by
  have mem : ∀ k, k ∈ sgs b ↔ (1 ≤ k ∧ k < b.length) ∧ signB (b.getD k 0) = true := by
    intro k
    unfold sgs
    rw [List.mem_filter, List.mem_range'_1]
    constructor
    · rintro ⟨⟨h1, h2⟩, h3⟩
      exact ⟨⟨h1, by omega⟩, h3⟩
    · rintro ⟨⟨h1, h2⟩, h3⟩
      exact ⟨⟨h1, by omega⟩, h3⟩
  unfold sgAt
  cases hl : (sgs b).getLast? with
  | none =>
    have e : sgs b = [] := List.getLast?_eq_none_iff.mp hl
    refine .inl ⟨rfl, fun j h1 h2 => ?_⟩
    cases hs : signB (b.getD j 0) with
    | false => rfl
    | true =>
      have := (mem j).mpr ⟨⟨h1, h2⟩, hs⟩
      rw [e] at this
      cases this
  | some k =>
    have hk := (mem k).mp (List.mem_of_getLast? hl)
    show IsAt b k
    refine .inr ⟨hk.1.1, hk.1.2, hk.2, fun j h1 h2 => ?_⟩
    cases hs : signB (b.getD j 0) with
    | false => rfl
    | true =>
      have hj := (mem j).mpr ⟨⟨by omega, h2⟩, hs⟩
      -- the list ascends
      have asc : (sgs b).Pairwise (· < ·) := List.Pairwise.filter _ List.pairwise_lt_range'
      obtain ⟨ys, e⟩ := List.getLast?_eq_some_iff.mp hl
      rw [e] at hj asc
      rcases List.mem_append.mp hj with z | z
      · have := (List.pairwise_append.mp asc).2.2 j z k (by simp)
        omega
      · have := List.mem_singleton.mp z
        omega
/-- what a text with an r at its end tells, the sign at k -/
def resP (b : List Nat) (k : Nat) : Option (Int × Int) :=
  if k = 0 then (match readN b with | none => none | some n => if n = 0 then none else some (0, n))
  else match readN (b.take k), readN (if (b.drop k).head? = some 43 then (b.drop k).drop 1 else b.drop k) with
    | some m, some n => if n = 0 ∨ m = 0 ∨ ((b.drop k).head? = some 43 ∧ n < 0) then none else some (m, n)
    | _, _ => none
def readP (z : List Nat) : Option (Int × Int) := if z.getLast? = some 114 then resP z.dropLast (sgAt z.dropLast) else (readN z).map fun n => (n, 0)
theorem readN_text {z : List Nat} {n : Int} (h : readN z = some n) : decT n = mkS z ∧ n.natAbs < 10 ^ 20 := by
  unfold readN at h
  split at h
  · rename_i g
    split at h
    · cases h
    · rename_i zb
      cases h
      exact ⟨(guard_text g).mpr (by simpa using zb), guard_bd g⟩
  · cases h
theorem mk_inj {a b : List Nat} : mkS a = mkS b ↔ a = b := ⟨fun e => by have := congrArg TL.tl e; rwa [TL.tl_mk, TL.tl_mk] at this, fun e => by rw [e]⟩
theorem mk_app (a b : List Nat) : mkS a ++ mkS b = mkS (a ++ b) := TL.ext_tl (by rw [TL.tl_append, TL.tl_mk, TL.tl_mk, TL.tl_mk])
theorem r_S : Str.ofString "r" = mkS [114] := by decide +kernel
theorem plus_S : Str.ofString "+" = mkS [43] := by decide +kernel
theorem nil_S : Str.ofString "" = mkS [] := by decide +kernel
theorem dec_zero : decT 0 = mkS [48] := by decide +kernel
theorem minus_neg {z : List Nat} {n : Int} (h : readN z = some n) (m : minusB z = true) : n ≤ 0 := by
  unfold readN at h
  split at h
  · split at h
    · cases h
    · cases h
      unfold valN
      rw [if_pos m]
      omega
  · cases h
/-- what the program makes of it -/
def progP (b : List Nat) (k : Nat) : Option (Int × Int) :=
  match (if k = 0 then readN [48] else readN (b.take k)), readN (if k = 0 then b else if (b.drop k).head? = some 43 then (b.drop k).drop 1 else b.drop k) with
  | some m, some n => if pairT m n = mkS (b ++ [114]) then some (m, n) else none
  | _, _ => none
theorem prog_res {b : List Nat} {k : Nat} (h : IsAt b k) : progP b k = resP b k := by
  unfold progP resP
  have zr : readN [48] = some 0 := by decide +kernel
  by_cases k0 : k = 0
  · rw [if_pos k0, if_pos k0, if_pos k0, zr]
    cases hn : readN b with
    | none => rfl
    | some n =>
      obtain ⟨tx, _⟩ := readN_text hn
      dsimp only
      by_cases n0 : n = 0
      · have no : ¬ pairT 0 n = mkS (b ++ [114]) := by
          unfold pairT
          rw [if_pos n0, dec_zero, mk_inj]
          rw [n0, dec_zero, mk_inj] at tx
          rw [← tx]
          decide
        rw [if_neg no, if_pos n0]
      · have yes : pairT 0 n = mkS (b ++ [114]) := by
          unfold pairT
          rw [if_neg n0, if_pos rfl, tx, r_S, mk_app]
        rw [if_pos yes, if_neg n0]
  · rw [if_neg k0, if_neg k0, if_neg k0]
    rcases h with ⟨z, _⟩ | ⟨k1, kb, ks, _⟩
    · exact absurd z k0
    have eb : b.take k ++ b.drop k = b := List.take_append_drop k b
    obtain ⟨c, r, eo, hc⟩ : ∃ c r, b.drop k = c :: r ∧ signB c = true := by
      have e : b[k]? = some b[k] := List.getElem?_eq_getElem kb
      refine ⟨b[k], b.drop (k + 1), List.drop_eq_getElem_cons kb, ?_⟩
      rw [List.getD_eq_getElem?_getD, e] at ks
      exact ks
    have lone : (b.take k).length = k := by rw [List.length_take, Nat.min_eq_left (by omega)]
    cases hm : readN (b.take k) with
    | none => rfl
    | some m =>
      obtain ⟨tm, _⟩ := readN_text hm
      cases hn : readN (if (b.drop k).head? = some 43 then (b.drop k).drop 1 else b.drop k) with
      | none => rfl
      | some n =>
        obtain ⟨tn, _⟩ := readN_text hn
        dsimp only
        by_cases n0 : n = 0
        · have no : ¬ pairT m n = mkS (b ++ [114]) := by
            unfold pairT
            rw [if_pos n0, tm, mk_inj]
            intro e
            have := congrArg List.length e
            rw [lone, List.length_append] at this
            simp at this
            omega
          rw [if_neg no, if_pos (.inl n0)]
        by_cases m0 : m = 0
        · have no : ¬ pairT m n = mkS (b ++ [114]) := by
            unfold pairT
            rw [if_neg n0, if_pos m0, tn, r_S, mk_app, mk_inj]
            intro e
            have e := List.append_cancel_right e
            have le := congrArg List.length e
            have : (b.drop k).length = b.length - k := List.length_drop
            split at le
            · rw [List.length_drop] at le
              omega
            · omega
          rw [if_neg no, if_pos (.inr (.inl m0))]
        have hc' : c = 43 ∨ c = 45 := by
          unfold signB at hc
          simpa using hc
        have whole : b = b.take k ++ (c :: r) := by rw [← eo]; exact eb.symm
        have pt : pairT m n = decT m ++ sgT n ++ decT n ++ Str.ofString "r" := by
          unfold pairT
          rw [if_neg n0, if_neg m0]
        have hd : (b.drop k).head? = some c := by rw [eo]; rfl
        rcases hc' with rfl | rfl
        · rw [if_pos hd] at hn tn
          rw [eo, List.drop_one, List.tail_cons] at hn tn
          by_cases np : 0 < n
          · have yes : pairT m n = mkS (b ++ [114]) := by
              rw [pt, tm, tn, r_S]
              unfold sgT
              rw [if_pos np, plus_S, mk_app, mk_app, mk_app, mk_inj, List.append_assoc (b.take k), List.singleton_append, ← whole]
            rw [if_pos yes, if_neg]
            rintro (z | z | z)
            · exact n0 z
            · exact m0 z
            · omega
          · have no : ¬ pairT m n = mkS (b ++ [114]) := by
              rw [pt, tm, tn, r_S]
              unfold sgT
              rw [if_neg np, nil_S, mk_app, mk_app, mk_app, mk_inj, List.append_nil]
              intro e
              have e := List.append_cancel_right e
              have := congrArg List.length e
              rw [List.length_append, lone] at this
              have l2 := congrArg List.length whole
              rw [List.length_append, lone, List.length_cons] at l2
              omega
            rw [if_neg no, if_pos (.inr (.inr ⟨hd, by omega⟩))]
        · have nh : ¬ (b.drop k).head? = some 43 := by rw [hd]; decide
          rw [if_neg nh] at hn tn
          have neg := minus_neg hn (by rw [eo]; rfl)
          have yes : pairT m n = mkS (b ++ [114]) := by
            rw [pt, tm, tn, r_S]
            unfold sgT
            rw [if_neg (by omega), nil_S, mk_app, mk_app, mk_app, mk_inj, List.append_nil, eb]
          rw [if_pos yes, if_neg]
          rintro (z | z | z)
          · exact n0 z
          · exact m0 z
          · exact nh z.1
/-! ### pieces of texts, by their letters -/
theorem mk_letters (l : List Nat) : (mkS l).cps.toList = l := TL.tl_mk l
theorem neg_ix (n d : Nat) : HT.sIx n d (some (-1)) = n - 1 := by
  unfold HT.sIx
  dsimp only
  rw [if_pos (by decide)]
  omega
theorem cut_front (l : List Nat) (k : Nat) : cutS (mkS l) none (some (k : Int)) = mkS (l.take k) := by
  unfold cutS
  rw [HT.sIx_nat, HT.sIx_none, mk_letters, mkS_len, List.drop_zero, Nat.sub_zero]
  rcases Nat.le_total k l.length with h | h
  · rw [Nat.min_eq_left h]
  · rw [Nat.min_eq_right h, List.take_of_length_le h, List.take_of_length_le (Nat.le_refl _)]
theorem cut_back (l : List Nat) (k : Nat) : cutS (mkS l) (some (k : Int)) none = mkS (l.drop k) := by
  unfold cutS
  rw [HT.sIx_nat, HT.sIx_none, mk_letters, mkS_len]
  rcases Nat.le_total k l.length with h | h
  · rw [Nat.min_eq_left h, List.take_of_length_le (by rw [List.length_drop]; exact Nat.le_refl _)]
  · rw [Nat.min_eq_right h, List.drop_eq_nil_of_le h, List.drop_eq_nil_of_le (Nat.le_refl _), List.take_nil]
theorem cut_init (l : List Nat) : cutS (mkS l) none (some (-1)) = mkS l.dropLast := by
  unfold cutS
  rw [neg_ix, HT.sIx_none, mk_letters, mkS_len, List.drop_zero, Nat.sub_zero, List.dropLast_eq_take]
theorem cut_mid (l : List Nat) {k : Nat} (hk : k ≤ l.length) : cutS (mkS l) (some (k : Int)) (some (-1)) = mkS (l.dropLast.drop k) := by
  unfold cutS
  rw [neg_ix, HT.sIx_nat, mk_letters, mkS_len, Nat.min_eq_left hk, List.dropLast_eq_take, List.drop_take]
theorem last_one : ∀ (l : List Nat), l.drop (l.length - 1) = l.getLast?.toList
  | [] => rfl
  | [c] => rfl
  | c :: d :: r => by
    have e := last_one (d :: r)
    rw [List.getLast?_cons_cons]
    rw [← e]
    have : (c :: d :: r).length - 1 = ((d :: r).length - 1) + 1 := by simp
    rw [this, List.drop_succ_cons]
theorem cut_last (l : List Nat) : cutS (mkS l) (some (-1)) none = mkS l.getLast?.toList := by
  unfold cutS
  rw [neg_ix, HT.sIx_none, mk_letters, mkS_len, last_one, List.take_of_length_le]
  · cases l with
    | nil => exact Nat.le_refl _
    | cons c r =>
      cases (c :: r).getLast? with
      | none => exact Nat.zero_le _
      | some d => show 1 ≤ _; simp
theorem last_is (l : List Nat) (c : Nat) : decide (cutS (mkS l) (some (-1)) none = mkS [c]) = (l.getLast? == some c) := by
  rw [cut_last, Bool.eq_iff_iff, decide_eq_true_iff, mk_inj]
  cases l.getLast? with
  | none => simp
  | some d => simp
theorem one_at (l : List Nat) (c i : Nat) : Builtin.Str.subAt (mkS l) (mkS [c]) i = (l[i]? == some c) := by
  rw [StrLaws.subAt_eq, mk_letters, mk_letters, mkS_len, List.length_singleton]
  have e : (l.drop i).take 1 = l[i]?.toList := by
    rcases Nat.lt_or_ge i l.length with h | h
    · rw [List.drop_eq_getElem_cons h, List.getElem?_eq_getElem h]
      rfl
    · rw [List.drop_eq_nil_of_le h, List.getElem?_eq_none h]
      rfl
  rw [e]
  cases l[i]? with
  | none => rfl
  | some d =>
    rw [Bool.eq_iff_iff, beq_iff_eq, beq_iff_eq]
    simp
theorem ends_is (l : List Nat) (c : Nat) : PySem.Txt.endswith (mkS l) (mkS [c]) = (l.getLast? == some c) := by
  unfold PySem.Txt.endswith
  rw [one_at, mkS_len, mkS_len, List.length_singleton, List.getLast?_eq_getElem?]
  cases l with
  | nil => rfl
  | cons d r =>
    have : decide (0 + 1 ≤ (d :: r).length) = true := decide_eq_true (by simp)
    rw [this, Bool.true_and]
theorem prefix_is (l : List Nat) (c : Nat) : PySem.Txt.removeprefix (mkS l) (mkS [c]) = mkS (if l.head? = some c then l.drop 1 else l) := by
  rw [PySem.StrLaws.removeprefix_eq, one_at, mkS_len, mkS_len, List.length_singleton, mk_letters]
  cases l with
  | nil => rfl
  | cons d r =>
    have : decide (0 + 1 ≤ (d :: r).length) = true := decide_eq_true (by simp)
    rw [this, Bool.true_and]
    by_cases h : d = c
    · subst h
      rw [if_pos (by simp), if_pos (show (d :: r).head? = some d from rfl)]
      show mkS _ = _
      rw [List.take_of_length_le (by simp)]
    · rw [if_neg (by simpa using h), if_neg (by simpa using h)]
/-- where a letter stands last -/
def LastC (l : List Nat) (c : Nat) (r : Int) : Prop := (r = -1 ∧ ∀ j < l.length, l.getD j 0 ≠ c) ∨ ∃ k : Nat, r = k ∧ k < l.length ∧ l.getD k 0 = c ∧ ∀ j, k < j → j < l.length → l.getD j 0 ≠ c
theorem rfind_is (l : List Nat) (c : Nat) : LastC l c (PySem.Txt.rfind (mkS l) (mkS [c])) := by
  have at_iff : ∀ i, PySem.StrLaws.At (mkS l) (mkS [c]) (mkS l).length i ↔ i < l.length ∧ l.getD i 0 = c := by
    intro i
    unfold PySem.StrLaws.At
    rw [one_at, mkS_len, mkS_len, List.length_singleton]
    constructor
    · rintro ⟨h1, h2⟩
      have h : i < l.length := h1
      refine ⟨h, ?_⟩
      rw [List.getElem?_eq_getElem h] at h2
      rw [List.getD_eq_getElem?_getD, List.getElem?_eq_getElem h]
      simpa using h2
    · rintro ⟨h, h2⟩
      refine ⟨h, ?_⟩
      rw [List.getD_eq_getElem?_getD, List.getElem?_eq_getElem h] at h2
      rw [List.getElem?_eq_getElem h]
      simpa using h2
  unfold PySem.Txt.rfind
  rcases PySem.StrLaws.last_spec (mkS l) (mkS [c]) with ⟨e, no⟩ | ⟨i, e, a, no⟩
  · rw [e]
    exact .inl ⟨rfl, fun j hj z => no j ((at_iff j).mpr ⟨hj, z⟩)⟩
  · rw [e]
    obtain ⟨h1, h2⟩ := (at_iff i).mp a
    exact .inr ⟨i, rfl, h1, h2, fun j hj hl z => no j hj ((at_iff j).mpr ⟨hl, z⟩)⟩
theorem max_at {b : List Nat} {p m : Int} (hp : LastC b 43 p) (hm : LastC b 45 m) : ((if m > p then m else p) < 1 ∧ IsAt b 0) ∨ ∃ k : Nat, 1 ≤ k ∧ (if m > p then m else p) = k ∧ IsAt b k := by
  have sg : ∀ j, b.getD j 0 ≠ 43 → b.getD j 0 ≠ 45 → signB (b.getD j 0) = false := by
    intro j h1 h2
    unfold signB
    rw [beq_eq_false_iff_ne.mpr h1, beq_eq_false_iff_ne.mpr h2]
    rfl
  have top : ∀ (k : Nat), k < b.length → signB (b.getD k 0) = true → (∀ j, k < j → j < b.length → b.getD j 0 ≠ 43 ∧ b.getD j 0 ≠ 45) → ∀ x : Int, x = k → (x < 1 ∧ IsAt b 0) ∨ ∃ k : Nat, 1 ≤ k ∧ x = k ∧ IsAt b k := by
    intro k hk hs hn x ex
    rcases Nat.eq_zero_or_pos k with rfl | k1
    · exact .inl ⟨by omega, .inl ⟨rfl, fun j j1 jl => sg j (hn j (by omega) jl).1 (hn j (by omega) jl).2⟩⟩
    · exact .inr ⟨k, k1, ex, .inr ⟨k1, hk, hs, fun j jk jl => sg j (hn j jk jl).1 (hn j jk jl).2⟩⟩
  rcases hp with ⟨rfl, np⟩ | ⟨i, rfl, li, ei, ni⟩ <;> rcases hm with ⟨rfl, nm⟩ | ⟨j, rfl, lj, ej, nj⟩
  · rw [if_neg (by decide)]
    exact .inl ⟨by decide, .inl ⟨rfl, fun x _ xl => sg x (np x xl) (nm x xl)⟩⟩
  · rw [if_pos (by omega)]
    exact top j lj (by rw [ej]; rfl) (fun x h1 h2 => ⟨np x h2, nj x h1 h2⟩) _ rfl
  · rw [if_neg (by omega)]
    exact top i li (by rw [ei]; rfl) (fun x h1 h2 => ⟨ni x h1 h2, nm x h2⟩) _ rfl
  · by_cases h : (j : Int) > i
    · rw [if_pos h]
      exact top j lj (by rw [ej]; rfl) (fun x h1 h2 => ⟨ni x (by omega) h2, nj x h1 h2⟩) _ rfl
    · rw [if_neg h]
      refine top i li (by rw [ei]; rfl) (fun x h1 h2 => ⟨ni x h1 h2, ?_⟩) _ rfl
      exact nj x (by omega) h2
/-! ### texts that are read back, and texts that are too long -/
def lets (n : Int) : List Nat := if n < 0 then 45 :: TL.numL n.natAbs else TL.numL n.natAbs
theorem dec_lets (n : Int) : decT n = mkS (lets n) := by
  have nat : ∀ m : Nat, decT (m : Int) = mkS (TL.numL m) := fun m => TL.ext_tl (by rw [TL.tl_mk]; exact TL.tl_num m)
  unfold lets
  by_cases h : n < 0
  · rw [if_pos h, ← neg_text h, show -n = ((n.natAbs : Nat) : Int) by omega, nat, show Str.ofString "-" = mkS [45] by decide +kernel, mk_app]
    rfl
  · rw [if_neg h]
    have := nat n.natAbs
    rwa [show ((n.natAbs : Nat) : Int) = n by omega] at this
theorem num_minus (m : Nat) : minusB (TL.numL m) = false := by
  unfold minusB
  rw [beq_eq_false_iff_ne]
  intro e
  exact TL.numL_free (n := m) (s := 45) (.inl (by decide)) (List.mem_of_mem_head? e)
theorem lets_digs (n : Int) : digsL (lets n) = TL.numL n.natAbs := by
  unfold digsL lets
  by_cases h : n < 0
  · rw [if_pos h, if_pos (by rfl)]
    rfl
  · rw [if_neg h, if_neg (by rw [num_minus]; decide)]
theorem lets_minus (n : Int) : minusB (lets n) = decide (n < 0) := by
  unfold lets
  by_cases h : n < 0
  · rw [if_pos h, decide_eq_true h]
    rfl
  · rw [if_neg h, decide_eq_false h, num_minus]
theorem read_lets {n : Int} (h : n.natAbs < 10 ^ 20) : readN (lets n) = some n := by
  have g : guardB (lets n) = true := by
    unfold guardB
    rw [lets_digs, Bool.and_eq_true]
    have l0 : (TL.numL n.natAbs).length ≠ 0 := fun e => TL.numL_ne n.natAbs (List.eq_nil_of_length_eq_zero e)
    refine ⟨decide_eq_true ⟨by omega, TL.numL_len (by decide) h⟩, List.all_eq_true.mpr fun c hc => decide_eq_true ?_⟩
    exact TL.numL_digits _ c hc
  have v : valN (lets n) = n := by
    unfold valN
    rw [lets_minus, lets_digs, TL.numL_val]
    by_cases z : n < 0
    · rw [if_pos (decide_eq_true z)]
      omega
    · rw [if_neg (by rw [decide_eq_false z]; decide)]
      omega
  have t := guard_text g
  rw [v] at t
  unfold readN
  rw [if_pos g, t.mp (dec_lets n), if_neg (by decide), v]
theorem lets_ne (n : Int) : lets n ≠ [] := by
  unfold lets
  split
  · exact fun e => by cases e
  · exact TL.numL_ne _
theorem num_sign {m j : Nat} (h : j < (TL.numL m).length) : signB ((TL.numL m).getD j 0) = false := by
  have : (TL.numL m).getD j 0 ∈ TL.numL m := by
    rw [List.getD_eq_getElem?_getD, List.getElem?_eq_getElem h]
    exact List.getElem_mem h
  have := TL.numL_digits m _ this
  unfold signB
  rw [beq_eq_false_iff_ne.mpr (by omega), beq_eq_false_iff_ne.mpr (by omega)]
  rfl
theorem lets_at (n : Int) : IsAt (lets n) 0 := by
  refine .inl ⟨rfl, fun j h1 h2 => ?_⟩
  revert h2
  unfold lets
  split
  · intro h2
    obtain ⟨i, rfl⟩ : ∃ i, j = i + 1 := ⟨j - 1, by omega⟩
    rw [List.getD_cons_succ]
    rw [List.length_cons] at h2
    exact num_sign (by omega)
  · exact fun h2 => num_sign h2
theorem lets_last (n : Int) : ¬ (lets n).getLast? = some 114 := by
  intro e
  have m := List.mem_of_getLast? e
  revert m
  unfold lets
  split
  · intro m
    rcases List.mem_cons.mp m with z | z
    · cases z
    · exact TL.numL_free (.inr (by decide)) z
  · exact fun m => TL.numL_free (.inr (by decide)) m
def pairL (a b : Int) : List Nat := if b = 0 then lets a else if a = 0 then lets b ++ [114] else lets a ++ (if 0 < b then [43] else []) ++ lets b ++ [114]
theorem pair_lets (a b : Int) : pairT a b = mkS (pairL a b) := by
  unfold pairT pairL sgT
  split
  · exact dec_lets a
  split
  · rw [dec_lets, r_S, mk_app]
  · split
    · rw [dec_lets, dec_lets, plus_S, r_S, mk_app, mk_app, mk_app]
    · rw [dec_lets, dec_lets, nil_S, r_S, mk_app, mk_app, mk_app]
theorem read_pairL {a b : Int} (ha : a.natAbs < 10 ^ 20) (hb : b.natAbs < 10 ^ 20) : readP (pairL a b) = some (a, b) := by
  unfold readP pairL
  by_cases b0 : b = 0
  · rw [if_pos b0, if_neg (lets_last a), read_lets ha, b0]
    rfl
  rw [if_neg b0]
  by_cases a0 : a = 0
  · rw [if_pos a0, if_pos (by simp), List.dropLast_concat, at_one (sgAt_is _) (lets_at b)]
    unfold resP
    rw [if_pos rfl, read_lets hb]
    dsimp only
    rw [if_neg b0, a0]
  rw [if_neg a0, if_pos (by simp), List.dropLast_concat]
  have la : (lets a).length ≠ 0 := fun e => lets_ne a (List.eq_nil_of_length_eq_zero e)
  -- the sign, and what stands behind it
  obtain ⟨c, m, e, sc⟩ : ∃ c m, (if 0 < b then [43] else []) ++ lets b = c :: TL.numL m ∧ ((c = 43 ∧ 0 < b ∧ lets b = TL.numL m) ∨ (c = 45 ∧ b < 0 ∧ lets b = 45 :: TL.numL m)) := by
    by_cases p : 0 < b
    · have : lets b = TL.numL b.natAbs := by unfold lets; rw [if_neg (by omega)]
      exact ⟨43, b.natAbs, by rw [if_pos p, this]; rfl, .inl ⟨rfl, p, this⟩⟩
    · have n : b < 0 := by omega
      have : lets b = 45 :: TL.numL b.natAbs := by unfold lets; rw [if_pos n]
      exact ⟨45, b.natAbs, by rw [if_neg p, this]; rfl, .inr ⟨rfl, n, this⟩⟩
  rw [List.append_assoc, e]
  have sg : signB c = true := by
    rcases sc with ⟨rfl, _⟩ | ⟨rfl, _⟩ <;> rfl
  have iA : IsAt (lets a ++ c :: TL.numL m) (lets a).length := by
    refine .inr ⟨by omega, by rw [List.length_append, List.length_cons]; omega, ?_, fun j h1 h2 => ?_⟩
    · rw [List.getD_eq_getElem?_getD, List.getElem?_append_right (Nat.le_refl _), Nat.sub_self]
      exact sg
    · rw [List.length_append, List.length_cons] at h2
      obtain ⟨i, rfl⟩ : ∃ i, j = (lets a).length + (i + 1) := ⟨j - (lets a).length - 1, by omega⟩
      rw [List.getD_eq_getElem?_getD, List.getElem?_append_right (by omega), Nat.add_sub_cancel_left, List.getElem?_cons_succ, ← List.getD_eq_getElem?_getD]
      exact num_sign (by omega)
  rw [at_one (sgAt_is _) iA]
  unfold resP
  rw [if_neg la, List.take_left', List.drop_left', read_lets ha]
  · rcases sc with ⟨rfl, p, eb⟩ | ⟨rfl, n, eb⟩
    · rw [if_pos (show (43 :: TL.numL m).head? = some 43 from rfl), List.drop_one, List.tail_cons, ← eb, read_lets hb]
      dsimp only
      rw [if_neg]
      rintro (z | z | z) <;> omega
    · rw [if_neg (by simp), ← eb, read_lets hb]
      dsimp only
      rw [if_neg]
      rintro (z | z | z)
      · omega
      · omega
      · rw [eb] at z
        cases z.1
  · rfl
  · rfl
theorem readN_short {z : List Nat} {n : Int} (h : readN z = some n) : z.length ≤ 21 := by
  unfold readN at h
  split at h
  · rename_i g
    exact guard_len g
  · cases h
theorem readP_short {z : List Nat} {p : Int × Int} (h : readP z = some p) : z.length ≤ 44 := by
  unfold readP at h
  split at h
  · rename_i e
    obtain ⟨b, rfl⟩ := List.getLast?_eq_some_iff.mp e
    rw [List.dropLast_concat] at h
    rw [List.length_append, List.length_singleton]
    unfold resP at h
    split at h
    · cases hn : readN b with
      | none =>
        rw [hn] at h
        cases h
      | some n =>
        have := readN_short hn
        omega
    · generalize sgAt b = k at h
      cases hm : readN (b.take k) with
      | none =>
        rw [hm] at h
        cases h
      | some m =>
        cases hn : readN (if (b.drop k).head? = some 43 then (b.drop k).drop 1 else b.drop k) with
        | none =>
          rw [hm, hn] at h
          cases h
        | some n =>
          have h1 := readN_short hm
          have h2 := readN_short hn
          rw [List.length_take] at h1
          split at h2
          · rw [List.length_drop, List.length_drop] at h2
            omega
          · rw [List.length_drop] at h2
            omega
  · cases hn : readN z with
    | none =>
      rw [hn] at h
      cases h
    | some n =>
      have := readN_short hn
      omega
theorem long_none {z : List Nat} (h : 44 < z.length) : readP z = none := by
  cases e : readP z with
  | none => rfl
  | some p =>
    have := readP_short e
    omega
/-! ### numbers that are read -/
/-- i not in range(lo, hi) -/
theorem op_notIn_rng {X : Cx} : OpR X (compareOp .NotIn) (fun x y H Q => ∃ i a lo hi, x = V.int i ∧ y = V.ref a ∧ H a = some (.rng lo hi) ∧ Q (.bl (!decide (lo ≤ i ∧ i < hi))) H) := by
  rintro pins s σ H x y v u Q I rx ry ⟨i, a, lo, hi, rfl, rfl, ha, q⟩
  obtain ⟨k, rfl⟩ := rx
  cases (show u = Value.ref a from ry)
  obtain ⟨t1, t2, t3, ho⟩ := I.hok a _ ha
  have rng : s.TypeIs (.ref a) "range" := ⟨_, ho, rfl⟩
  apply wpAny_bind
  apply wpAny_contains_slot rng F.slot_range_contains
  refine call_meets F.slot_range_contains rng F.entry_range_contains (F.args_range_contains_2 _ _) (q_contains a lo hi i t1 t2 t3 k) ⟨ho, ?_⟩
  refine wpAny_truthy_bool (wpAny_pure ⟨.bl _, H, I, rfl, ?_⟩)
  rw [place1]
  exact q
theorem dig_in (c : Nat) : decide (c ∈ (Str.ofString "0123456789").cps.toList) = digB c := by
  have e : (Str.ofString "0123456789").cps.toList = [48, 49, 50, 51, 52, 53, 54, 55, 56, 57] := by decide +kernel
  rw [e]
  unfold digB
  by_cases h : 48 ≤ c ∧ c ≤ 57
  · rw [decide_eq_true h, decide_eq_true]
    simp only [List.mem_cons, List.not_mem_nil, or_false]
    omega
  · rw [decide_eq_false h, decide_eq_false]
    simp only [List.mem_cons, List.not_mem_nil, or_false]
    omega
def optV : Option Int → V
  | none => .non
  | some n => .int n
section
variable {base : Heap} {K : PySem.W.Frag} {mg : Str → Option Value} {P : Program} {w : World}
theorem starts_minus (z : Str) : Txt.startswith z (Str.ofString "-") = minusB z.cps.toList := by
  unfold Txt.startswith minusB
  have e : (Str.ofString "-").cps.toList = [45] := by decide +kernel
  have l : (Str.ofString "-").length = 1 := by decide +kernel
  rw [StrLaws.subAt_eq, e, l, List.drop_zero, TL.len_tl]
  show (decide (0 + 1 ≤ z.cps.toList.length) && _) = _
  cases z.cps.toList with
  | nil => decide
  | cons c r =>
    have h : decide (0 + 1 ≤ (c :: r).length) = true := decide_eq_true (by simp)
    rw [h, Bool.true_and]
    simp
theorem cut_tail (z : Str) : cutS z (some 1) none = mkS (z.cps.toList.drop 1) := by
  unfold cutS
  rw [show (some (1 : Int)) = some ((1 : Nat) : Int) from rfl, HT.sIx_nat, HT.sIx_none]
  have hl : z.length = z.cps.toList.length := TL.len_tl z
  congr 2
  rw [hl]
  generalize z.cps.toList = l
  cases l with
  | nil => rfl
  | cons c r =>
    have : min 1 (c :: r).length = 1 := by rw [List.length_cons]; omega
    rw [this]
    exact List.take_of_length_le (by simp)
theorem digs_len (z : List Nat) : (digsL z).length ≤ z.length := by
  unfold digsL
  split
  · rw [List.length_drop]
    omega
  · exact Nat.le_refl _
theorem mk_self (z : Str) : mkS z.cps.toList = z := TL.mk_tl z
theorem dS {x y : Str} : decide (V.str x = V.str y) = decide (x = y) := by
  by_cases h : x = y
  · rw [h, decide_eq_true rfl, decide_eq_true rfl]
  · rw [decide_eq_false h, decide_eq_false fun z => h (V.str.inj z)]
def spReadN : Sp := fun vs H Q _ => ∃ z : Str, vs = [.str z] ∧ z.length ≤ 6000 ∧ ∀ H', Same H H' → Q (optV (readN z.cps.toList)) H'
theorem ok_read_number (T : Txt K mg) : FnOk P w K mg base CX0 1 T.f_read_number T.d_read_number ["text"] spReadN := by
  refine T.F_read_number.ok sc_read_number (fun vs H Q E h => ?_) (fun cdv A outer s H vs Q E hr h => ?_)
  · obtain ⟨z, rfl, _⟩ := h
    rfl
  · obtain ⟨z, rfl, hz, q⟩ := h
    refine ⟨_, (Evl.pss_cut (ps_set (i := 1) sc_read_number.nd rfl (Or.inl rfl) (pe_ifExp (pt_val (pe_m1 PySem.F.slot_str_startswith PySem.F.type_str_startswith mt_startswith (pv 0) pe_str)) (pe_slice sl_str (pv 0) (po_some pe_int) po_none) (pv 0)))
      (pss_cons (ps_if (PW.pt (pw_or (pt_cmpR op_notIn_rng (pe_callB call_len_str (by rfl) T.n_len (by decide +kernel) (pa_cons (pv 1) pa_nil)) (pe_callTy cr_range2 (by rfl) T.n_range (by decide +kernel) (pa_cons pe_int (pa_cons (pe_op op_add (pe_glob (v := .int (20)) (by rfl) T.g_MOST_DIGITS T.rv_MOST_DIGITS) pe_int) pa_nil))) (by rfl)) (pw_or1 (pt_not (pt_val (pe_callB (cr_all rfl) (by rfl) T.n_all (by decide +kernel) (pa_cons (pe_lc (own := [("digit", 3)]) (g := (gName 3)) (tt := tYes) (by rfl) sc_read_number.nd (pi_str (pv 1)) (blkOk_by (own := [("digit", 3)]) (N := ["text", "digits", "number", "digit"]) (sc := defScope s_read_number) (by decide +kernel)) (fun _ _ _ _ _ => (pg_name (i := 3) sc_read_number.nd rfl (Or.inl rfl))) (fun _ _ _ _ _ => pts_nil) (fun _ _ _ _ _ => (pe_cmpR op_in_sign (pv 3) pe_str (by rfl)))) pa_nil))))))) (pss_one (ps_ret pe_non)) pss_nil)
      (pss_cons (ps_set (i := 2) sc_read_number.nd rfl (Or.inl rfl) (pe_callTy call_int_str (by rfl) T.n_int (by decide +kernel) (pa_cons (pv 0) pa_nil)))
      (pss_one (ps_ret (pe_ifExp (pt_cmpR op_eq (pe_callTy call_str_int (by rfl) T.n_str (by decide +kernel) (pa_cons (pv 2) pa_nil)) (pv 0) (nomark _)) (pv 2) pe_non)))))), ?_⟩
    have hzl : z.cps.toList.length ≤ 6000 := by rw [← TL.len_tl]; exact hz
    have hz' : z.length ≤ sizeLine := by rw [sz_eq]; omega
    refine ⟨fun σ G => σ = [some (.str z), some (.str (mkS (digsL z.cps.toList))), none, none] ∧ G = H, ?_, ?_⟩
    · refine ⟨_, rfl, ⟨_, rfl⟩, z, _, rfl, rfl, _, rfl, ?_⟩
      rw [starts_minus]
      cases m : minusB z.cps.toList with
      | true =>
        refine iteT ⟨_, rfl, 1, rfl, z, rfl, hz', ?_, rfl⟩
        rw [cut_tail]
        unfold digsL
        rw [if_pos m]
        rfl
      | false =>
        refine iteF ⟨_, rfl, ?_, rfl⟩
        unfold digsL
        rw [if_neg (by rw [m]; decide), mk_self]
        rfl
    rintro σ G ⟨rfl, rfl⟩
    have dl := digs_len z.cps.toList
    have hd : (mkS (digsL z.cps.toList)).length ≤ sizeLine := by rw [mkS_len, sz_eq]; omega
    unfold readN at q
    refine ⟨_, rfl, _, rfl, hd, 20, 1, rfl, rfl, 1, 21, rfl, fun p np => ⟨_, p, 1, 21, rfl, rfl, upd_same, _, rfl, ?_⟩⟩
    have s1 := same_new (o := .rng 1 21) np
    have el : ((mkS (digsL z.cps.toList)).length : Int) = ((digsL z.cps.toList).length : Int) := by rw [mkS_len]
    by_cases g1 : 1 ≤ ((mkS (digsL z.cps.toList)).length : Int) ∧ ((mkS (digsL z.cps.toList)).length : Int) < 21
    · rw [decide_eq_true g1]
      refine iteF ⟨_, rfl, _, rfl, fun L nL => lc_it walk_str (fun i X => Same G X ∧ X L = some (.lst (((digsL z.cps.toList).take i |>.map digB).map V.bl))) ⟨s1.trans (same_new nL), upd_same⟩ (fun _ _ _ _ => trivial) ?_ ?_⟩
      · rintro i x X X' hi ⟨sX, hL⟩ ⟨rfl, c, hc, rfl⟩
        refine ⟨rfl, _, rfl, c, _, rfl, rfl, _, hL, ?_, fun a o zz => (upd_ne (ne_of_none zz (s1.free nL))).trans (sX _ _ zz), ?_⟩
        · rw [List.length_map, List.length_map, List.length_take]
          exact Nat.lt_of_le_of_lt (Nat.min_le_right _ _) (by rw [sz_eq]; omega)
        · have e : (digsL z.cps.toList)[i]? = some c := by simpa using hc
          rw [upd_same, dig_in, List.take_succ, e, List.map_append, List.map_append]
          rfl
      · rintro X ⟨sX, hL⟩
        have en : (mkS (digsL z.cps.toList)).cps.size = (digsL z.cps.toList).length := by simp
        rw [en, List.take_length] at hL
        refine ⟨L, _, rfl, SqL.of hL, _, rfl, ?_⟩
        have ga : guardB z.cps.toList = ((digsL z.cps.toList).map digB).all id := by
          unfold guardB
          rw [decide_eq_true (by rw [el] at g1; omega), Bool.true_and, List.all_map]
          rfl
        rw [← ga]
        cases g : guardB z.cps.toList with
        | false =>
          rw [g, if_neg (by decide)] at q
          exact iteT (q _ sX)
        | true =>
          rw [g, if_pos rfl] at q
          have vb := guard_bd g
          have e64 : (valN z.cps.toList).natAbs < 10 ^ 64 := by omega
          have ml := guard_len g
          refine iteF ⟨_, rfl, z, valN z.cps.toList, rfl, by rw [← mk_self z]; exact guard_int g, by rw [TL.len_tl]; show z.cps.toList.length ≤ 640; omega, ?_⟩
          refine ⟨_, rfl, _, rfl, (text_len e64).1, _, rfl, rfl, _, rfl, ?_⟩
          rw [show Str.ofString (toString (valN z.cps.toList)) = decT (valN z.cps.toList) from rfl, dS]
          have gt := guard_text g
          rw [mk_self] at gt
          cases zb : zeroB z.cps.toList with
          | false =>
            rw [decide_eq_true (gt.mpr zb)]
            rw [zb, if_neg (by decide)] at q
            exact iteT ⟨_, rfl, q _ sX⟩
          | true =>
            rw [decide_eq_false fun e => by rw [gt.mp e] at zb; cases zb]
            rw [zb, if_pos rfl] at q
            exact iteF (q _ sX)
    · rw [decide_eq_false g1]
      have g : guardB z.cps.toList = false := by
        unfold guardB
        rw [decide_eq_false (by rw [el] at g1; omega), Bool.false_and]
      rw [g, if_neg (by decide)] at q
      exact iteT (iteT (q _ s1))
theorem cut_head (z : Str) : cutS z none (some 1) = mkS (z.cps.toList.take 1) := by
  unfold cutS
  rw [show (some (1 : Int)) = some ((1 : Nat) : Int) from rfl, HT.sIx_nat, HT.sIx_none, List.drop_zero, Nat.sub_zero]
  have hl : z.length = z.cps.toList.length := TL.len_tl z
  congr 2
  rw [hl]
  generalize z.cps.toList = l
  cases l with
  | nil => rfl
  | cons c r => rw [show min 1 (c :: r).length = 1 by rw [List.length_cons]; omega]
theorem first_is (z : Str) (c : Nat) : decide (cutS z none (some 1) = mkS [c]) = (z.cps.toList.head? == some c) := by
  rw [cut_head]
  have inj : ∀ {a b : List Nat}, mkS a = mkS b ↔ a = b := fun {a b} => ⟨fun e => by have := congrArg TL.tl e; rwa [TL.tl_mk, TL.tl_mk] at this, fun e => by rw [e]⟩
  rw [Bool.eq_iff_iff, decide_eq_true_iff, inj]
  cases z.cps.toList with
  | nil => simp
  | cons d r => simp
theorem minus_S : Str.ofString "-" = mkS [45] := by decide +kernel
theorem zero_S : Str.ofString "0" = mkS [48] := by decide +kernel
theorem ok_number_read (T : Txt K mg) : FnOk P w K mg base CX0 1 T.f_number_read T.d_number_read ["_law_word"] spReadN := by
  refine T.F_number_read.ok sc_number_read (fun vs H Q E h => ?_) (fun cdv A outer s H vs Q E hr h => ?_)
  · obtain ⟨z, rfl, _⟩ := h
    rfl
  · obtain ⟨z, rfl, hz, q⟩ := h
    refine ⟨_, (Evl.pss_cut (ps_set (i := 1) sc_number_read.nd rfl (Or.inl rfl) (pe_ifExp (pt_cmpR op_eq (pe_slice sl_str (pv 0) po_none (po_some pe_int)) pe_str (nomark _)) (pe_slice sl_str (pv 0) (po_some pe_int) po_none) (pv 0)))
      (pss_cons (ps_if (PW.pt (pw_or (pt_not (pt_chain op_le op_le pe_int (pe_callB call_len_str (by rfl) T.n_len (by decide +kernel) (pa_cons (pv 1) pa_nil)) pe_int)) (pw_or1 (pt_not (pt_val (pe_callB (cr_all rfl) (by rfl) T.n_all (by decide +kernel) (pa_cons (pe_lc (own := [("_law_sign_z", 2)]) (g := (gName 2)) (tt := tYes) (by rfl) sc_number_read.nd (pi_str (pv 1)) (blkOk_by (own := [("_law_sign_z", 2)]) (N := ["_law_word", "_law_digits", "_law_sign_z"]) (sc := defScope s_number_read) (by decide +kernel)) (fun _ _ _ _ _ => (pg_name (i := 2) sc_number_read.nd rfl (Or.inl rfl))) (fun _ _ _ _ _ => pts_nil) (fun _ _ _ _ _ => (pe_cmpR op_in_sign (pv 2) pe_str (by rfl)))) pa_nil))))))) (pss_one (ps_ret pe_non)) pss_nil)
      (pss_cons (ps_if (PW.pt (pw_and (pt_cmpR op_eq (pe_slice sl_str (pv 1) po_none (po_some pe_int)) pe_str (nomark _)) (pw_and1 (pt_cmpR op_ne (pv 0) pe_str (nomark _))))) (pss_one (ps_ret pe_non)) pss_nil)
      (pss_one (ps_ret (pe_callTy call_int_str (by rfl) T.n_int (by decide +kernel) (pa_cons (pv 0) pa_nil))))))), ?_⟩
    have hzl : z.cps.toList.length ≤ 6000 := by rw [← TL.len_tl]; exact hz
    have hz' : z.length ≤ sizeLine := by rw [sz_eq]; omega
    refine ⟨fun σ G => σ = [some (.str z), some (.str (mkS (digsL z.cps.toList))), none] ∧ G = H, ?_, ?_⟩
    · refine ⟨_, rfl, 1, rfl, z, rfl, hz', rfl, _, rfl, ?_⟩
      have fi : decide (cutS z none (some 1) = mkS [45]) = minusB z.cps.toList := first_is z 45
      rw [dS, minus_S, fi]
      cases m : minusB z.cps.toList with
      | true =>
        refine iteT ⟨_, rfl, 1, rfl, z, rfl, hz', ?_, rfl⟩
        rw [cut_tail]
        unfold digsL
        rw [if_pos m]
        rfl
      | false =>
        refine iteF ⟨_, rfl, ?_, rfl⟩
        unfold digsL
        rw [if_neg (by rw [m]; decide), mk_self]
        rfl
    rintro σ G ⟨rfl, rfl⟩
    have dl := digs_len z.cps.toList
    have hd : (mkS (digsL z.cps.toList)).length ≤ sizeLine := by rw [mkS_len, sz_eq]; omega
    unfold readN at q
    have el : ((mkS (digsL z.cps.toList)).length : Int) = ((digsL z.cps.toList).length : Int) := by rw [mkS_len]
    refine ⟨_, rfl, _, rfl, hd, 1, _, rfl, rfl, _, rfl, ?_⟩
    have bad : ¬ (1 ≤ ((mkS (digsL z.cps.toList)).length : Int) ∧ ((mkS (digsL z.cps.toList)).length : Int) ≤ 20) → ∀ X, Same G X → Q .non X := by
      intro g1 X sX
      have g : guardB z.cps.toList = false := by
        unfold guardB
        rw [decide_eq_false (by rw [el] at g1; omega), Bool.false_and]
      rw [g, if_neg (by decide)] at q
      exact q _ sX
    by_cases h1 : 1 ≤ ((mkS (digsL z.cps.toList)).length : Int)
    · rw [decide_eq_true h1]
      refine iteT ⟨_, 20, rfl, rfl, _, rfl, ?_⟩
      by_cases h2 : ((mkS (digsL z.cps.toList)).length : Int) ≤ 20
      · rw [decide_eq_true h2]
        refine iteF ⟨_, rfl, _, rfl, fun L nL => lc_it walk_str (fun i X => Same G X ∧ X L = some (.lst (((digsL z.cps.toList).take i |>.map digB).map V.bl))) ⟨same_new nL, upd_same⟩ (fun _ _ _ _ => trivial) ?_ ?_⟩
        · rintro i x X X' hi ⟨sX, hL⟩ ⟨rfl, c, hc, rfl⟩
          refine ⟨rfl, _, rfl, c, _, rfl, rfl, _, hL, ?_, fun a o zz => (upd_ne (ne_of_none zz nL)).trans (sX _ _ zz), ?_⟩
          · rw [List.length_map, List.length_map, List.length_take]
            exact Nat.lt_of_le_of_lt (Nat.min_le_right _ _) (by rw [sz_eq]; omega)
          · have e : (digsL z.cps.toList)[i]? = some c := by simpa using hc
            rw [upd_same, dig_in, List.take_succ, e, List.map_append, List.map_append]
            rfl
        · rintro X ⟨sX, hL⟩
          have en : (mkS (digsL z.cps.toList)).cps.size = (digsL z.cps.toList).length := by simp
          rw [en, List.take_length] at hL
          refine ⟨L, _, rfl, SqL.of hL, _, rfl, ?_⟩
          have ga : guardB z.cps.toList = ((digsL z.cps.toList).map digB).all id := by
            unfold guardB
            rw [decide_eq_true (by rw [el] at h1 h2; omega), Bool.true_and, List.all_map]
            rfl
          rw [← ga]
          cases g : guardB z.cps.toList with
          | false =>
            rw [g, if_neg (by decide)] at q
            exact iteT (q _ sX)
          | true =>
            rw [g, if_pos rfl] at q
            have ml := guard_len g
            refine iteF ⟨_, rfl, 1, rfl, _, rfl, hd, rfl, _, rfl, ?_⟩
            have fi : decide (cutS (mkS (digsL z.cps.toList)) none (some 1) = mkS [48]) = ((digsL z.cps.toList).head? == some 48) := first_is (mkS (digsL z.cps.toList)) 48
            rw [dS, zero_S, fi]
            have ret : zeroB z.cps.toList = false → tRet (tCB (fun xs H Q => ∃ a n, xs = [.str a] ∧ PySem.intText? a = some n ∧ a.length ≤ 640 ∧ Q (.int n) H) (tCons (tVar 0) tNil)) { nx := fun _ H' => Q .non H', rt := Q } [some (.str z), some (.str (mkS (digsL z.cps.toList))), none] X := by
              intro zb
              rw [zb, if_neg (by decide)] at q
              exact ⟨_, rfl, z, valN z.cps.toList, rfl, by rw [← mk_self z]; exact guard_int g, by rw [TL.len_tl]; show z.cps.toList.length ≤ 640; omega, q _ sX⟩
            cases hh : ((digsL z.cps.toList).head? == some 48) with
            | false => exact iteF (iteF (ret (by unfold zeroB; rw [hh, Bool.false_and])))
            | true =>
              refine iteT ⟨_, rfl, rfl, _, rfl, ?_⟩
              rw [dS]
              by_cases e0 : z = mkS [48]
              · rw [decide_eq_true e0]
                exact iteF (ret (by unfold zeroB; rw [e0]; rfl))
              · rw [decide_eq_false e0]
                have : zeroB z.cps.toList = true := by
                  unfold zeroB
                  rw [hh, Bool.true_and, Bool.not_eq_true', beq_eq_false_iff_ne]
                  intro e
                  exact e0 (by rw [← mk_self z, e])
                rw [this, if_pos rfl] at q
                exact iteT (q _ sX)
      · rw [decide_eq_false h2]
        exact iteT (bad (fun z => h2 z.2) _ (Same.refl _))
    · rw [decide_eq_false h1]
      exact iteF ⟨_, rfl, iteT (bad (fun z => h1 z.1) _ (Same.refl _))⟩
end
/-! ### two numbers that are read -/
section
variable {base : Heap} {K : PySem.W.Frag} {mg : Str → Option Value} {P : Program} {w : World}
def spReadNs (K : PySem.W.Frag) : Sp := fun vs H Q _ => ∃ (t : Addr) (a b : Str), vs = [.ref t] ∧ SqT K H t [.str a, .str b] ∧ a.length ≤ 6000 ∧ b.length ≤ 6000 ∧
  (∀ H', Same H H' → (readN a.cps.toList = none ∨ readN b.cps.toList = none) → Q .non H') ∧ ∀ m n p H', readN a.cps.toList = some m → readN b.cps.toList = some n → Same H H' → H' p = some (.tup [.int m, .int n]) → Q (.ref p) H'
theorem opt_flat (o : Option Int) : flatV (optV o) = true := by cases o <;> rfl
theorem ok_read_numbers (T : Txt K mg) : FnOk P w K mg base CX0 2 T.f_read_numbers T.d_read_numbers ["texts"] (spReadNs K) := by
  refine T.F_read_numbers.ok sc_read_numbers (fun vs H Q E h => ?_) (fun cdv A outer s H vs Q E hr h => ?_)
  · obtain ⟨t, a, b, rfl, _⟩ := h
    rfl
  · obtain ⟨t, a, b, rfl, hT, la, lb, q1, q2⟩ := h
    refine ⟨_, (pss_cons (ps_set (i := 1) sc_read_numbers.nd rfl (Or.inl rfl) (pe_callTy call_tuple_of (by rfl) T.n_tuple (by decide +kernel) (pa_cons (pe_lc (own := [("text", 2)]) (g := (gName 2)) (tt := tYes) (te := tCall spReadN [] E0 (tCons (tVar 2) tNil)) (by rfl) sc_read_numbers.nd (pi_tup (pv 0)) (blkOk_by (own := [("text", 2)]) (N := ["texts", "numbers", "text"]) (sc := defScope s_read_numbers) (by decide +kernel)) (fun _ _ _ _ _ => (pg_name (i := 2) sc_read_numbers.nd rfl (Or.inl rfl))) (fun _ _ _ _ _ => pts_nil) (fun _ _ _ _ _ => (pe_call (ok_read_number T) (hr.mono (by decide)) (by rfl) T.g_read_number T.F_read_number.kp T.b_read_number .nil pass0 (pa_cons (pv 2) pa_nil)))) pa_nil)))
      (pss_one (ps_ret (pe_ifExp (pt_cmpR op_in_seq pe_non (pv 1) (by rfl)) pe_non (pv 1))))), ?_⟩
    refine ⟨_, rfl, t, rfl, ⟨_, hT⟩, fun L nL => lc_tup (K := K) (a := t) (xs := [.str a, .str b]) (fun i G => Same H G ∧ G L = some (.lst (([a, b].take i).map fun z => optV (readN z.cps.toList)))) ⟨same_new nL, upd_same⟩ (fun i G _ z => Evl.ex_t z.1 hT) ?_ ?_⟩
    · rintro i x G hx ⟨sG, hG⟩
      obtain ⟨z, rfl, lz, hz⟩ : ∃ z : Str, x = .str z ∧ z.length ≤ 6000 ∧ [a, b][i]? = some z := by
        match i, hx with
        | 0, hx => cases hx; exact ⟨a, rfl, la, rfl⟩
        | 1, hx => cases hx; exact ⟨b, rfl, lb, rfl⟩
        | n + 2, hx => simp at hx
      refine ⟨rfl, _, rfl, z, rfl, lz, fun H4 s4 => ⟨_, s4 _ _ hG, ?_, fun a' o zz => (upd_ne (ne_of_none zz nL)).trans (s4 _ _ (sG _ _ zz)), ?_⟩⟩
      · rw [List.length_map, List.length_take]
        exact small1000 (show min i 2 ≤ 1000 from Nat.le_trans (Nat.min_le_right _ _) (by decide))
      · rw [upd_same, List.take_succ, hz, List.map_append]
        rfl
    · rintro G ⟨sG, hG⟩
      have hG' : G L = some (.lst [optV (readN a.cps.toList), optV (readN b.cps.toList)]) := hG
      refine ⟨L, _, rfl, .inl ⟨SqL.of hG', fun p np => ?_⟩⟩
      have e := same_new (o := .tup [optV (readN a.cps.toList), optV (readN b.cps.toList)]) np
      refine ⟨_, rfl, p, [optV (readN a.cps.toList), optV (readN b.cps.toList)], rfl, .inr (SqT.of upd_same), rfl, ?_, ?_⟩
      · simp [opt_flat]
      · cases ha : readN a.cps.toList with
        | none =>
          rw [ha] at e
          exact ⟨true, rfl, iteT (q1 _ (sG.trans e) (.inl ha))⟩
        | some m =>
          cases hb : readN b.cps.toList with
          | none =>
            rw [ha, hb] at e
            exact ⟨true, rfl, iteT (q1 _ (sG.trans e) (.inr hb))⟩
          | some n =>
            rw [ha, hb] at e
            exact ⟨false, rfl, iteF ⟨_, rfl, q2 m n p _ ha hb (sG.trans e) upd_same⟩⟩
end
/-! ### pairs that are read -/
section
variable {base : Heap} {K : PySem.W.Frag} {mg : Str → Option Value} {P : Program} {w : World}
def spReadP : Sp := fun vs H Q _ => ∃ l : List Nat, vs = [.str (mkS l)] ∧ l.length ≤ 5900 ∧
  (∀ H', Same H H' → readP l = none → Q .non H') ∧ ∀ m n p H', readP l = some (m, n) → Same H H' → H' p = some (.tup [.int m, .int n]) → Q (.ref p) H'
theorem ok_read_pair (T : Txt K mg) : FnOk P w K mg base CX0 4 T.f_read_pair T.d_read_pair ["text"] spReadP := by
  refine T.F_read_pair.ok sc_read_pair (fun vs H Q E h => ?_) (fun cdv A outer s H vs Q E hr h => ?_)
  · obtain ⟨l, rfl, _⟩ := h
    rfl
  · obtain ⟨l, rfl, hl, q1, q2⟩ := h
    refine ⟨_, (pss_cons (ps_if (pt_not (pt_val (pe_m1 PySem.F.slot_str_endswith PySem.F.type_str_endswith mt_endswith (pv 0) pe_str))) (pss_one (ps_ret (pe_call (ok_read_numbers T) (hr.mono (by decide)) (by rfl) T.g_read_numbers T.F_read_numbers.kp T.b_read_numbers .nil pass0 (pa_cons (pe_tup (pa_cons (pv 0) (pa_cons pe_str pa_nil))) pa_nil)))) pss_nil)
      (pss_cons (ps_set (i := 1) sc_read_pair.nd rfl (Or.inl rfl) (pe_slice sl_str (pv 0) po_none (po_some (pe_un un_neg pe_int))))
      (pss_cons (ps_set (i := 2) sc_read_pair.nd rfl (Or.inl rfl) (pe_callB (call_max2 rfl) (by rfl) T.n_max (by decide +kernel) (pa_cons (pe_m1 PySem.F.slot_str_rfind PySem.F.type_str_rfind mt_rfind (pv 1) pe_str) (pa_cons (pe_m1 PySem.F.slot_str_rfind PySem.F.type_str_rfind mt_rfind (pv 1) pe_str) pa_nil))))
      (Evl.pss_cut (ps_if (pt_cmpR op_lt (pv 2) pe_int (nomark _)) (pss_one (ps_set (i := 3) sc_read_pair.nd rfl (Or.inl rfl) (pe_call (ok_read_numbers T) (hr.mono (by decide)) (by rfl) T.g_read_numbers T.F_read_numbers.kp T.b_read_numbers .nil pass0 (pa_cons (pe_tup (pa_cons pe_str (pa_cons (pv 1) pa_nil))) pa_nil)))) (pss_one (ps_set (i := 3) sc_read_pair.nd rfl (Or.inl rfl) (pe_call (ok_read_numbers T) (hr.mono (by decide)) (by rfl) T.g_read_numbers T.F_read_numbers.kp T.b_read_numbers .nil pass0 (pa_cons (pe_tup (pa_cons (pe_slice sl_str (pv 1) po_none (po_some (pv 2))) (pa_cons (pe_m1 PySem.F.slot_str_removeprefix PySem.F.type_str_removeprefix mt_removeprefix (pe_slice sl_str (pv 1) (po_some (pv 2)) po_none) pe_str) pa_nil))) pa_nil)))))
      (pss_one (ps_ret (pe_ifExp (PW.pt (pw_and (pt_cmpR op_notN (pv 3) pe_non (nomark _)) (pw_and1 (pt_cmpR op_eq (pe_call (ok_pair_text T) (hr.mono (by decide)) (by rfl) T.g_pair_text T.F_pair_text.kp T.b_pair_text .nil pass0 (pa_cons (pv 3) pa_nil)) (pv 0) (nomark _))))) (pv 3) pe_non))))))), ?_⟩
    have hs : (mkS l).length ≤ sizeLine := by rw [mkS_len, sz_eq]; omega
    have zr : readN [48] = some 0 := by decide +kernel
    refine ⟨_, rfl, ⟨_, rfl⟩, mkS l, _, rfl, rfl, _, rfl, ?_⟩
    rw [r_S, ends_is]
    unfold readP at q1 q2
    cases hr' : (l.getLast? == some 114) with
    | false =>
      have ne : ¬ l.getLast? = some 114 := by simpa using hr'
      rw [if_neg ne] at q1 q2
      refine iteT ⟨_, rfl, small1000 (show 1 ≤ 1000 by decide), fun t nt => ?_⟩
      have s1 := same_new (o := .tup [.str (mkS l), .str (Str.ofString "0")]) nt
      refine ⟨t, mkS l, Str.ofString "0", rfl, SqT.of upd_same, by rw [mkS_len]; omega, by decide +kernel, fun H' e hn => q1 _ (s1.trans e) ?_, fun m n p H' hm hn e hp => q2 m n p _ ?_ (s1.trans e) hp⟩
      · rw [zero_S, mk_letters, mk_letters, zr] at hn
        rcases hn with hn | hn
        · rw [hn]
          rfl
        · cases hn
      · rw [mk_letters] at hm
        rw [zero_S, mk_letters, zr] at hn
        cases hn
        rw [hm]
        rfl
    | true =>
      have ye : l.getLast? = some 114 := by simpa using hr'
      rw [if_pos ye] at q1 q2
      obtain ⟨b, rfl⟩ := List.getLast?_eq_some_iff.mp ye
      rw [List.dropLast_concat] at q1 q2
      rw [List.length_append] at hl
      have hb : (mkS b).length ≤ sizeLine := by rw [mkS_len, sz_eq]; omega
      have e0 : cutS (mkS (b ++ [114])) none (some (-1)) = mkS b := by rw [cut_init, List.dropLast_concat]
      refine iteF ⟨_, rfl, 1, rfl, -1, rfl, _, rfl, hs, ?_⟩
      rw [e0]
      refine ⟨_, rfl, ⟨_, rfl⟩, mkS b, _, rfl, rfl, _, rfl, ⟨_, rfl⟩, mkS b, _, rfl, rfl, _, _, rfl, ?_⟩
      have fp := rfind_is b 43
      have fm := rfind_is b 45
      rw [← plus_S] at fp
      rw [← minus_S] at fm
      have mx := max_at fp fm
      generalize Txt.rfind (mkS b) (Str.ofString "+") = ip at *
      generalize Txt.rfind (mkS b) (Str.ofString "-") = im at *
      generalize (if im > ip then im else ip) = x at *
      -- what was read
      obtain ⟨k, hk, ia⟩ : ∃ k : Nat, ((x < 1 ∧ k = 0) ∨ (1 ≤ k ∧ x = k)) ∧ IsAt b k := by
        rcases mx with ⟨h1, h2⟩ | ⟨k, h1, h2, h3⟩
        · exact ⟨0, .inl ⟨h1, rfl⟩, h2⟩
        · exact ⟨k, .inr ⟨h1, h2⟩, h3⟩
      rw [at_one (sgAt_is b) ia, ← prog_res ia] at q1 q2
      unfold progP at q1 q2
      refine ⟨fun σ G => Same H G ∧ ∃ v, σ = [some (.str (mkS (b ++ [114]))), some (.str (mkS b)), some (.int x), some v] ∧
        ((v = .non ∧ ((if k = 0 then readN [48] else readN (b.take k)) = none ∨ readN (if k = 0 then b else if (b.drop k).head? = some 43 then (b.drop k).drop 1 else b.drop k) = none)) ∨
         ∃ m n p, v = .ref p ∧ (if k = 0 then readN [48] else readN (b.take k)) = some m ∧ readN (if k = 0 then b else if (b.drop k).head? = some 43 then (b.drop k).drop 1 else b.drop k) = some n ∧ G p = some (.tup [.int m, .int n])), ?_, ?_⟩
      · refine ⟨_, rfl, x, 1, rfl, rfl, _, rfl, ?_⟩
        rcases hk with ⟨x1, rfl⟩ | ⟨k1, rfl⟩
        · rw [decide_eq_true x1]
          refine iteT ⟨_, rfl, small1000 (show 1 ≤ 1000 by decide), fun t nt => ?_⟩
          have s1 := same_new (o := .tup [.str (Str.ofString "0"), .str (mkS b)]) nt
          refine ⟨t, Str.ofString "0", mkS b, rfl, SqT.of upd_same, by decide +kernel, by rw [mkS_len]; omega, fun H' e hn => ⟨s1.trans e, _, rfl, .inl ⟨rfl, ?_⟩⟩, fun m n p H' hm hn e hp => ⟨s1.trans e, _, rfl, .inr ⟨m, n, p, rfl, ?_, ?_, hp⟩⟩⟩
          · rw [zero_S] at hn
            exact hn
          · rw [zero_S] at hm
            exact hm
          · exact hn
        · have k0 : k ≠ 0 := by omega
          rw [decide_eq_false (show ¬ ((k : Int) < 1) by omega)]
          refine iteF ⟨_, rfl, _, rfl, _, rfl, mkS b, rfl, hb, _, rfl, _, rfl, _, rfl, mkS b, rfl, hb, ⟨_, rfl⟩, _, _, rfl, rfl, ?_, ?_⟩
          · rw [cut_back, mkS_len, List.length_drop, sz_eq]
            omega
          rw [cut_front, cut_back, plus_S, prefix_is]
          refine ⟨small1000 (show 1 ≤ 1000 by decide), fun t nt => ?_⟩
          have s1 := same_new (o := .tup [.str (mkS (b.take k)), .str (mkS (if (b.drop k).head? = some 43 then (b.drop k).drop 1 else b.drop k))]) nt
          rw [if_neg k0, if_neg k0]
          have ld : (if (b.drop k).head? = some 43 then (b.drop k).drop 1 else b.drop k).length ≤ 6000 := by
            split
            · rw [List.length_drop, List.length_drop]
              omega
            · rw [List.length_drop]
              omega
          refine ⟨t, mkS (b.take k), mkS _, rfl, SqT.of upd_same, by rw [mkS_len, List.length_take]; omega, by rw [mkS_len]; exact ld, fun H' e hn => ⟨s1.trans e, _, rfl, .inl ⟨rfl, hn⟩⟩, fun m n p H' hm hn e hp => ⟨s1.trans e, _, rfl, .inr ⟨m, n, p, rfl, hm, hn, hp⟩⟩⟩
      · rintro σ G ⟨sG, v, rfl, ⟨rfl, no⟩ | ⟨m, n, p, rfl, hm, hn, hp⟩⟩
        · refine ⟨_, rfl, rfl, _, rfl, iteF (q1 _ sG ?_)⟩
          rcases no with z | z
          · rw [z]
          · rw [z]
            split <;> first | rfl | (rename_i h; cases h)
        · rw [hm, hn] at q1 q2
          dsimp only at q1 q2
          have bm : m.natAbs < 10 ^ 64 := by
            by_cases k0 : k = 0
            · rw [if_pos k0, zr] at hm
              cases hm
              decide
            · rw [if_neg k0] at hm
              have := (readN_text hm).2
              omega
          have bn : n.natAbs < 10 ^ 64 := by
            have := (readN_text hn).2
            omega
          refine ⟨_, rfl, rfl, _, rfl, iteT ⟨_, rfl, p, m, n, rfl, SqT.of hp, bm, bn, fun H2 e2 => ⟨_, rfl, rfl, _, rfl, ?_⟩⟩⟩
          rw [dS]
          by_cases e : pairT m n = mkS (b ++ [114])
          · rw [decide_eq_true e]
            exact iteT ⟨_, rfl, q2 m n p _ (by rw [if_pos e]) (sG.trans e2) (e2 _ _ hp)⟩
          · rw [decide_eq_false e]
            exact iteF (q1 _ (sG.trans e2) (by rw [if_neg e]))
end
/-! ### texts that must be pairs -/
def Throws (C : Addr) (fs : List (Str × V)) (H : Hp) (E : XK) : Prop := ∀ x Hf, H x = none → Same H Hf → Hf x = some (.xd fs) → E (.ref C) (some x) Hf
theorem Throws.up {C : Addr} {fs : List (Str × V)} {H H1 : Hp} {E : XK} (h : Throws C fs H E) (s : Same H H1) : Throws C fs H1 E := fun x Hf hx s1 f1 => h x Hf (s.free hx) (s.trans s1) f1
def badText : List (Str × V) := [("at", .int 0), ("word", .str "BadText")]
section
variable {base : Heap} {K : PySem.W.Frag} {mg : Str → Option Value} {w : World}
def spFoundT (T : Txt K mg) : Sp := fun vs H Q E => ∃ v : V, vs = [v] ∧ (v ≠ .non → Q v H) ∧ (v = .non → Throws T.e_BadText.C badText H E)
theorem ok_found_in_text (T : Txt K mg) : FnOk PySem.Challenge.pw_grainyard_k63_texts_of_pairs w K mg base (L2.CX PySem.Challenge.pw_grainyard_k63_texts_of_pairs w) 3 T.f_found_in_text T.d_found_in_text ["item"] (spFoundT T) := by
  refine T.F_found_in_text.okX sc_found_in_text (fun vs H Q E h => ?_) (fun cdv A outer s H vs Q E hr h => ?_)
  · obtain ⟨v, rfl, _⟩ := h
    rfl
  · obtain ⟨v, rfl, q1, q2⟩ := h
    refine ⟨_, (pss_cons (ps_if (pt_cmpR op_isN (pv 0) pe_non (nomark _)) (pss_one (ps_raise rfl (takes_of rfl rfl rfl rfl) (pmk_oex (oex_of T.e_BadText) T.e_BadText.iC T.e_BadText.tI (ini_BadText T) (hr.mono (by decide)) (bi_BadText T) .nil pass0 (by rfl) T.e_BadText.g (pa_cons pe_int pa_nil)))) pss_nil)
      (pss_one (ps_ret (pv 0)))), ?_⟩
    refine ⟨_, rfl, rfl, _, rfl, ?_⟩
    by_cases e : v = .non
    · rw [decide_eq_true e]
      exact iteT (mk_use rfl (by decide) fun d Hf hd s1 f1 => q2 e d Hf hd s1 f1)
    · rw [decide_eq_false e]
      exact iteF ⟨_, rfl, q1 e⟩
def spParse (T : Txt K mg) : Sp := fun vs H Q E => ∃ l : List Nat, vs = [.str (mkS l)] ∧ l.length ≤ 5900 ∧
  (readP l = none → Throws T.e_BadText.C badText H E) ∧ ∀ m n p H', readP l = some (m, n) → Same H H' → H' p = some (.tup [.int m, .int n]) → Q (.ref p) H'
theorem ok_parse_pair (T : Txt K mg) : FnOk PySem.Challenge.pw_grainyard_k63_texts_of_pairs w K mg base (L2.CX PySem.Challenge.pw_grainyard_k63_texts_of_pairs w) 5 T.f_parse_pair T.d_parse_pair ["text"] (spParse T) := by
  refine T.F_parse_pair.okX sc_parse_pair (fun vs H Q E h => ?_) (fun cdv A outer s H vs Q E hr h => ?_)
  · obtain ⟨l, rfl, _⟩ := h
    rfl
  · obtain ⟨l, rfl, hl, q1, q2⟩ := h
    refine ⟨_, (pss_one (ps_ret (pe_call (ok_found_in_text T) (hr.mono (by decide)) (by rfl) T.g_found_in_text T.F_found_in_text.kp T.b_found_in_text .nil (passes_call (takes_of rfl rfl rfl rfl) (fun _ _ _ _ h => h)) (pa_cons (pe_call (ok_read_pair T) (hr.mono (by decide)) (by rfl) T.g_read_pair T.F_read_pair.kp T.b_read_pair .nil pass0 (pa_cons (pv 0) pa_nil)) pa_nil)))), ?_⟩
    refine ⟨_, rfl, l, rfl, hl, fun H' e hn => ⟨.non, rfl, fun z => absurd rfl z, fun _ => (q1 hn).up e⟩, fun m n p H' hm e hp => ⟨.ref p, rfl, fun _ => q2 m n p _ hm e hp, fun z => by cases z⟩⟩
end
/-! ### pairs as the law reads them -/
def sgTo (b : List Nat) : Nat → List Int
  | 0 => []
  | n + 1 => if signB (b.getD (1 + n) 0) = true then sgTo b n ++ [1 + (n : Int)] else sgTo b n
theorem sgTo_len (b : List Nat) : ∀ n, (sgTo b n).length ≤ n
  | 0 => Nat.le_refl _
  | n + 1 => by
    have := sgTo_len b n
    unfold sgTo
    split
    · rw [List.length_append, List.length_singleton]
      omega
    · omega
theorem sgTo_is (b : List Nat) : ∀ n, sgTo b n = ((List.range' 1 n).filter fun k => signB (b.getD k 0)).map fun k : Nat => (k : Int)
  | 0 => rfl
  | n + 1 => by
    unfold sgTo
    rw [sgTo_is b n, List.range'_concat, List.filter_append, Nat.one_mul]
    cases h : signB (b.getD (1 + n) 0) with
    | true =>
      rw [if_pos rfl, List.map_append, List.filter_cons, if_pos h]
      simp
    | false =>
      rw [if_neg (by decide), List.filter_cons, if_neg (by rw [h]; decide)]
      simp
theorem sign_in (c : Nat) : inV (.str ⟨#[c]⟩) [.str "+", .str "-"] = signB c := by
  have e : ∀ d : Nat, eqV (.str (mkS [d])) (.str ⟨#[c]⟩) = (d == c) := by
    intro d
    show decide (mkS [d] = mkS [c]) = _
    by_cases h : d = c
    · rw [h, decide_eq_true rfl, beq_self_eq_true]
    · rw [decide_eq_false (fun z => h (by have := mk_inj.mp z; simpa using this)), beq_eq_false_iff_ne.mpr h]
  unfold inV signB
  have ep : (("+" : Str)) = mkS [43] := plus_S
  have em : (("-" : Str)) = mkS [45] := minus_S
  rw [ep, em]
  simp only [List.any_cons, List.any_nil, e, Bool.or_false]
  rw [Bool.eq_iff_iff]
  simp only [Bool.or_eq_true, beq_iff_eq]
  constructor <;> rintro (h | h) <;> omega
theorem dints {K : PySem.W.Frag} {H : Hp} {l : Addr} {ns : List Int} (h : H l = some (.lst (ns.map V.int))) : Dp K H (.ref l) (.list (ns.map .int)) := by
  refine .lst (SqL.of h) ?_
  clear h
  induction ns with
  | nil => exact .nil
  | cons n ns ih => exact .cons (.int _) ih
theorem ints_shaped (ns : List Int) : SeqAt.shaped (.list (ns.map .int)) = true := by
  have h : ∀ ns : List Int, PyData.canLayAll0 (ns.map .int) = true ∧ PyData.depthAll (ns.map .int) ≤ 3 := by
    intro ns
    induction ns with
    | nil => exact ⟨by simp [PyData.canLayAll0], by simp [PyData.depthAll]⟩
    | cons e es ih => exact ⟨by simp [PyData.canLayAll0, PyData.canLay0, ih.1], by simp [PyData.depthAll, PyData.depth, ih.2]⟩
  obtain ⟨h1, h2⟩ := h ns
  unfold SeqAt.shaped
  rw [Bool.and_eq_true]
  refine ⟨by simp [PyData.canLay0, h1], decide_eq_true ?_⟩
  simp only [PyData.depth]
  omega
theorem ints_nil (ns : List Int) : PyData.eqv (.list (ns.map .int)) (.list (([] : List Int).map .int)) = ns.isEmpty := by
  cases ns with
  | nil => simp [PyData.eqv, PyData.eqvAll]
  | cons e es => simp [PyData.eqv, PyData.eqvAll]
section
variable {base : Heap} {K : PySem.W.Frag} {mg : Str → Option Value} {P : Program} {w : World}
theorem ok_pair_read (T : Txt K mg) : FnOk P w K mg base CX0 2 T.f_pair_read T.d_pair_read ["_law_text_z"] spReadP := by
  refine T.F_pair_read.ok sc_pair_read (fun vs H Q E h => ?_) (fun cdv A outer s H vs Q E hr h => ?_)
  · obtain ⟨l, rfl, _⟩ := h
    rfl
  · obtain ⟨l, rfl, hl, q1, q2⟩ := h
    refine ⟨_, (pss_cons (ps_if (pt_cmpR op_ne (pe_slice sl_str (pv 0) (po_some (pe_un un_neg pe_int)) po_none) pe_str (nomark _)) (pss_cons (ps_set (i := 5) sc_pair_read.nd rfl (Or.inl rfl) (pe_call (ok_number_read T) (hr.mono (by decide)) (by rfl) T.g_number_read T.F_number_read.kp T.b_number_read .nil pass0 (pa_cons (pv 0) pa_nil)))
      (pss_one (ps_ret (pe_ifExp (pt_cmpR op_isN (pv 5) pe_non (nomark _)) pe_non (pe_tup (pa_cons (pv 5) (pa_cons pe_int pa_nil))))))) pss_nil)
      (pss_cons (ps_setLc (i := 1) (own := [("_law_k", 8)]) (g := (gName 8)) (tt := tTest (tOp (rIn K false) (tOp rIxS (tVar 0) (tVar 8)) (tTup (tCons (tC (.str "+")) (tCons (tC (.str "-")) tNil))))) (by rfl) sc_pair_read.nd rfl rfl (sw_true rfl rfl rfl (by decide +kernel)) (pi_range2 (by rfl) T.n_range (pa_cons pe_int (pa_cons (pe_op op_sub (pe_callB call_len_str (by rfl) T.n_len (by decide +kernel) (pa_cons (pv 0) pa_nil)) pe_int) pa_nil))) (blkOk_by (own := [("_law_k", 8)]) (N := ["_law_text_z", "_law_signs", "_law_at", "_law_first", "_law_second", "_law_number", "_law_one", "_law_other", "_law_k"]) (sc := defScope s_pair_read) (by decide +kernel)) (fun _ _ _ _ _ => (pg_name (i := 8) sc_pair_read.nd rfl (Or.inl rfl))) (fun _ _ _ _ _ => (pts_one (pt_cmpR op_in_seq (pe_ix ix_str (pv 0) (pv 8) (fun _ _ => rfl)) (pe_tup (pa_cons pe_str (pa_cons pe_str pa_nil))) (by rfl)))) (fun _ _ _ _ _ => (pv 8)))
      (Evl.pss_cut (ps_set (i := 2) sc_pair_read.nd rfl (Or.inl rfl) (pe_ifExp (pt_cmpR (op_neD hr.units) (pv 1) (pe_lst pa_nil) (nomark _)) (pe_ix ix_list (pv 1) (pe_un un_neg pe_int) (fun _ _ => rfl)) pe_int))
      (pss_cons (ps_par (i := 6) (j := 7) (by rfl) sc_pair_read.nd rfl rfl (by decide) rfl rfl (pa_cons (pe_slice sl_str (pv 0) po_none (po_some (pv 2))) (pa_cons (pe_slice sl_str (pv 0) (po_some (pv 2)) (po_some (pe_un un_neg pe_int))) pa_nil)) (by rfl))
      (Evl.pss_cut (ps_set (i := 3) sc_pair_read.nd rfl (Or.inl rfl) (pe_ifExp (pt_cmpR op_eq (pv 2) pe_int (nomark _)) pe_int (pe_call (ok_number_read T) (hr.mono (by decide)) (by rfl) T.g_number_read T.F_number_read.kp T.b_number_read .nil pass0 (pa_cons (pv 6) pa_nil))))
      (Evl.pss_cut (ps_set (i := 4) sc_pair_read.nd rfl (Or.inl rfl) (pe_call (ok_number_read T) (hr.mono (by decide)) (by rfl) T.g_number_read T.F_number_read.kp T.b_number_read .nil pass0 (pa_cons (pe_ifExp (PW.pt (pw_and (pt_cmpR op_eq (pe_slice sl_str (pv 7) po_none (po_some pe_int)) pe_str (nomark _)) (pw_and1 (pt_cmpR op_gt (pv 2) pe_int (nomark _))))) (pe_slice sl_str (pv 7) (po_some pe_int) po_none) (pv 7)) pa_nil)))
      (pss_cons (ps_if (PW.pt (pw_or (pt_cmpR op_isN (pv 3) pe_non (nomark _)) (pw_or (pt_cmpR op_isN (pv 4) pe_non (nomark _)) (pw_or (pt_cmpR op_eq (pv 4) pe_int (nomark _)) (pw_or1 (PW.pt (pw_and (pt_cmpR op_gt (pv 2) pe_int (nomark _)) (pw_and1 (pt_cmpR op_eq (pv 3) pe_int (nomark _)))))))))) (pss_one (ps_ret pe_non)) pss_nil)
      (pss_one (ps_ret (pe_ifExp (PW.pt (pw_and (pt_cmpR op_gt (pv 2) pe_int (nomark _)) (pw_and (pt_cmpR op_eq (pe_slice sl_str (pv 7) po_none (po_some pe_int)) pe_str (nomark _)) (pw_and1 (pt_cmpR op_lt (pv 4) pe_int (nomark _)))))) pe_non (pe_tup (pa_cons (pv 3) (pa_cons (pv 4) pa_nil))))))))))))), ?_⟩
    have hs : (mkS l).length ≤ sizeLine := by rw [mkS_len, sz_eq]; omega
    refine ⟨_, rfl, 1, rfl, -1, rfl, _, rfl, hs, rfl, _, rfl, ?_⟩
    have li := last_is l 114
    rw [dS, r_S, li]
    unfold readP at q1 q2
    cases hr' : (l.getLast? == some 114) with
    | false =>
      have ne : ¬ l.getLast? = some 114 := by simpa using hr'
      rw [if_neg ne] at q1 q2
      refine iteT ⟨_, rfl, mkS l, rfl, by rw [mkS_len]; omega, fun H1 s1 => ⟨_, rfl, rfl, _, rfl, ?_⟩⟩
      rw [mk_letters]
      cases hn : readN l with
      | none =>
        rw [hn] at q1
        exact iteT (q1 _ s1 rfl)
      | some n =>
        rw [hn] at q2
        exact iteF ⟨_, rfl, small1000 (show 1 ≤ 1000 by decide), fun t nt => q2 n 0 t _ rfl (s1.trans (same_new nt)) upd_same⟩
    | true =>
      have ye : l.getLast? = some 114 := by simpa using hr'
      rw [if_pos ye] at q1 q2
      obtain ⟨b, rfl⟩ := List.getLast?_eq_some_iff.mp ye
      rw [List.dropLast_concat] at q1 q2
      rw [List.length_append] at hl
      have el : (mkS (b ++ [114])).length = b.length + 1 := by rw [mkS_len, List.length_append]; rfl
      have hl' : b.length ≤ 5899 := by
        have : [114].length = 1 := rfl
        omega
      refine iteF ⟨_, rfl, mkS _, rfl, hs, _, 1, rfl, rfl, 1, ((mkS (b ++ [114])).length : Int) - 1, rfl, ⟨by decide, by decide, by rw [el]; omega, by rw [el]; omega⟩, fun L nL => ?_⟩
      have en : (((mkS (b ++ [114])).length : Int) - 1 - 1).toNat = b.length - 1 := by rw [el]; omega
      rw [en]
      refine lc_range (lo := 1) (n := b.length - 1) (fun i G => Same H G ∧ G L = some (.lst ((sgTo b i).map V.int))) ⟨same_new nL, upd_same⟩ ?_ ?_
      · rintro i G hi ⟨sG, hG⟩
        have hb : i + 1 < b.length := by omega
        have hc : (b ++ [114])[i + 1]? = some b[i + 1] := by rw [List.getElem?_append_left hb, List.getElem?_eq_getElem hb]
        have gd : b.getD (1 + i) 0 = b[i + 1] := by rw [List.getD_eq_getElem?_getD, Nat.add_comm 1 i, List.getElem?_eq_getElem hb]; rfl
        refine ⟨rfl, _, rfl, _, rfl, mkS (b ++ [114]), ((i + 1 : Nat) : Int), b[i + 1], rfl, ?_, hs, atI_nat (j := i + 1) hc, small1000 (show 1 ≤ 1000 by decide), fun t nt => ⟨t, _, rfl, .inr (SqT.of upd_same), rfl, rfl, _, rfl, ?_⟩⟩
        · congr 1
          omega
        have hG2 := (same_new (o := .tup [.str "+", .str "-"]) nt) _ _ hG
        have st : sgTo b (i + 1) = if signB (b.getD (1 + i) 0) = true then sgTo b i ++ [1 + (i : Int)] else sgTo b i := rfl
        rw [gd] at st
        rw [sign_in]
        have ln := sgTo_len b i
        cases z : signB b[i + 1] with
        | true =>
          rw [z, if_pos rfl] at st
          refine iteT ⟨_, rfl, _, hG2, ?_, fun a o zz => (upd_ne (ne_of_none zz nL)).trans ((same_new nt) _ _ (sG _ _ zz)), ?_⟩
          · rw [List.length_map, sz_eq]
            omega
          · rw [upd_same, st, List.map_append]
            rfl
        | false =>
          rw [z, if_neg (by decide)] at st
          exact iteF ⟨sG.trans (same_new nt), by rw [st]; exact hG2⟩
      rintro G ⟨sG, hG⟩
      have hk : IsAt b (sgAt b) := sgAt_is b
      have kb : sgAt b ≤ b.length := by
        rcases hk with ⟨z, _⟩ | ⟨_, z, _⟩ <;> omega
      rw [sgTo_is] at hG
      change G L = some (.lst (((sgs b).map fun k : Nat => (k : Int)).map V.int)) at hG
      refine ⟨fun σ G => Same H G ∧ σ = [some (.str (mkS (b ++ [114]))), some (.ref L), some (.int (sgAt b : Nat)), none, none, none, none, none, none], ?_, ?_⟩
      · refine ⟨_, rfl, Nat.zero_le _, fun p np => ⟨_, _, (dints (ns := (sgs b).map fun k : Nat => (k : Int)) ((same_new (o := .lst []) np) _ _ hG)), dints (ns := []) upd_same, ints_shaped _, ints_shaped [], _, rfl, ?_⟩⟩
        have s1 := sG.trans (same_new (o := .lst []) np)
        rw [ints_nil]
        unfold sgAt
        cases hz : (sgs b).getLast? with
        | none =>
          rw [List.getLast?_eq_none_iff.mp hz]
          exact iteF ⟨s1, rfl⟩
        | some k =>
          obtain ⟨ys, e⟩ := List.getLast?_eq_some_iff.mp hz
          rw [e] at hG ⊢
          have ne : (!((ys ++ [k]).map fun k : Nat => (k : Int)).isEmpty) = true := by simp
          rw [ne]
          refine iteT ⟨_, rfl, 1, rfl, L, _, -1, .int (k : Nat), rfl, rfl, SqL.of ((same_new (o := .lst []) np) _ _ hG), ?_, s1, rfl⟩
          rw [List.map_append, List.map_append]
          exact atI_last _ _
      rintro σ G2 ⟨s2, rfl⟩
      generalize sgAt b = k at *
      have hs7 : cutS (mkS (b ++ [114])) (some (k : Int)) (some (-1)) = mkS (b.drop k) := by rw [cut_mid _ (by rw [List.length_append]; omega), List.dropLast_concat]
      have hs6 : cutS (mkS (b ++ [114])) none (some (k : Int)) = mkS (b.take k) := by rw [cut_front, List.take_append_of_le_length kb]
      refine ⟨_, rfl, _, rfl, (k : Int), rfl, _, rfl, hs, _, rfl, _, rfl, (k : Int), rfl, 1, rfl, -1, rfl, _, rfl, hs, _, _, rfl, ?_⟩
      rw [hs6, hs7]
      have hd : (mkS (b.drop k)).length ≤ sizeLine := by rw [mkS_len, List.length_drop, sz_eq]; omega
      have kz : decide (V.int (k : Int) = V.int 0) = decide (k = 0) := by
        by_cases h : k = 0
        · rw [decide_eq_true h, decide_eq_true (by rw [h]; rfl)]
        · rw [decide_eq_false h, decide_eq_false fun z => h (by have := V.int.inj z; omega)]
      have kp : decide ((0 : Int) < (k : Int)) = !decide (k = 0) := by
        by_cases h : k = 0
        · rw [h, decide_eq_true rfl]
          rfl
        · rw [decide_eq_false h, decide_eq_true (by omega)]
          rfl
      have hp : ∀ {x3 x4 : Option V} {X : Hp} {M : Bool → Hp → Prop}, M ((b.drop k).head? == some 43) X → tTest (tOp rEq (tSl rSlS (tVar 7) tNoPart (tPart (tC (V.int 1)))) (tC (V.str (Str.ofString "+")))) [some (.str (mkS (b ++ [114]))), some (.ref L), some (.int (k : Int)), x3, x4, none, some (.str (mkS (b.take k))), some (.str (mkS (b.drop k))), none] X M := by
        intro x3 x4 X M m
        refine ⟨_, rfl, 1, rfl, _, rfl, hd, rfl, _, rfl, ?_⟩
        have fi : decide (cutS (mkS (b.drop k)) none (some 1) = mkS [43]) = ((mkS (b.drop k)).cps.toList.head? == some 43) := first_is (mkS (b.drop k)) 43
        rw [dS, plus_S, fi, mk_letters]
        exact m
      -- the first number
      refine ⟨fun σ X => Same H X ∧ σ = [some (.str (mkS (b ++ [114]))), some (.ref L), some (.int (k : Int)), some (optV (if k = 0 then some 0 else readN (b.take k))), none, none, some (.str (mkS (b.take k))), some (.str (mkS (b.drop k))), none], ?_, ?_⟩
      · refine ⟨_, rfl, rfl, _, rfl, ?_⟩
        rw [kz]
        by_cases k0 : k = 0
        · rw [decide_eq_true k0, if_pos k0]
          exact iteT ⟨s2, rfl⟩
        · rw [decide_eq_false k0, if_neg k0]
          exact iteF ⟨_, rfl, _, rfl, by rw [mkS_len, List.length_take]; omega, fun X e => ⟨s2.trans e, rfl⟩⟩
      rintro σ X1 ⟨s3, rfl⟩
      -- the second
      refine ⟨fun σ X => Same H X ∧ σ = [some (.str (mkS (b ++ [114]))), some (.ref L), some (.int (k : Int)), some (optV (if k = 0 then some 0 else readN (b.take k))), some (optV (readN (if k = 0 then b else if (b.drop k).head? = some 43 then (b.drop k).drop 1 else b.drop k))), none, some (.str (mkS (b.take k))), some (.str (mkS (b.drop k))), none], ?_, ?_⟩
      · have ld : ∀ y : List Nat, y.length ≤ b.length → (mkS y).length ≤ 6000 := fun y hy => by rw [mkS_len]; omega
        have l1 : (b.drop k).length ≤ b.length := by rw [List.length_drop]; omega
        refine hp ?_
        by_cases k0 : k = 0
        · rw [if_pos k0, if_pos k0]
          have e : b.drop k = b := by rw [k0, List.drop_zero]
          rw [e]
          cases (b.head? == some 43) with
          | true =>
            refine iteT ⟨_, rfl, _, _, rfl, rfl, _, rfl, ?_⟩
            rw [kp, decide_eq_true k0]
            exact iteF ⟨_, rfl, mkS b, rfl, ld b (Nat.le_refl _), fun X3 e3 => ⟨s3.trans e3, rfl⟩⟩
          | false => exact iteF (iteF ⟨_, rfl, mkS b, rfl, ld b (Nat.le_refl _), fun X3 e3 => ⟨s3.trans e3, rfl⟩⟩)
        · rw [if_neg k0, if_neg k0]
          cases z : ((b.drop k).head? == some 43) with
          | true =>
            rw [if_pos (show (b.drop k).head? = some 43 by simpa using z)]
            refine iteT ⟨_, rfl, _, _, rfl, rfl, _, rfl, ?_⟩
            rw [kp, decide_eq_false k0]
            refine iteT ⟨_, rfl, 1, rfl, _, rfl, hd, ?_⟩
            have e1 : cutS (mkS (b.drop k)) (some 1) none = mkS ((b.drop k).drop 1) := cut_back (b.drop k) 1
            rw [e1]
            exact ⟨_, rfl, ld _ (by rw [List.length_drop]; omega), fun X3 e3 => ⟨s3.trans e3, rfl⟩⟩
          | false =>
            rw [if_neg (show ¬ (b.drop k).head? = some 43 by simpa using z)]
            exact iteF (iteF ⟨_, rfl, _, rfl, ld _ l1, fun X3 e3 => ⟨s3.trans e3, rfl⟩⟩)
      rintro σ X2 ⟨s4, rfl⟩
      unfold resP at q1 q2
      have two : ∀ {m n : Int}, V.int m = V.int n → m = n := fun h => V.int.inj h
      by_cases k0 : k = 0
      · rw [if_pos k0] at q1 q2
        rw [if_pos k0, if_pos k0]
        refine ⟨_, rfl, rfl, false, rfl, iteF ?_⟩
        refine ⟨_, rfl, rfl, _, rfl, ?_⟩
        cases hn : readN b with
        | none =>
          rw [hn] at q1
          exact iteT (iteT (q1 _ s4 rfl))
        | some n =>
          rw [hn] at q1 q2
          dsimp only at q1 q2
          refine iteF ⟨_, rfl, rfl, _, rfl, ?_⟩
          by_cases n0 : n = 0
          · rw [if_pos n0] at q1
            rw [show decide (optV (some n) = V.int 0) = true from decide_eq_true (by rw [n0]; rfl)]
            exact iteT (iteT (q1 _ s4 rfl))
          · rw [if_neg n0] at q2
            rw [show decide (optV (some n) = V.int 0) = false from decide_eq_false fun z => n0 (two z)]
            refine iteF ⟨_, rfl, _, _, rfl, rfl, _, rfl, ?_⟩
            rw [kp, decide_eq_true k0]
            refine iteF (iteF ⟨_, rfl, _, _, rfl, rfl, _, rfl, ?_⟩)
            rw [kp, decide_eq_true k0]
            exact iteF (iteF ⟨_, rfl, _, rfl, small1000 (show 1 ≤ 1000 by decide), fun t nt => q2 0 n t _ rfl (s4.trans (same_new nt)) upd_same⟩)
      · rw [if_neg k0] at q1 q2
        rw [if_neg k0, if_neg k0]
        cases hm : readN (b.take k) with
        | none =>
          rw [hm] at q1
          exact ⟨_, rfl, rfl, true, rfl, iteT (iteT (q1 _ s4 rfl))⟩
        | some m =>
          refine ⟨_, rfl, rfl, false, rfl, iteF ?_⟩
          cases hn : readN (if (b.drop k).head? = some 43 then (b.drop k).drop 1 else b.drop k) with
          | none =>
            rw [hm, hn] at q1
            exact ⟨_, rfl, rfl, true, rfl, iteT (iteT (q1 _ s4 rfl))⟩
          | some n =>
            rw [hm, hn] at q1 q2
            dsimp only at q1 q2
            refine ⟨_, rfl, rfl, false, rfl, iteF ⟨_, rfl, rfl, _, rfl, ?_⟩⟩
            by_cases n0 : n = 0
            · rw [if_pos (.inl n0)] at q1
              rw [show decide (optV (some n) = V.int 0) = true from decide_eq_true (by rw [n0]; rfl)]
              exact iteT (iteT (q1 _ s4 rfl))
            rw [show decide (optV (some n) = V.int 0) = false from decide_eq_false fun z => n0 (two z)]
            refine iteF ⟨_, rfl, _, _, rfl, rfl, _, rfl, ?_⟩
            rw [kp, decide_eq_false k0]
            refine iteT ⟨_, rfl, rfl, _, rfl, ?_⟩
            by_cases m0 : m = 0
            · rw [if_pos (.inr (.inl m0))] at q1
              rw [show decide (optV (some m) = V.int 0) = true from decide_eq_true (by rw [m0]; rfl)]
              exact iteT (q1 _ s4 rfl)
            rw [show decide (optV (some m) = V.int 0) = false from decide_eq_false fun z => m0 (two z)]
            refine iteF ⟨_, rfl, _, _, rfl, rfl, _, rfl, ?_⟩
            rw [kp, decide_eq_false k0]
            refine iteT (hp ?_)
            have last : ∀ (c : Prop) [Decidable c], c = (n = 0 ∨ m = 0 ∨ ((b.drop k).head? = some 43 ∧ n < 0)) → ¬ c → tTup (tCons (tVar 3) (tCons (tVar 4) tNil)) [some (.str (mkS (b ++ [114]))), some (.ref L), some (.int (k : Int)), some (optV (some m)), some (optV (some n)), none, some (.str (mkS (b.take k))), some (.str (mkS (b.drop k))), none] X2 Q := by
              intro c _ ec nc
              rw [if_neg (by rw [← ec]; exact nc)] at q2
              exact ⟨_, rfl, _, rfl, small1000 (show 1 ≤ 1000 by decide), fun t nt => q2 m n t _ rfl (s4.trans (same_new nt)) upd_same⟩
            cases z : ((b.drop k).head? == some 43) with
            | true =>
              have zz : (b.drop k).head? = some 43 := by simpa using z
              refine iteT ⟨_, rfl, _, _, rfl, rfl, _, rfl, ?_⟩
              by_cases neg : n < 0
              · rw [if_pos (.inr (.inr ⟨zz, neg⟩))] at q1
                rw [show decide (n < 0) = true from decide_eq_true neg]
                exact iteT (q1 _ s4 rfl)
              · rw [show decide (n < 0) = false from decide_eq_false neg]
                refine iteF (last _ rfl ?_)
                rintro (h | h | h)
                · exact n0 h
                · exact m0 h
                · exact neg h.2
            | false =>
              refine iteF (iteF (last _ rfl ?_))
              have zz : ¬ (b.drop k).head? = some 43 := by simpa using z
              rintro (h | h | h)
              · exact n0 h
              · exact m0 h
              · exact zz h.1
end
/-! ### scaled -/
section
variable {base : Heap} {K : PySem.W.Frag} {mg : Str → Option Value} {P : Program} {w : World}
def spScaled (K : PySem.W.Frag) : Sp := fun vs H Q _ => ∃ (v : V) (x y n : Int), vs = [v, .int n] ∧ PairAt K H v x y ∧ x.natAbs < 2 ^ 9000 ∧ y.natAbs < 2 ^ 9000 ∧ n.natAbs < 2 ^ 9000 ∧ NewPair H (x * n) (y * n) Q
theorem ok_scaled (T : Txt K mg) : FnOk P w K mg base CX0 1 T.f_scaled T.d_scaled ["pair", "number"] (spScaled K) := by
  refine T.F_scaled.ok sc_scaled (fun vs H Q E h => ?_) (fun cdv A outer s H vs Q E hr h => ?_)
  · obtain ⟨v, x, y, n, rfl, _⟩ := h
    rfl
  · obtain ⟨v, x, y, n, rfl, ⟨t, rfl, ht⟩, x1, y1, n1, q⟩ := h
    refine ⟨_, (pss_cons (ps_asg (pv 0) (pg_tup (by rfl) (pgs_cons (pg_name (i := 2) sc_scaled.nd rfl (Or.inl rfl)) (pgs_cons (pg_name (i := 3) sc_scaled.nd rfl (Or.inl rfl)) pgs_nil))))
      (pss_one (ps_ret (pe_tup (pa_cons (pe_op op_mulW (pv 2) (pv 1)) (pa_cons (pe_op op_mulW (pv 3) (pv 1)) pa_nil)))))), ?_⟩
    refine ⟨_, rfl, t, _, rfl, ht, rfl, .int x, [.int y], rfl, .int y, [], rfl, rfl, ?_⟩
    exact ⟨_, rfl, _, rfl, x, n, rfl, rfl, wide_mul x1 n1 (by decide) (by decide) (by decide), _, rfl, _, rfl, y, n, rfl, rfl, wide_mul y1 n1 (by decide) (by decide) (by decide), by show 2 ≤ sizeLine; decide, fun p hp => q p _ hp (same_new hp) upd_same⟩
end
/-! ### what is asked, within a block -/
section
variable {X : Cx} {k : Nat} {c P0 : Addr} {params : Arguments} {body : Expr} {scope : Scope} {t : XK → TE} {p lpos pos : Pos} {K : PySem.W.Frag} {mg : Str → Option Value} {q0 : Str}
theorem pe_tryB (T : Txt K mg) (hK : X.K = K) (hm : X.mg = mg) (hq : X.env.qual ++ "<lambda>" = q0) (hg : Gl X "_law_try") (TB : LamX.TabB X.base X.mg c P0) (hcode : X.env.code = .ref c) (hr : Room (k + 3) X.A) (L : LamX.LamS X.env.scope scope) (hdef : defaultsOf params X.env = ([], []))
    (hbind : ∀ (q : Str) (cl : List (Str × Addr)) (pm cv ctv : Value), bindArgs (PySem.W.kla_fn "<lambda>" q params body scope cl pm cv ctv) ⟨[], []⟩ = pure [])
    (hbody : ∀ (A : Around) (outer : List Env) (s : Shared) (H : Hp) (E : XK) (f c' : Addr), Room (k + 1) (A.deeper (LamX.lamEnv X scope s.heap.objs.size f c')) → PE (LamX.lamCx X A outer s H E scope f c') body (t E)) :
    PE X (.Call (.Name "_law_try" p) [.Lambda params body scope lpos] [] pos) (LamX.tLam [(P0, q0)] (TTry K T.r_GrainError) t) := by
  subst hK hm hq
  exact pe_try T hg TB hcode hr L hdef hbind hbody
end
/-! ### a text so many times; texts that are bent -/
section
variable {X : Cx}
theorem op_strmul : OpR X (binaryOp .Mult) (fun x y H Q => ∃ i n, x = .str i ∧ y = .int n ∧ MulOk i n ∧ Q (.str (Txt.mul i n)) H) := by
  intro pins s σ H x y v u Q I rx ry h
  obtain ⟨i, n, rfl, rfl, ok, q⟩ := h
  obtain ⟨t, rfl⟩ := rx
  obtain ⟨t', rfl⟩ := ry
  exact PySem.SB.mul ok fun t2 k => ⟨.str (Txt.mul i n), H, I.tok _, ⟨_, rfl⟩, q⟩
end
def signsL : List Str := ["", "0", "1", "9", "r", "+", "-", " ", "x", "r r", "R", "\n"]
theorem signs_len : ∀ s ∈ signsL, s.length ≤ 3 := by decide +kernel
section
variable {base : Heap} {K : PySem.W.Frag} {mg : Str → Option Value} {P : Program} {w : World}
def spBent : Sp := fun vs H Q _ => ∃ (b sb sg : Addr) (z : Str), vs = [.ref b, .str z, .ref sg] ∧ Bag H b sb ∧ H sg = some (.lst (signsL.map V.str)) ∧ sg ≠ b ∧ z.length ≤ 1000 ∧ ∀ (z' : Str) H', z'.length ≤ 2 * z.length + 3 → Bag H' b sb → Keep b H H' → Q (.str z') H'
theorem cut_len (z : Str) (lo hi : Option Int) : (cutS z lo hi).length ≤ z.length := by
  unfold cutS
  show (mkS _).length ≤ _
  rw [mkS_len, List.length_take, List.length_drop, TL.len_tl]
  show min _ (z.cps.toList.length - _) ≤ z.cps.toList.length
  omega
theorem ok_bent_text (T : Txt K mg) : FnOk P w K mg base CX0 3 T.f_bent_text T.d_bent_text ["_law_bag", "_law_text_z", "_law_signs"] spBent := by
  refine T.F_bent_text.ok sc_bent_text (fun vs H Q E h => ?_) (fun cdv A outer s H vs Q E hr h => ?_)
  · obtain ⟨b, sb, sg, z, rfl, _⟩ := h
    rfl
  · obtain ⟨b, sb, sg, z, rfl, B, hs, ne, hz, q⟩ := h
    refine ⟨_, (pss_cons (ps_par (i := 3) (j := 4) (by rfl) sc_bent_text.nd rfl rfl (by decide) rfl rfl (pa_cons (pe_call (ok_pull T) (hr.mono (by decide)) (by rfl) T.g_pull T.F_pull.kp T.b_pull .nil pass0 (pa_cons (pv 0) (pa_cons (pe_op op_add (pe_callB call_len_str (by rfl) T.n_len (by decide +kernel) (pa_cons (pv 1) pa_nil)) pe_int) pa_nil))) (pa_cons (pe_call (ok_of T) (hr.mono (by decide)) (by rfl) T.g_of T.F_of.kp T.b_of .nil pass0 (pa_cons (pv 0) (pa_cons (pv 2) pa_nil))) pa_nil)) (by rfl))
      (pss_one (ps_ret (pe_op op_add_str (pe_op op_add_str (pe_slice sl_str (pv 1) po_none (po_some (pv 3))) (pv 4)) (pe_slice sl_str (pv 1) (po_some (pe_op op_add (pv 3) (pe_call (ok_pull T) (hr.mono (by decide)) (by rfl) T.g_pull T.F_pull.kp T.b_pull .nil pass0 (pa_cons (pv 0) (pa_cons pe_int pa_nil))))) po_none))))), ?_⟩
    have hz' : z.length ≤ sizeLine := Nat.le_of_lt (small1000 hz)
    refine ⟨_, rfl, _, rfl, z, rfl, hz', _, 1, rfl, rfl, b, sb, _, rfl, B, by omega, Nat.lt_of_le_of_lt (show ((z.length : Int) + 1).natAbs ≤ 1001 by omega) (by decide), fun at' H1 a0 a1 B1 k1 => ?_⟩
    refine ⟨_, rfl, _, rfl, b, sb, sg, _, rfl, B1, k1 _ _ ne hs, ne, by decide, by decide, fun i v H2 hv B2 k2 => ?_⟩
    obtain ⟨c, rfl, hc⟩ : ∃ c : Str, v = .str c ∧ c.length ≤ 3 := by
      rw [List.getElem?_map] at hv
      cases e : signsL[i]? with
      | none =>
        rw [e] at hv
        cases hv
      | some c =>
        rw [e] at hv
        cases hv
        exact ⟨c, rfl, signs_len c (List.mem_of_getElem? e)⟩
    have l1 := cut_len z none (some at')
    refine ⟨_, _, rfl, _, rfl, _, rfl, _, rfl, _, rfl, hz', _, rfl, _, c, rfl, rfl, by rw [sz_eq]; omega, _, rfl, _, rfl, _, rfl, b, sb, 2, rfl, B2, by decide, by decide, fun d H3 d0 d1 B3 k3 => ⟨_, _, rfl, rfl, _, rfl, _, rfl, hz', _, _, rfl, rfl, ?_, q _ _ ?_ B3 (k1.trans (k2.trans k3))⟩⟩
    · have l2 := cut_len z (some (at' + d)) none
      rw [Str.length_append, sz_eq]
      omega
    · have l2 := cut_len z (some (at' + d)) none
      rw [Str.length_append, Str.length_append]
      omega
end
/-! ### what is read, and what is told of it -/
theorem join0_len : ∀ ys : List Str, (Str.join (Str.ofString "") ys).length = (ys.map (·.length)).sum
  | [] => by decide +kernel
  | [x] => by
    show x.length = _
    simp
  | x :: y :: r => by
    have ih := join0_len (y :: r)
    show (x ++ Str.ofString "" ++ Str.join (Str.ofString "") (y :: r)).length = _
    have e : (Str.ofString "").length = 0 := by decide +kernel
    rw [strLen_append, strLen_append, ih, e]
    simp only [List.map_cons, List.sum_cons]
    omega
theorem three_sum : ∀ {ys : List Str}, (∀ y ∈ ys, y.length ≤ 3) → (ys.map (·.length)).sum ≤ 3 * ys.length
  | [], _ => Nat.le_refl _
  | y :: ys, h => by
    have h1 := h y List.mem_cons_self
    have h2 := three_sum fun z hz => h z (List.mem_cons_of_mem _ hz)
    rw [List.map_cons, List.sum_cons, List.length_cons]
    omega
/-- a list of short texts that grows while the bag is drawn from -/
structure Bits (H1 : Hp) (b sb D : Addr) (i : Nat) (G : Hp) : Prop where
  bag : Bag G b sb
  keep : Keep b H1 G
  ys : ∃ ys : List Str, G D = some (.lst (ys.map V.str)) ∧ ys.length = i ∧ ∀ y ∈ ys, y.length ≤ 3
theorem Bits.first {H1 : Hp} {b sb D : Addr} (B : Bag H1 b sb) (nD : H1 D = none) : Bits H1 b sb D 0 (upd H1 D (.lst [])) := ⟨B.new nD, keep_new nD, [], upd_same, rfl, fun y hy => by cases hy⟩
theorem Bits.next {H1 G G' : Hp} {b sb D : Addr} {i : Nat} {z : Str} (h : Bits H1 b sb D i G) (B1 : Bag H1 b sb) (nD : H1 D = none) (B' : Bag G' b sb) (k' : Keep b G G') (hi : i ≤ 100) (hz : z.length ≤ 3) :
    ∃ acc, G' D = some (.lst acc) ∧ acc.length < sizeLine ∧ Bits H1 b sb D (i + 1) (upd G' D (.lst (acc ++ [.str z]))) := by
  obtain ⟨_, k, ys, h1, h2, h3⟩ := h
  have nb := B1.ne nD
  have ns := B1.ne2 nD
  refine ⟨_, k' _ _ nb h1, by rw [List.length_map, h2]; exact small1000 (by omega), B'.put nb ns, fun a o n e => (upd_ne (ne_of_none e nD)).trans (k' _ _ n (k _ _ n e)), ys ++ [z], ?_, ?_, ?_⟩
  · rw [upd_same, List.map_append]
    rfl
  · rw [List.length_append, h2, List.length_singleton]
  · intro y hy
    rcases List.mem_append.mp hy with e | e
    · exact h3 y e
    · rw [List.mem_singleton.mp e]
      exact hz
theorem Bits.join {K : PySem.W.Frag} {H1 G : Hp} {b sb D : Addr} {i : Nat} (h : Bits H1 b sb D i G) (hi : i ≤ 100) : ∃ ys : List Str, SqL K G D (ys.map V.str) ∧ (ys.map (·.length)).sum + ys.length * (Str.ofString "").length ≤ 16777216 ∧ (Txt.join (Str.ofString "") ys).length ≤ 300 := by
  obtain ⟨_, _, ys, h1, h2, h3⟩ := h
  have e := three_sum h3
  have e0 : (Str.ofString "").length = 0 := by decide +kernel
  refine ⟨ys, SqL.of h1, by rw [e0]; omega, ?_⟩
  rw [TL.join_eq, join0_len]
  omega
abbrev rp (z : Str) : Option (Int × Int) := readP z.cps.toList
theorem rp_long {z : Str} (h : 44 < z.length) : rp z = none := long_none (by rw [← TL.len_tl]; exact h)
def DueT (H : Hp) (v : V) : Option (Int × Int) → Prop
  | none => v = .non
  | some (m, n) => ∃ t, v = .ref t ∧ H t = some (.tup [.int m, .int n])
def FoundT (H : Hp) (p : Addr) : Option (Int × Int) → Prop
  | none => H p = some (.tup [.str "BadText", .int 0])
  | some (m, n) => ∃ t, H p = some (.tup [.str "told", .ref t]) ∧ H t = some (.tup [.int m, .int n])
theorem DueT.same {H H' : Hp} {v : V} {o : Option (Int × Int)} (h : DueT H v o) (s : Same H H') : DueT H' v o := by
  match o, h with
  | none, h => exact h
  | some (m, n), ⟨t, e, h⟩ => exact ⟨t, e, s _ _ h⟩
theorem DueT.extN {H H' : Hp} {v : V} {o : Option (Int × Int)} (h : DueT H v o) (s : LamX.ExtN H H') : DueT H' v o := by
  match o, h with
  | none, h => exact h
  | some (m, n), ⟨t, e, h⟩ => exact ⟨t, e, tup_extN h s⟩
theorem FoundT.same {H H' : Hp} {v : Addr} {o : Option (Int × Int)} (h : FoundT H v o) (s : Same H H') : FoundT H' v o := by
  match o, h with
  | none, h => exact s _ _ h
  | some (m, n), ⟨t, e, h⟩ => exact ⟨t, s _ _ e, s _ _ h⟩
def dueD : Option (Int × Int) → PyData
  | none => .none
  | some (m, n) => .tuple [.int m, .int n]
def foundD : Option (Int × Int) → PyData
  | none => .tuple [.str "BadText", .int 0]
  | some (m, n) => .tuple [.str "told", .tuple [.int m, .int n]]
section
variable {base : Heap} {K : PySem.W.Frag} {mg : Str → Option Value} {w : World}
theorem DueT.dp {H : Hp} {v : V} {o : Option (Int × Int)} (h : DueT H v o) : Dp K H v (dueD o) := by
  match o, h with
  | none, h =>
    rw [show v = V.non from h]
    exact .non
  | some (m, n), ⟨t, e, h⟩ =>
    rw [e]
    exact .tup (SqT.of h) (.cons (.int _) (.cons (.int _) .nil))
theorem FoundT.dp {H : Hp} {p : Addr} {o : Option (Int × Int)} (h : FoundT H p o) : Dp K H (.ref p) (foundD o) := by
  match o, h with
  | none, h => exact .tup (SqT.of h) (.cons (.str _) (.cons (.int _) .nil))
  | some (m, n), ⟨t, e, h⟩ => exact .tup (SqT.of e) (.cons (.str _) (.cons (.tup (SqT.of h) (.cons (.int _) (.cons (.int _) .nil))) .nil))
theorem found_shaped (o : Option (Int × Int)) : SeqAt.shaped (foundD o) = true := by
  match o with
  | none => kernel_rfl
  | some (m, n) => kernel_rfl
theorem found_same (o : Option (Int × Int)) : PyData.eqv (foundD o) (foundD o) = true := PySem.SeqAt.eqv_refl_plain _ (by
  match o with
  | none => simp [foundD, PyData.plain, PyData.plainAll]
  | some (m, n) => simp [foundD, PyData.plain, PyData.plainAll])
theorem read_due {H : Hp} {z : Str} {Q : VK} {E : XK} (hz : z.length ≤ 5900) (q : ∀ v H', Same H H' → DueT H' v (rp z) → Q v H') : spReadP [.str z] H Q E := by
  refine ⟨z.cps.toList, by rw [mk_self], by rw [← TL.len_tl]; exact hz, fun H' e hn => q _ _ e ?_, fun m n p H' hm e hp => q _ _ e ?_⟩
  · show DueT H' .non (readP z.cps.toList)
    rw [hn]
    rfl
  · show DueT H' (.ref p) (readP z.cps.toList)
    rw [hm]
    exact ⟨p, rfl, hp⟩
theorem parse_told (T : Txt K mg) {H : Hp} {z : Str} {Q Q1 : VK} {E : XK} (hE : E = Raised K T.r_GrainError Q) (hQ : Q1 = fun v H1 => [V.str "told", v].length ≤ sizeLine ∧ ∀ p, H1 p = none → Q (.ref p) (upd H1 p (.tup [.str "told", v]))) (hz : z.length ≤ 5900)
    (q : ∀ p H', Same H H' → FoundT H' p (rp z) → Q (.ref p) H') : spParse T [.str z] H Q1 E := by
  subst hE hQ
  refine ⟨z.cps.toList, by rw [mk_self], by rw [← TL.len_tl]; exact hz, fun hn x Hf nx sf fx => ?_, fun m n t H' hm e ht => ⟨(by show 2 ≤ sizeLine; decide), fun p np => q p _ (e.trans (same_new np)) ?_⟩⟩
  · obtain ⟨cg, hg, _⟩ := T.c_GrainError
    refine raised_er T.e_BadText hg T.t_GrainError T.sb_GrainError (no_two T.x_BadText_at T.x_BadText_word) rfl rfl fx fun H' p s' hp => q p H' (sf.trans s') ?_
    show FoundT H' p (readP z.cps.toList)
    rw [hn]
    exact hp
  · show FoundT _ p (readP z.cps.toList)
    rw [hm]
    exact ⟨t, upd_same, (same_new np) _ _ ht⟩
end
/-! ### the law -/
abbrev qn : Str := "law" ++ ".<locals>." ++ "<lambda>"
structure LI (b sb sg P0 : Addr) (H : Hp) : Prop where
  bag : Bag H b sb
  tab : LamX.Tabs [(P0, qn)] H
  sgs : H sg = some (.lst (signsL.map V.str))
  ne : sg ≠ b
theorem LI.same {b sb sg P0 : Addr} {H H' : Hp} (h : LI b sb sg P0 H) (s : Same H H') : LI b sb sg P0 H' := ⟨h.bag.same s, h.tab.ext s, s _ _ h.sgs, h.ne⟩
theorem LI.keep {b sb sg P0 : Addr} {H H' : Hp} (h : LI b sb sg P0 H) (B : Bag H' b sb) (k : Keep b H H') : LI b sb sg P0 H' := ⟨B, tabs_keep h.tab h.bag k, k _ _ h.ne h.sgs, h.ne⟩
theorem LI.extN {b sb sg P0 : Addr} {H H' : Hp} (h : LI b sb sg P0 H) (e : LamX.ExtN H H') (t : LamX.Tabs [(P0, qn)] H') : LI b sb sg P0 H' := ⟨h.bag.extN e, t, lst_extN h.sgs e, h.ne⟩
theorem tup_kept {b sb p : Addr} {H H' : Hp} {xs : List V} (B : Bag H b sb) (k : Keep b H H') (h : H p = some (.tup xs)) : H' p = some (.tup xs) := by
  obtain ⟨ns, i, j, m, c, B⟩ := B
  exact k _ _ (ne_of h B.hb (by intro z; cases z)) h
theorem lt64 {x : Int} (h : x.natAbs ≤ 10 ^ 18) : x.natAbs < 10 ^ 64 := by omega
theorem lt20 {x : Int} (h : x.natAbs ≤ 10 ^ 18) : x.natAbs < 10 ^ 20 := by omega
theorem rp_pair {x y : Int} (hx : x.natAbs ≤ 10 ^ 18) (hy : y.natAbs ≤ 10 ^ 18) : rp (pairT x y) = some (x, y) := by
  show readP (pairT x y).cps.toList = _
  rw [pair_lets, mk_letters]
  exact read_pairL (lt20 hx) (lt20 hy)
theorem fold_size (x : Array Nat) : ∀ (n : Nat) (a : Array Nat), ((List.replicate n x).foldl (· ++ ·) a).size = a.size + n * x.size
  | 0, a => by simp
  | n + 1, a => by
    rw [List.replicate_succ, List.foldl_cons, fold_size x n, Array.size_append, Nat.add_mul]
    omega
theorem mul_len {x : Str} {n : Nat} (h : 1 < n) (hx : x.length ≠ 0) : (Txt.mul x n).length = n * x.length := by
  unfold Txt.mul
  have h2 : ((n : Int) == 1 || x.length == 0) = false := by
    rw [Bool.or_eq_false_iff]
    exact ⟨beq_eq_false_iff_ne.mpr (by omega), beq_eq_false_iff_ne.mpr hx⟩
  rw [if_neg (by omega), h2, if_neg (by decide)]
  show ((List.replicate n x.cps).foldl (· ++ ·) #[]).size = _
  rw [fold_size]
  show 0 + n * x.cps.size = n * x.cps.size
  omega
theorem big_text : pairT (7 * 10 ^ 38) (-(3 * 10 ^ 38)) = Str.ofString "7" ++ Txt.mul (Str.ofString "0") 38 ++ Str.ofString "-3" ++ Txt.mul (Str.ofString "0") 38 ++ Str.ofString "r" := by decide +kernel
def oddsL : List Str := ["", "r", "0r", "-0", "+1", "1+0r", "0+1r", "1+-2r", "1--2r", "01", "1 r", Txt.mul (Str.ofString "9") 21, Txt.mul (Str.ofString "9") 20 ++ Str.ofString "r", Str.ofString "-" ++ Txt.mul (Str.ofString "9") 20]
def dueLd : PyData := .list (List.replicate 12 .none ++ [.tuple [.int 0, .int (10 ^ 20 - 1)], .tuple [.int (1 - 10 ^ 20), .int 0]])
def duesD : PyData := .list (oddsL.map fun z => dueD (rp z))
theorem dues_same : PyData.eqv duesD dueLd = true := by decide +kernel
theorem dues_shaped : SeqAt.shaped duesD = true := by decide +kernel
theorem dueL_shaped : SeqAt.shaped dueLd = true := by decide +kernel
theorem due_all {K : PySem.W.Frag} {G : Hp} : ∀ {vs : List V} {zs : List Str}, Paired (fun v z => DueT G v (rp z)) vs zs → DpAll K G vs (zs.map fun z => dueD (rp z))
  | _, _, .nil => .nil
  | _, _, .cons h t => .cons h.dp (due_all t)
theorem due_dp {K : PySem.W.Frag} {G : Hp} {t1 t2 : Addr} (h1 : G t1 = some (.tup [.int 0, .int (10 ^ 20 - 1)])) (h2 : G t2 = some (.tup [.int (1 - 10 ^ 20), .int 0])) : DpAll K G (List.replicate 12 .non ++ [.ref t1, .ref t2]) (List.replicate 12 .none ++ [.tuple [.int 0, .int (10 ^ 20 - 1)], .tuple [.int (1 - 10 ^ 20), .int 0]]) := by
  have h : ∀ n : Nat, DpAll K G (List.replicate n .non ++ [.ref t1, .ref t2]) (List.replicate n .none ++ [.tuple [.int 0, .int (10 ^ 20 - 1)], .tuple [.int (1 - 10 ^ 20), .int 0]]) := by
    intro n
    induction n with
    | zero => exact .cons (.tup (SqT.of h1) (.cons (.int _) (.cons (.int _) .nil))) (.cons (.tup (SqT.of h2) (.cons (.int _) (.cons (.int _) .nil))) .nil)
    | succ n ih => exact .cons .non ih
  exact h 12
theorem DueT.put {G : Hp} {D : Addr} {xs acc : List V} {v : V} {o : Option (Int × Int)} (h : DueT G v o) (hD : G D = some (.lst xs)) : DueT (upd G D (.lst acc)) v o := by
  match o, h with
  | none, h => exact h
  | some (m, n), ⟨t, e, h⟩ => exact ⟨t, e, (upd_ne (ne_of h hD (by intro z; cases z))).trans h⟩
/-- a list of what is read, so far -/
structure DueL (H0 : Hp) (D : Addr) (i : Nat) (G : Hp) : Prop where
  same : Same H0 G
  vs : ∃ vs, G D = some (.lst vs) ∧ Paired (fun v z => DueT G v (rp z)) vs (oddsL.take i)
theorem DueL.next {H0 G Ha : Hp} {D : Addr} {i : Nat} {vs : List V} {dv : V} {z : Str} (sG : Same H0 G) (hG : G D = some (.lst vs)) (pG : Paired (fun v z => DueT G v (rp z)) vs (oddsL.take i)) (nD : H0 D = none) (hz : oddsL[i]? = some z) (sa : Same G Ha) (hd : DueT Ha dv (rp z)) : DueL H0 D (i + 1) (upd Ha D (.lst (vs ++ [dv]))) := by
  refine ⟨fun a o e => (upd_ne (ne_of_none e nD)).trans (sa _ _ (sG _ _ e)), _, upd_same, ?_⟩
  rw [List.take_add_one, hz]
  exact Paired.snoc (Paired.mono (fun v z h => (h.same sa).put (sa _ _ hG)) pG) (hd.put (sa _ _ hG))
theorem odds_len : ∀ z ∈ oddsL, z.length ≤ 1000 := by decide +kernel
theorem odd_at {i : Nat} {v : V} (hv : (oddsL.map V.str)[i]? = some v) : ∃ z, oddsL[i]? = some z ∧ v = .str z ∧ z.length ≤ 1000 := by
  rw [List.getElem?_map] at hv
  cases e : oddsL[i]? with
  | none =>
    rw [e] at hv
    cases hv
  | some t =>
    rw [e] at hv
    cases hv
    exact ⟨t, rfl, rfl, odds_len t (List.mem_of_getElem? e)⟩
theorem tabs_lst {T : List (Addr × Str)} {G : Hp} {D : Addr} {xs : List V} {o : HO} (t : LamX.Tabs T G) (hD : G D = some (.lst xs)) : LamX.Tabs T (upd G D o) := by
  intro p hp
  obtain ⟨ps, h1, h2, h3⟩ := t p hp
  refine ⟨ps, (upd_ne (ne_of h1 hD (by intro z; cases z))).trans h1, h2, fun pos cv hc => ?_⟩
  obtain ⟨c', e1, e2⟩ := h3 pos cv hc
  exact ⟨c', e1, (upd_ne (ne_of e2 hD (by intro z; unfold LamX.CodeO at z; cases z))).trans e2⟩
theorem fit2 {i j : Str} (hi : i.length ≤ 5100) (hj : j.length ≤ 5100) : i.length + j.length ≤ sizeLine := by
  rw [sz_eq]
  omega
theorem longs {z9 : Str} (n9 : z9.length = 5000) : ∀ z ∈ [z9, z9 ++ Str.ofString "r", Str.ofString "-" ++ z9, Str.ofString "1+" ++ z9 ++ Str.ofString "r", z9 ++ Str.ofString "-1r"], 5000 ≤ z.length ∧ z.length ≤ 5010 := by
  have e1 : (Str.ofString "r").length = 1 := by decide +kernel
  have e2 : (Str.ofString "-").length = 1 := by decide +kernel
  have e3 : (Str.ofString "1+").length = 2 := by decide +kernel
  have e4 : (Str.ofString "-1r").length = 3 := by decide +kernel
  intro z hz
  simp only [List.mem_cons, List.not_mem_nil, or_false] at hz
  rcases hz with rfl | rfl | rfl | rfl | rfl <;> (try simp only [Str.length_append]) <;> omega
theorem str_at {zs : List Str} {R : Str → Prop} {j : Nat} {v : V} (hv : (zs.map V.str)[j]? = some v) (h : ∀ z ∈ zs, R z) : ∃ t, v = .str t ∧ R t := by
  rw [List.getElem?_map] at hv
  cases e : zs[j]? with
  | none =>
    rw [e] at hv
    cases hv
  | some t =>
    rw [e] at hv
    cases hv
    exact ⟨t, rfl, h t (List.mem_of_getElem? e)⟩
section
variable {base : Heap} {K : PySem.W.Frag} {mg : Str → Option Value} {w : World}
theorem parse_own (T : Txt K mg) {H : Hp} {x y : Int} {Q : VK} {E : XK} (hx : x.natAbs ≤ 10 ^ 18) (hy : y.natAbs ≤ 10 ^ 18) (q : ∀ p H', Same H H' → H' p = some (.tup [.int x, .int y]) → Q (.ref p) H') : spParse T [.str (pairT x y)] H Q E := by
  have e := rp_pair hx hy
  refine ⟨(pairT x y).cps.toList, by rw [mk_self], by have := pair_len (lt64 hx) (lt64 hy); rw [TL.len_tl] at this; exact Nat.le_trans this (by decide), fun hn => ?_, fun m n t H' hm s ht => ?_⟩
  · rw [show readP (pairT x y).cps.toList = _ from e] at hn
    cases hn
  · rw [show readP (pairT x y).cps.toList = _ from e] at hm
    cases hm
    exact q t H' s ht
def spLaw (K : PySem.W.Frag) (P0 : Addr) : Sp := fun vs H Q _ => ∃ (a : Addr) (ns : List Int), vs = [.ref a] ∧ SqL K H a (ns.map V.int) ∧ ns.length ≤ 63 ∧ H P0 = some (.tbl #[]) ∧ ∀ H', Q (.bl true) H'
theorem ok_law {f c P0 : Addr} {oc kV doc pm ct : Value} {od an : Option Addr} {osl : Array (Option Value)} (lk : K.lookup f = some ⟨oc, od, .func (PySem.W.fnOf "law" "law" (defArgs s_law) (defBody s_law) (defScope s_law) .none kV doc pm an (.ref c) ct), osl⟩) (hcd : PySem.W.codeIn K (.ref c) "law" = true)
    (TB : LamX.TabB base mg c P0) (T : Txt K mg) : FnOk PySem.Challenge.pw_grainyard_k63_texts_of_pairs w K mg base CX0 12 f (PySem.W.fnOf "law" "law" (defArgs s_law) (defBody s_law) (defScope s_law) .none kV doc pm an (.ref c) ct) ["_law_script"] (spLaw K P0) := by
  refine fn_of lk hcd sc_law (fun vs H Q E h => ?_) (fun A outer s H vs Q E hr h => ?_)
  · obtain ⟨a, ns, rfl, _⟩ := h
    rfl
  · obtain ⟨a, ns, rfl, hS, hlen, hP, q⟩ := h
    refine ⟨_, PSs.nox (pss_cons (ps_set (i := 1) sc_law.nd rfl (Or.inr rfl) (pe_call (ok_source T) (hr.mono (by decide)) (by rfl) T.g_source T.F_source.kp T.b_source .nil pass0 (pa_cons (pv 0) pa_nil)))
      (pss_cons (ps_set (i := 2) sc_law.nd rfl (Or.inr rfl) (pe_lst (pa_cons pe_str (pa_cons pe_str (pa_cons pe_str (pa_cons pe_str (pa_cons pe_str (pa_cons pe_str (pa_cons pe_str (pa_cons pe_str (pa_cons pe_str (pa_cons pe_str (pa_cons pe_str (pa_cons pe_str pa_nil))))))))))))))
      (Evl.pss_cut (ps_for PassesOwn.never rfl (pi_range1 (by rfl) T.n_range (pa_cons pe_int pa_nil)) (pg_name (i := 3) sc_law.nd rfl (Or.inl rfl)) (Evl.pss_cut (ps_set (i := 8) sc_law.nd rfl (Or.inl rfl) (pe_call (ok_of T) (hr.mono (by decide)) (by rfl) T.g_of T.F_of.kp T.b_of .nil pass0 (pa_cons (pv 1) (pa_cons (pe_lst (pa_cons (pe_call (ok_any_pair T) (hr.mono (by decide)) (by rfl) T.g_any_pair T.F_any_pair.kp T.b_any_pair .nil pass0 (pa_cons (pv 1) pa_nil)) (pa_cons (pe_tup (pa_cons (pe_call (ok_a_number T) (hr.mono (by decide)) (by rfl) T.g_a_number T.F_a_number.kp T.b_a_number .nil pass0 (pa_cons (pv 1) pa_nil)) (pa_cons (pe_call (ok_a_number T) (hr.mono (by decide)) (by rfl) T.g_a_number T.F_a_number.kp T.b_a_number .nil pass0 (pa_cons (pv 1) pa_nil)) pa_nil))) (pa_cons (pe_tup (pa_cons pe_int (pa_cons (pe_call (ok_a_number T) (hr.mono (by decide)) (by rfl) T.g_a_number T.F_a_number.kp T.b_a_number .nil pass0 (pa_cons (pv 1) pa_nil)) pa_nil))) (pa_cons (pe_tup (pa_cons (pe_call (ok_a_number T) (hr.mono (by decide)) (by rfl) T.g_a_number T.F_a_number.kp T.b_a_number .nil pass0 (pa_cons (pv 1) pa_nil)) (pa_cons pe_int pa_nil))) pa_nil))))) pa_nil))))
      (pss_cons (ps_set (i := 9) sc_law.nd rfl (Or.inl rfl) (pe_call (ok_lpair_text T) (hr.mono (by decide)) (by rfl) T.g_lpair_text T.F_lpair_text.kp T.b_lpair_text .nil pass0 (pa_cons (pv 8) pa_nil)))
      (Evl.pss_cut (ps_if (pt_not (pt_val (pe_call (ok_like T) (hr.mono (by decide)) (by rfl) T.g_like T.F_like.kp T.b_like .nil pass0 (pa_cons (pe_lst (pa_cons (pe_call (ok_pair_text T) (hr.mono (by decide)) (by rfl) T.g_pair_text T.F_pair_text.kp T.b_pair_text .nil pass0 (pa_cons (pv 8) pa_nil)) (pa_cons (pe_call (ok_parse_pair T) (hr.mono (by decide)) (by rfl) T.g_parse_pair T.F_parse_pair.kp T.b_parse_pair .nil pass_never (pa_cons (pv 9) pa_nil)) (pa_cons (pe_kwOnly (ok_parse_pair T) (hr.mono (by decide)) (by rfl) T.g_parse_pair T.F_parse_pair.kp T.kb_parse_pair_text pass_never (pk_cons (pe_kwOnly (ok_pair_text T) (hr.mono (by decide)) (by rfl) T.g_pair_text T.F_pair_text.kp T.kb_pair_text_pair pass0 (pk_cons (pv 8) pk_nil)) pk_nil)) pa_nil)))) (pa_cons (pe_lst (pa_cons (pv 9) (pa_cons (pv 8) (pa_cons (pv 8) pa_nil)))) pa_nil))))) (pss_one (ps_ret pe_bl)) pss_nil)
      (Evl.pss_cut (ps_set (i := 10) sc_law.nd rfl (Or.inl rfl) (pe_call (ok_bent_text T) (hr.mono (by decide)) (by rfl) T.g_bent_text T.F_bent_text.kp T.b_bent_text .nil pass0 (pa_cons (pv 1) (pa_cons (pv 9) (pa_cons (pv 2) pa_nil)))))
      (Evl.pss_cut (ps_set (i := 11) sc_law.nd rfl (Or.inl rfl) (pe_lst (pa_cons (pv 10) (pa_cons (pe_call (ok_bent_text T) (hr.mono (by decide)) (by rfl) T.g_bent_text T.F_bent_text.kp T.b_bent_text .nil pass0 (pa_cons (pv 1) (pa_cons (pv 10) (pa_cons (pv 2) pa_nil)))) (pa_cons (pe_join pe_str (pe_lc (own := [("_law_k", 15)]) (g := (gName 15)) (tt := tYes) (by rfl) sc_law.nd (pi_range1 (by rfl) T.n_range (pa_cons (pe_call (ok_pull T) (hr.mono (by decide)) (by rfl) T.g_pull T.F_pull.kp T.b_pull .nil pass0 (pa_cons (pv 1) (pa_cons pe_int pa_nil))) pa_nil)) (blkOk_by (own := [("_law_k", 15)]) (N := ["_law_script", "_law_bag", "_law_signs", "_law_turn", "_law_long", "_law_word", "_law_odd", "_law_due", "_law_pair_z", "_law_text_z", "_law_bent", "_law_some", "_law_big", "_law_many", "_law_found", "_law_k"]) (sc := defScope s_law) (by decide +kernel)) (fun _ _ _ _ _ => (pg_name (i := 15) sc_law.nd rfl (Or.inl rfl))) (fun _ _ _ _ _ => pts_nil) (fun _ _ _ _ _ => (pe_call (ok_of T) (hr.mono (by decide)) (by rfl) T.g_of T.F_of.kp T.b_of .nil pass0 (pa_cons (pv 1) (pa_cons (pv 2) pa_nil)))))) pa_nil)))))
      (pss_one (ps_for PassesOwn.never rfl (pi_list (pv 11)) (pg_name (i := 5) sc_law.nd rfl (Or.inr rfl)) (pss_cons (ps_set (i := 7) sc_law.nd rfl (Or.inl rfl) (pe_call (ok_pair_read T) (hr.mono (by decide)) (by rfl) T.g_pair_read T.F_pair_read.kp T.b_pair_read .nil pass0 (pa_cons (pv 5) pa_nil)))
      (pss_cons (ps_set (i := 14) sc_law.nd rfl (Or.inl rfl) (pe_try (k := 7) T (by rfl) TB rfl (hr.mono (by decide)) (LamX.lamS_by (sc := defScope s_law) (by decide +kernel)) rfl (fun _ _ _ _ _ => rfl) (fun A outer s H E f c' hr2 => (pe_call (ok_parse_pair (w := w) T) (hr2.mono (by decide)) (by rfl) T.g_parse_pair T.F_parse_pair.kp T.b_parse_pair .nil (passes_call (takes_of rfl rfl rfl rfl) (fun _ _ _ _ h => h)) (pa_cons (pv 5) pa_nil)))))
      (pss_one (ps_if (pt_cmpR (op_neD hr.units) (pv 14) (pe_ifExp (pt_cmpR op_notN (pv 7) pe_non (nomark _)) (pe_tup (pa_cons pe_str (pa_cons (pv 7) pa_nil))) (pe_tup (pa_cons pe_str (pa_cons pe_int pa_nil)))) (nomark _)) (pss_one (ps_ret pe_bl)) pss_nil))))))))))))
      (pss_cons (ps_set (i := 4) sc_law.nd rfl (Or.inl rfl) (pe_op op_strmul pe_str pe_int))
      (Evl.pss_cut (ps_for PassesOwn.never rfl (pi_tup (pe_tup (pa_cons (pv 4) (pa_cons (pe_op op_add_str (pv 4) pe_str) (pa_cons (pe_op op_add_str pe_str (pv 4)) (pa_cons (pe_op op_add_str (pe_op op_add_str pe_str (pv 4)) pe_str) (pa_cons (pe_op op_add_str (pv 4) pe_str) pa_nil))))))) (pg_name (i := 5) sc_law.nd rfl (Or.inr rfl)) (pss_one (ps_if (pt_cmpR (op_neD hr.units) (pe_try (k := 7) T (by rfl) TB rfl (hr.mono (by decide)) (LamX.lamS_by (sc := defScope s_law) (by decide +kernel)) rfl (fun _ _ _ _ _ => rfl) (fun A outer s H E f c' hr2 => (pe_call (ok_parse_pair (w := w) T) (hr2.mono (by decide)) (by rfl) T.g_parse_pair T.F_parse_pair.kp T.b_parse_pair .nil (passes_call (takes_of rfl rfl rfl rfl) (fun _ _ _ _ h => h)) (pa_cons (pv 5) pa_nil)))) (pe_tup (pa_cons pe_str (pa_cons pe_int pa_nil))) (nomark _)) (pss_one (ps_ret pe_bl)) pss_nil)))
      (Evl.pss_cut (ps_asg (pe_tup (pa_cons (pe_call (ok_scaled T) (hr.mono (by decide)) (by rfl) T.g_scaled T.F_scaled.kp T.b_scaled .nil pass0 (pa_cons (pe_call (ok_scaled T) (hr.mono (by decide)) (by rfl) T.g_scaled T.F_scaled.kp T.b_scaled .nil pass0 (pa_cons (pe_tup (pa_cons pe_int (pa_cons (pe_un un_neg pe_int) pa_nil))) (pa_cons (pe_op op_pow pe_int pe_int) pa_nil))) (pa_cons (pe_op op_pow pe_int pe_int) pa_nil))) (pa_cons (pe_op op_strmul pe_str pe_int) pa_nil))) (pg_tup (by rfl) (pgs_cons (pg_name (i := 12) sc_law.nd rfl (Or.inr rfl)) (pgs_cons (pg_name (i := 13) sc_law.nd rfl (Or.inl rfl)) pgs_nil))))
      (Evl.pss_cut (ps_if (PW.pt (pw_or (pt_cmpR op_ne (pe_call (ok_pair_text T) (hr.mono (by decide)) (by rfl) T.g_pair_text T.F_pair_text.kp T.b_pair_text .nil pass0 (pa_cons (pv 12) pa_nil)) (pe_op op_add_str (pe_op op_add_str (pe_op op_add_str (pe_op op_add_str pe_str (pv 13)) pe_str) (pv 13)) pe_str) (nomark _)) (pw_or1 (pt_cmpR (op_neD hr.units) (pe_try (k := 7) T (by rfl) TB rfl (hr.mono (by decide)) (LamX.lamS_by (sc := defScope s_law) (by decide +kernel)) rfl (fun _ _ _ _ _ => rfl) (fun A outer s H E f c' hr2 => (pe_call (ok_parse_pair (w := w) T) (hr2.mono (by decide)) (by rfl) T.g_parse_pair T.F_parse_pair.kp T.b_parse_pair .nil (passes_call (takes_of rfl rfl rfl rfl) (fun _ _ _ _ h => h)) (pa_cons (pe_call (ok_pair_text (w := w) T) (hr2.mono (by decide)) (by rfl) T.g_pair_text T.F_pair_text.kp T.b_pair_text .nil pass0 (pa_cons (pv 12) pa_nil)) pa_nil)))) (pe_tup (pa_cons pe_str (pa_cons pe_int pa_nil))) (nomark _))))) (pss_one (ps_ret pe_bl)) pss_nil)
      (pss_cons (ps_set (i := 6) sc_law.nd rfl (Or.inl rfl) (pe_lst (pa_cons pe_str (pa_cons pe_str (pa_cons pe_str (pa_cons pe_str (pa_cons pe_str (pa_cons pe_str (pa_cons pe_str (pa_cons pe_str (pa_cons pe_str (pa_cons pe_str (pa_cons pe_str (pa_cons (pe_op op_strmul pe_str pe_int) (pa_cons (pe_op op_add_str (pe_op op_strmul pe_str pe_int) pe_str) (pa_cons (pe_op op_add_str pe_str (pe_op op_strmul pe_str pe_int)) pa_nil))))))))))))))))
      (Evl.pss_cut (ps_set (i := 7) sc_law.nd rfl (Or.inl rfl) (pe_op op_cat (pe_op op_rep (pe_lst (pa_cons pe_non pa_nil)) pe_int) (pe_lst (pa_cons (pe_tup (pa_cons pe_int (pa_cons (pe_op op_sub (pe_op op_pow pe_int pe_int) pe_int) pa_nil))) (pa_cons (pe_tup (pa_cons (pe_op op_sub pe_int (pe_op op_pow pe_int pe_int)) (pa_cons pe_int pa_nil))) pa_nil)))))
      (pss_one (ps_ret (pe_and (pe_cmpR (op_eqD hr.units) (pe_lc (own := [("_law_word", 5)]) (g := (gName 5)) (tt := tYes) (by rfl) sc_law.nd (pi_list (pv 6)) (blkOk_by (own := [("_law_word", 5)]) (N := ["_law_script", "_law_bag", "_law_signs", "_law_turn", "_law_long", "_law_word", "_law_odd", "_law_due", "_law_pair_z", "_law_text_z", "_law_bent", "_law_some", "_law_big", "_law_many", "_law_found", "_law_k"]) (sc := defScope s_law) (by decide +kernel)) (fun _ _ _ _ _ => (pg_name (i := 5) sc_law.nd rfl (Or.inl rfl))) (fun _ _ _ _ _ => pts_nil) (fun _ _ _ _ _ => (pe_call (ok_pair_read T) (hr.mono (by decide)) (by rfl) T.g_pair_read T.F_pair_read.kp T.b_pair_read .nil pass0 (pa_cons (pv 5) pa_nil)))) (pv 7) (nomark _)) (pe_one (pe_callB (cr_all rfl) (by rfl) T.n_all (by decide +kernel) (pa_cons (pe_lc (own := [("_law_word", 5)]) (g := (gName 5)) (tt := tYes) (te := tOp rEq (tOp (rIxT K) (LamX.tLam [(P0, qn)] (TTry K T.r_GrainError) (fun E => tCall (spParse T) [] E (tCons (tVar 5) tNil))) (tC (.int 0))) (tIf (tTest (tOp (fun x y H Q => y = .non ∧ Q (.bl (!decide (x = .non))) H) (tCall spReadP [] E0 (tCons (tVar 5) tNil)) (tC .non))) (tC (.str "told")) (tC (.str "BadText")))) (by rfl) sc_law.nd (pi_list (pv 6)) (blkOk_by (own := [("_law_word", 5)]) (N := ["_law_script", "_law_bag", "_law_signs", "_law_turn", "_law_long", "_law_word", "_law_odd", "_law_due", "_law_pair_z", "_law_text_z", "_law_bent", "_law_some", "_law_big", "_law_many", "_law_found", "_law_k"]) (sc := defScope s_law) (by decide +kernel)) (fun _ _ _ _ _ => (pg_name (i := 5) sc_law.nd rfl (Or.inr rfl))) (fun _ _ _ _ _ => pts_nil) (fun _ _ _ _ _ => (by (refine pe_cmpR op_eq ?ha ?hb (nomark _)); (case hb => exact (pe_ifExp (pt_cmpR op_notN (pe_call (ok_pair_read T) (hr.mono (by decide)) (by rfl) T.g_pair_read T.F_pair_read.kp T.b_pair_read .nil pass0 (pa_cons (pv 5) pa_nil)) pe_non (nomark _)) pe_str pe_str)); (refine pe_ix ix_tup ?hc pe_int (fun _ _ => rfl)); (refine pe_tryB (k := 7) T rfl rfl rfl (by rfl) TB rfl (hr.mono (by decide)) (LamX.lamS_by (by rfl)) rfl (fun _ _ _ _ _ => rfl) ?hd); (intro A outer s H E f c' hr2); exact (pe_call (ok_parse_pair (w := w) T) (hr2.mono (by decide)) (by rfl) T.g_parse_pair T.F_parse_pair.kp T.b_parse_pair .nil (passes_call (takes_of rfl rfl rfl rfl) (fun _ _ _ _ h => h)) (pa_cons (pv 5) pa_nil))))) pa_nil))))))))))))))), ?_⟩
    refine ⟨_, rfl, a, ns, rfl, hS, hlen, fun b sb H1 nb s1 B1 => ⟨by show 12 ≤ sizeLine; decide, fun sg nsg => ?_⟩⟩
    have L0 : LI b sb sg P0 (upd H1 sg (.lst (signsL.map V.str))) := ⟨B1.new nsg, fun p hp => by
      rw [List.mem_singleton.mp hp]
      exact LamX.TabS.nil ((same_new nsg) _ _ (s1 _ _ hP)), upd_same, B1.ne nsg⟩
    refine ⟨fun σ H' => (∃ y3 y4 y5 y6 y7 y8 y9 y10 y11 y12 y13 y14 y15, σ = [some (.ref a), some (.ref b), some (.ref sg), y3, y4, y5, y6, y7, y8, y9, y10, y11, y12, y13, y14, y15]) ∧ LI b sb sg P0 H', ?_, ?_⟩
    · refine ⟨6, rfl, by decide, by decide, for_range (lo := 0) (n := 6) (fun i σ H' => (∃ y3 y4 y5 y6 y7 y8 y9 y10 y11 y12 y13 y14 y15, σ = [some (.ref a), some (.ref b), some (.ref sg), y3, y4, y5, y6, y7, y8, y9, y10, y11, y12, y13, y14, y15]) ∧ LI b sb sg P0 H') ⟨⟨none, none, none, none, none, none, none, none, none, none, none, none, none, rfl⟩, L0⟩ ?_ ?_⟩
      · rintro i σ H2 hi ⟨⟨y3, y4, y5, y6, y7, y8, y9, y10, y11, y12, y13, y14, y15, rfl⟩, L2⟩
        -- a pair
        refine ⟨fun σ H' => ∃ p x y, σ = [some (.ref a), some (.ref b), some (.ref sg), some (.int (0 + (i : Int))), y4, y5, y6, y7, some (.ref p), y9, y10, y11, y12, y13, y14, y15] ∧ H' p = some (.tup [.int x, .int y]) ∧ x.natAbs ≤ 10 ^ 18 ∧ y.natAbs ≤ 10 ^ 18 ∧ LI b sb sg P0 H', ?_, ?_⟩
        · refine ⟨_, rfl, _, rfl, b, sb, rfl, L2.bag, fun x1 y1 p1 Ha x1a x1b y1a y1b np1 hp1 Ba ka => ?_⟩
          have La := L2.keep Ba ka
          refine ⟨_, rfl, b, sb, rfl, Ba, fun x2 Hb x2a x2b Bb kb => ⟨_, rfl, b, sb, rfl, Bb, fun y2 Hc y2a y2b Bc kc => ⟨by show 2 ≤ sizeLine; decide, fun p2 np2 => ?_⟩⟩⟩
          have Lc := (La.keep Bb kb).keep Bc kc
          have h1c := tup_kept Bb kc (tup_kept Ba kb hp1)
          have e2 := same_new (o := .tup [.int x2, .int y2]) np2
          have Ld := Lc.same e2
          have h1d := e2 _ _ h1c
          have h2d : upd Hc p2 (.tup [.int x2, .int y2]) p2 = some (.tup [.int x2, .int y2]) := upd_same
          generalize upd Hc p2 (.tup [.int x2, .int y2]) = Hd at Ld h1d h2d ⊢
          refine ⟨_, rfl, b, sb, rfl, Ld.bag, fun y3' He y3a y3b Be ke => ⟨by show 2 ≤ sizeLine; decide, fun p3 np3 => ?_⟩⟩
          have Le := Ld.keep Be ke
          have h1e := tup_kept Ld.bag ke h1d
          have h2e := tup_kept Ld.bag ke h2d
          have e3 := same_new (o := .tup [.int 0, .int y3']) np3
          have Lf := Le.same e3
          have h1f := e3 _ _ h1e
          have h2f := e3 _ _ h2e
          have h3f : upd He p3 (.tup [.int 0, .int y3']) p3 = some (.tup [.int 0, .int y3']) := upd_same
          generalize upd He p3 (.tup [.int 0, .int y3']) = Hf at Lf h1f h2f h3f ⊢
          refine ⟨_, rfl, b, sb, rfl, Lf.bag, fun x4 Hg x4a x4b Bg kg => ⟨by show 2 ≤ sizeLine; decide, fun p4 np4 => ⟨by show 4 ≤ sizeLine; decide, fun l nl => ?_⟩⟩⟩
          have Lg := Lf.keep Bg kg
          have e4 := same_new (o := .tup [.int x4, .int 0]) np4
          have e5 := same_new (o := .lst [.ref p1, .ref p2, .ref p3, .ref p4]) nl
          have ee := e4.trans e5
          have h1 := ee _ _ (tup_kept Lf.bag kg h1f)
          have h2 := ee _ _ (tup_kept Lf.bag kg h2f)
          have h3 := ee _ _ (tup_kept Lf.bag kg h3f)
          have h4 := e5 _ _ (upd_same (H := Hg) (a := p4) (o := .tup [.int x4, .int 0]))
          have Lh := Lg.same ee
          have hl : upd (upd Hg p4 (.tup [.int x4, .int 0])) l (.lst [.ref p1, .ref p2, .ref p3, .ref p4]) l = some (.lst [.ref p1, .ref p2, .ref p3, .ref p4]) := upd_same
          have nlb := (Lg.bag.same e4).ne nl
          generalize upd (upd Hg p4 (.tup [.int x4, .int 0])) l (.lst [.ref p1, .ref p2, .ref p3, .ref p4]) = Hh at h1 h2 h3 h4 Lh hl ⊢
          refine ⟨b, sb, l, _, rfl, Lh.bag, hl, nlb, by simp, by simp, fun j v Hi hv Bi ki => ?_⟩
          have Li := Lh.keep Bi ki
          match j, hv with
          | 0, hv => cases hv; exact ⟨p1, x1, y1, rfl, tup_kept Lh.bag ki h1, by omega, by omega, Li⟩
          | 1, hv => cases hv; exact ⟨p2, x2, y2, rfl, tup_kept Lh.bag ki h2, by omega, by omega, Li⟩
          | 2, hv => cases hv; exact ⟨p3, 0, y3', rfl, tup_kept Lh.bag ki h3, by decide, by omega, Li⟩
          | 3, hv => cases hv; exact ⟨p4, x4, 0, rfl, tup_kept Lh.bag ki h4, by omega, by decide, Li⟩
          | n + 4, hv => simp at hv
        rintro σ H3 ⟨p, x, y, rfl, hp, hx, hy, L3⟩
        refine ⟨_, rfl, p, x, y, rfl, SqT.of hp, lt64 hx, lt64 hy, fun H4 s4 => ?_⟩
        have hp4 := s4 _ _ hp
        have L4 := L3.same s4
        have lz := pair_len (lt64 hx) (lt64 hy)
        refine ⟨fun σ H' => σ = [some (.ref a), some (.ref b), some (.ref sg), some (.int (0 + (i : Int))), y4, y5, y6, y7, some (.ref p), some (.str (pairT x y)), y10, y11, y12, y13, y14, y15] ∧ LI b sb sg P0 H', ?_, ?_⟩
        · refine ⟨_, rfl, p, x, y, rfl, SqT.of hp4, lt64 hx, lt64 hy, fun Ha sa => ⟨_, rfl, ?_⟩⟩
          unfold tNil
          refine parse_own T hx hy fun p1 Hb sb' hp1 => ?_
          refine ⟨_, rfl, rfl, p, x, y, rfl, SqT.of ((sa.trans sb') _ _ hp4), lt64 hx, lt64 hy, fun Hc sc => ⟨rfl, ?_⟩⟩
          refine parse_own T hx hy fun p2 Hd sd hp2 => ?_
          refine ⟨by show 3 ≤ sizeLine; decide, fun l1 n1 => ⟨_, rfl, _, rfl, _, rfl, by show 3 ≤ sizeLine; decide, fun l2 n2 => ?_⟩⟩
          have e1 := same_new (o := .lst [.str (pairT x y), .ref p1, .ref p2]) n1
          have e2 := same_new (o := .lst [.str (pairT x y), .ref p, .ref p]) n2
          have ee := e1.trans e2
          have hpE := (sa.trans (sb'.trans (sc.trans (sd.trans ee)))) _ _ hp4
          exact ⟨_, _, rfl, Lk.lists (e2 _ _ upd_same) upd_same (by simp) (.cons (Lk.flat (.inr (.inr (.inr ⟨_, rfl, rfl⟩)))) (.cons (Lk.pair ((sc.trans (sd.trans ee)) _ _ hp1) hpE rfl rfl) (.cons (Lk.pair (ee _ _ hp2) hpE rfl rfl) .nil))), fun H' s' => ⟨true, rfl, iteF ⟨rfl, L4.same (sa.trans (sb'.trans (sc.trans (sd.trans (ee.trans s')))))⟩⟩⟩
        rintro σ H5 ⟨rfl, L5⟩
        -- a bent text
        refine ⟨fun σ H' => ∃ z : Str, σ = [some (.ref a), some (.ref b), some (.ref sg), some (.int (0 + (i : Int))), y4, y5, y6, y7, some (.ref p), some (.str (pairT x y)), some (.str z), y11, y12, y13, y14, y15] ∧ z.length ≤ 303 ∧ LI b sb sg P0 H', ?_, ?_⟩
        · exact ⟨_, rfl, _, rfl, _, rfl, b, sb, sg, _, rfl, L5.bag, L5.sgs, L5.ne, by omega, fun z Ha lz' Ba ka => ⟨z, rfl, by omega, L5.keep Ba ka⟩⟩
        rintro σ H6 ⟨z, rfl, hz, L6⟩
        -- some texts
        refine ⟨fun σ H' => ∃ (l : Addr) (zs : List Str), σ = [some (.ref a), some (.ref b), some (.ref sg), some (.int (0 + (i : Int))), y4, y5, y6, y7, some (.ref p), some (.str (pairT x y)), some (.str z), some (.ref l), y12, y13, y14, y15] ∧ H' l = some (.lst (zs.map V.str)) ∧ (∀ z ∈ zs, z.length ≤ 1000) ∧ LI b sb sg P0 H', ?_, ?_⟩
        · refine ⟨_, rfl, _, rfl, _, rfl, _, rfl, b, sb, sg, _, rfl, L6.bag, L6.sgs, L6.ne, by omega, fun z2 Ha lz2 Ba ka => ?_⟩
          have La := L6.keep Ba ka
          refine ⟨⟨_, rfl⟩, _, rfl, b, sb, 6, rfl, Ba, by decide, by decide, fun c Hb c0 c6 Bb kb => ?_⟩
          have Lb := La.keep Bb kb
          obtain ⟨m, rfl⟩ := Int.eq_ofNat_of_zero_le c0
          refine ⟨(m : Int), rfl, by omega, by omega, fun D nD => lc_range (lo := 0) (n := m) (fun i G => Bits Hb b sb D i G) (Bits.first Bb nD) ?_ ?_⟩
          · rintro j G hj hC
            refine ⟨rfl, _, rfl, _, rfl, b, sb, sg, _, rfl, hC.bag, hC.keep _ _ Lb.ne Lb.sgs, Lb.ne, by decide, by decide, fun k v G' hv B' k' => ?_⟩
            obtain ⟨c, rfl, hc⟩ : ∃ c : Str, v = .str c ∧ c.length ≤ 3 := by
              rw [List.getElem?_map] at hv
              cases e : signsL[k]? with
              | none =>
                rw [e] at hv
                cases hv
              | some c =>
                rw [e] at hv
                cases hv
                exact ⟨c, rfl, signs_len c (List.mem_of_getElem? e)⟩
            exact hC.next Bb nD B' k' (by omega) hc
          rintro Hc hC
          obtain ⟨ys, h1, h2, h3⟩ := hC.join (K := K) (by omega)
          have Lc := Lb.keep hC.bag hC.keep
          refine ⟨_, D, ys, rfl, rfl, .inl h1, h2, by show 3 ≤ sizeLine; decide, fun l nl => ⟨l, [z, z2, _], rfl, upd_same, ?_, Lc.same (same_new nl)⟩⟩
          intro y hy
          simp only [List.mem_cons, List.not_mem_nil, or_false] at hy
          rcases hy with rfl | rfl | rfl <;> omega
        rintro σ H7 ⟨l, zs, rfl, hl, lzs, L7⟩
        refine ⟨_, rfl, l, rfl, ⟨_, SqL.of hl⟩, for_list (K := K) (a := l) (xs := zs.map V.str) (fun j σ H' => (∃ y5 y7 y14, σ = [some (.ref a), some (.ref b), some (.ref sg), some (.int (0 + (i : Int))), y4, y5, y6, y7, some (.ref p), some (.str (pairT x y)), some (.str z), some (.ref l), y12, y13, y14, y15]) ∧ H' l = some (.lst (zs.map V.str)) ∧ LI b sb sg P0 H') ⟨⟨_, _, _, rfl⟩, hl, L7⟩ (fun j σ H' _ z => SqL.of z.2.1) ?_ ?_⟩
        · rintro j v σ H8 hv ⟨⟨u5, u7, u14, rfl⟩, hl8, L8⟩
          obtain ⟨t, rfl, ht⟩ : ∃ t : Str, v = .str t ∧ t.length ≤ 1000 := by
            rw [List.getElem?_map] at hv
            cases e : zs[j]? with
            | none =>
              rw [e] at hv
              cases hv
            | some t =>
              rw [e] at hv
              cases hv
              exact ⟨t, rfl, lzs t (List.mem_of_getElem? e)⟩
          refine ⟨_, rfl, ?_⟩
          unfold tNil
          refine read_due (by omega) fun dv Ha sa hd => ?_
          have La := L8.same sa
          refine ⟨La.tab, fun Hb eb tb => ⟨_, rfl, ?_⟩⟩
          have Lb := La.extN eb tb
          have hlb := lst_extN (sa _ _ hl8) eb
          have hdb := hd.extN eb
          refine parse_told (Q := ?Q) T ?hE ?hQ (by omega) ?q
          case hE => rfl
          case hQ => rfl
          intro f Hc sc hf
          have Lc := Lb.same sc
          have hlc := sc _ _ hlb
          have hdc := hdb.same sc
          refine ⟨_, rfl, _, rfl, rfl, _, rfl, ?_⟩
          clear hd hdb
          generalize rp t = o at hdc hf
          match o, hdc, hf with
          | none, hdc, hf =>
            obtain rfl : dv = V.non := hdc
            refine iteF ⟨by show 2 ≤ sizeLine; decide, fun q nq => ⟨_, _, FoundT.dp (o := none) (FoundT.same (o := none) hf (same_new nq)), FoundT.dp (o := none) upd_same, found_shaped none, found_shaped none, _, rfl, ?_⟩⟩
            rw [found_same none]
            exact iteF ⟨⟨_, _, _, rfl⟩, (same_new nq) _ _ hlc, Lc.same (same_new nq)⟩
          | some (m, n), ⟨u, hu0, hu⟩, hf =>
            subst hu0
            refine iteT ⟨_, rfl, by show 2 ≤ sizeLine; decide, fun q nq => ⟨_, _, FoundT.dp (o := some (m, n)) (FoundT.same (o := some (m, n)) hf (same_new nq)), FoundT.dp (o := some (m, n)) ⟨u, upd_same, (same_new nq) _ _ hu⟩, found_shaped _, found_shaped _, _, rfl, ?_⟩⟩
            rw [found_same (some (m, n))]
            exact iteF ⟨⟨_, _, _, rfl⟩, (same_new nq) _ _ hlc, Lc.same (same_new nq)⟩
        · rintro σ H8 ⟨⟨u5, u7, u14, rfl⟩, hl8, L8⟩
          exact ⟨⟨_, _, _, _, _, _, _, _, _, _, _, _, _, rfl⟩, L8⟩
      · rintro σ H2 h
        exact h
    rintro σ H2 ⟨⟨y3, y4, y5, y6, y7, y8, y9, y10, y11, y12, y13, y14, y15, rfl⟩, L2⟩
    -- long texts
    refine ⟨_, _, rfl, rfl, ⟨by decide, fun _ _ => by decide +kernel, fun _ _ => by decide +kernel⟩, ?_⟩
    have n9 : (Txt.mul (Str.ofString "9") 5000).length = 5000 := mul_len (n := 5000) (by decide) (by decide +kernel)
    generalize Txt.mul (Str.ofString "9") 5000 = z9 at n9 ⊢
    have c1 : (Str.ofString "1+" ++ z9).length ≤ 5100 := by
      rw [Str.length_append, n9]
      decide +kernel
    refine ⟨fun σ H' => (∃ y5, σ = [some (.ref a), some (.ref b), some (.ref sg), y3, some (.str z9), y5, y6, y7, y8, y9, y10, y11, y12, y13, y14, y15]) ∧ LI b sb sg P0 H', ?_, ?_⟩
    · have m9 : z9.length ≤ 5100 := by omega
      refine ⟨_, rfl, _, rfl, _, _, rfl, rfl, fit2 m9 (by decide +kernel), _, rfl, _, _, rfl, rfl, fit2 (by decide +kernel) m9, _, rfl, _, _, rfl, rfl, fit2 (by decide +kernel) m9, _, _, rfl, rfl, fit2 c1 (by decide +kernel), _, rfl, _, _, rfl, rfl, fit2 m9 (by decide +kernel), by show 5 ≤ sizeLine; decide, fun tp ntp => ?_⟩
      have hlg := longs n9
      generalize hzs : [z9, z9 ++ Str.ofString "r", Str.ofString "-" ++ z9, Str.ofString "1+" ++ z9 ++ Str.ofString "r", z9 ++ Str.ofString "-1r"] = zs at hlg
      have hx : ([V.str z9, V.str (z9 ++ Str.ofString "r"), V.str (Str.ofString "-" ++ z9), V.str (Str.ofString "1+" ++ z9 ++ Str.ofString "r"), V.str (z9 ++ Str.ofString "-1r")] : List V) = zs.map V.str := by
        rw [← hzs]
        rfl
      rw [hx]
      refine ⟨tp, rfl, ⟨_, SqT.of upd_same⟩, for_tup (K := K) (a := tp) (xs := zs.map V.str) (fun j σ H' => (∃ y5, σ = [some (.ref a), some (.ref b), some (.ref sg), y3, some (.str z9), y5, y6, y7, y8, y9, y10, y11, y12, y13, y14, y15]) ∧ H' tp = some (.tup (zs.map V.str)) ∧ LI b sb sg P0 H') ⟨⟨_, rfl⟩, upd_same, L2.same (same_new ntp)⟩ (fun j σ H' _ z => SqT.of z.2.1) ?_ ?_⟩
      · rintro j v σ H8 hv ⟨⟨u5, rfl⟩, hl8, L8⟩
        obtain ⟨t, rfl, ht⟩ := str_at hv hlg
        refine ⟨L8.tab, fun Hb eb tb => ⟨_, rfl, ?_⟩⟩
        unfold tNil
        have Lb := L8.extN eb tb
        have hlb := tup_extN hl8 eb
        refine parse_told (Q := ?Q2) T ?hE2 ?hQ2 (by omega) ?q2
        case hE2 => rfl
        case hQ2 => rfl
        intro f Hc sc hf
        rw [rp_long (by omega)] at hf
        have Lc := Lb.same sc
        have hlc := sc _ _ hlb
        refine ⟨by show 2 ≤ sizeLine; decide, fun q nq => ⟨_, _, FoundT.dp (o := none) (FoundT.same (o := none) hf (same_new nq)), FoundT.dp (o := none) upd_same, found_shaped none, found_shaped none, _, rfl, ?_⟩⟩
        rw [found_same none]
        exact iteF ⟨⟨_, rfl⟩, (same_new nq) _ _ hlc, Lc.same (same_new nq)⟩
      · rintro σ H8 ⟨⟨u5, rfl⟩, hl8, L8⟩
        exact ⟨⟨_, rfl⟩, L8⟩
    rintro σ H3 ⟨⟨u5, rfl⟩, L3⟩
    -- a pair too great
    refine ⟨fun σ H' => ∃ p : Addr, σ = [some (.ref a), some (.ref b), some (.ref sg), y3, some (.str z9), u5, y6, y7, y8, y9, y10, y11, some (.ref p), some (.str (Txt.mul (Str.ofString "0") 38)), y14, y15] ∧ H' p = some (.tup [.int (7 * 10 ^ 38), .int (-(3 * 10 ^ 38))]) ∧ LI b sb sg P0 H', ?_, ?_⟩
    · refine ⟨3, rfl, by show 2 ≤ sizeLine; decide, fun t0 n0 => ⟨10, 19, rfl, rfl, ⟨by decide, by decide, by decide⟩, .ref t0, 7, -3, _, rfl, ⟨t0, rfl, SqT.of upd_same⟩, by decide +kernel, by decide +kernel, by decide +kernel, fun t1 Ha n1 s1 h1 => ⟨10, 19, rfl, rfl, ⟨by decide, by decide, by decide⟩, .ref t1, _, _, _, rfl, ⟨t1, rfl, SqT.of h1⟩, by decide +kernel, by decide +kernel, by decide +kernel, fun t2 Hb n2 s2 h2 => ⟨_, _, rfl, rfl, ⟨by decide, fun _ _ => by decide +kernel, fun _ _ => by decide +kernel⟩, by show 2 ≤ sizeLine; decide, fun t3 n3 => ⟨t3, _, rfl, SqT.of upd_same, rfl, _, _, rfl, _, _, rfl, rfl, ?_⟩⟩⟩⟩⟩
      have e1 : (7 : Int) * 10 ^ (19 : Int).toNat * 10 ^ (19 : Int).toNat = 7 * 10 ^ 38 := by decide +kernel
      have e2 : (-3 : Int) * 10 ^ (19 : Int).toNat * 10 ^ (19 : Int).toNat = -(3 * 10 ^ 38) := by decide +kernel
      rw [e1, e2] at h2
      exact ⟨t2, rfl, (same_new n3) _ _ h2, L3.same ((same_new n0).trans (s1.trans (s2.trans (same_new n3))))⟩
    rintro σ H4 ⟨p, rfl, hp, L4⟩
    refine ⟨fun σ H' => σ = [some (.ref a), some (.ref b), some (.ref sg), y3, some (.str z9), u5, y6, y7, y8, y9, y10, y11, some (.ref p), some (.str (Txt.mul (Str.ofString "0") 38)), y14, y15] ∧ LI b sb sg P0 H', ?_, ?_⟩
    · refine ⟨_, rfl, p, _, _, rfl, SqT.of hp, by decide +kernel, by decide +kernel, fun Ha sa => ⟨_, rfl, _, _, rfl, rfl, by decide +kernel, _, _, rfl, rfl, by decide +kernel, _, rfl, _, _, rfl, rfl, by decide +kernel, _, _, rfl, rfl, by decide +kernel, rfl, _, rfl, ?_⟩⟩
      rw [big_text, decide_eq_true rfl]
      have La := L4.same sa
      refine iteF ⟨La.tab, fun Hb eb tb => ⟨_, rfl, p, _, _, rfl, SqT.of (tup_extN (sa _ _ hp) eb), by decide +kernel, by decide +kernel, fun Hc sc => ?_⟩⟩
      have Lc := (La.extN eb tb).same sc
      unfold tNil
      refine parse_told (z := pairT (7 * 10 ^ 38) (-(3 * 10 ^ 38))) (Q := ?Q3) T ?hE3 ?hQ3 (by decide +kernel) ?q3
      case hE3 => rfl
      case hQ3 => rfl
      intro f Hd sd hf
      rw [rp_long (by decide +kernel)] at hf
      refine ⟨by show 2 ≤ sizeLine; decide, fun q nq => ⟨_, _, FoundT.dp (o := none) (FoundT.same (o := none) hf (same_new nq)), FoundT.dp (o := none) upd_same, found_shaped none, found_shaped none, _, rfl, ?_⟩⟩
      rw [found_same none]
      exact iteF ⟨rfl, Lc.same (sd.trans (same_new nq))⟩
    rintro σ H5 ⟨rfl, L5⟩
    refine ⟨_, _, rfl, rfl, ⟨by decide, fun _ _ => by decide +kernel, fun _ _ => by decide +kernel⟩, _, _, rfl, rfl, ⟨by decide, fun _ _ => by decide +kernel, fun _ _ => by decide +kernel⟩, _, _, rfl, rfl, by decide +kernel, _, _, rfl, rfl, ⟨by decide, fun _ _ => by decide +kernel, fun _ _ => by decide +kernel⟩, _, _, rfl, rfl, by decide +kernel, by show 14 ≤ sizeLine; decide, fun od nod => ?_⟩
    have L6 := L5.same (same_new (o := .lst (oddsL.map V.str)) nod)
    have ho : upd H5 od (.lst (oddsL.map V.str)) od = some (.lst (oddsL.map V.str)) := upd_same
    change Evl.tCut _ _ _ _ (upd H5 od (.lst (oddsL.map V.str)))
    generalize upd H5 od (.lst (oddsL.map V.str)) = H6 at L6 ho ⊢
    refine ⟨fun σ H' => ∃ du t1 t2 : Addr, σ = [some (.ref a), some (.ref b), some (.ref sg), y3, some (.str z9), u5, some (.ref od), some (.ref du), y8, y9, y10, y11, some (.ref p), some (.str (Txt.mul (Str.ofString "0") 38)), y14, y15] ∧ H' od = some (.lst (oddsL.map V.str)) ∧ H' du = some (.lst (List.replicate 12 .non ++ [.ref t1, .ref t2])) ∧ H' t1 = some (.tup [.int 0, .int (10 ^ 20 - 1)]) ∧ H' t2 = some (.tup [.int (1 - 10 ^ 20), .int 0]) ∧ LI b sb sg P0 H', ?_, ?_⟩
    · refine ⟨by show 1 ≤ sizeLine; decide, fun l0 n0 => ⟨l0, 12, _, rfl, rfl, upd_same, by decide, by decide, by show 1 * 12 ≤ sizeLine; decide, fun l1 n1 => ⟨10, 20, rfl, rfl, ⟨by decide, by decide, by decide⟩, _, _, rfl, rfl, by show 2 ≤ sizeLine; decide, fun t1 nt1 => ⟨10, 20, rfl, rfl, ⟨by decide, by decide, by decide⟩, _, _, rfl, rfl, by show 2 ≤ sizeLine; decide, fun t2 nt2 => ⟨by show 2 ≤ sizeLine; decide, fun l2 n2 => ?_⟩⟩⟩⟩⟩
      have ea := same_new (o := .lst [.non]) n0
      have eb := same_new (o := .lst (List.replicate 12 [V.non]).flatten) n1
      have ec := same_new (o := .tup [.int 0, .int (10 ^ 20 - 1)]) nt1
      have ed := same_new (o := .tup [.int (1 - 10 ^ 20), .int 0]) nt2
      have ee := same_new (o := .lst [.ref t1, .ref t2]) n2
      refine ⟨l1, l2, _, _, rfl, rfl, (ec.trans (ed.trans ee)) _ _ upd_same, upd_same, by show 12 + 2 ≤ sizeLine; decide, fun du ndu => ?_⟩
      have ef := same_new (o := .lst ((List.replicate 12 [V.non]).flatten ++ [.ref t1, .ref t2])) ndu
      exact ⟨du, t1, t2, rfl, (ea.trans (eb.trans (ec.trans (ed.trans (ee.trans ef))))) _ _ ho, upd_same, (ed.trans (ee.trans ef)) _ _ upd_same, (ee.trans ef) _ _ upd_same, L6.same (ea.trans (eb.trans (ec.trans (ed.trans (ee.trans ef)))))⟩
    rintro σ H7 ⟨du, t1, t2, rfl, ho7, hdu, ht1, ht2, L7⟩
    refine ⟨_, rfl, od, rfl, ⟨_, SqL.of ho7⟩, fun D nD => lc_list (K := K) (a := od) (xs := oddsL.map V.str) (fun i G => DueL H7 D i G) ⟨same_new nD, [], upd_same, .nil⟩ (fun i G _ z => SqL.of (z.same _ _ ho7)) ?_ ?_⟩
    · rintro i v G hv ⟨sG, vs, hG, pG⟩
      obtain ⟨z, hz, rfl, lz⟩ := odd_at hv
      refine ⟨rfl, _, rfl, ?_⟩
      unfold tNil
      refine read_due (by omega) fun dv Ha sa hd => ⟨vs, sa _ _ hG, ?_, ?_⟩
      · rw [Paired.length pG, List.length_take]
        exact small1000 (by have : oddsL.length = 14 := rfl; omega)
      · exact DueL.next sG hG pG nD hz sa hd
    rintro G ⟨sG, vs, hG, pG⟩
    rw [show (oddsL.map V.str).length = 14 from rfl, show oddsL.take 14 = oddsL from rfl] at pG
    refine ⟨_, rfl, duesD, dueLd, .lst (SqL.of hG) (due_all pG), .lst (SqL.of (sG _ _ hdu)) (due_dp (sG _ _ ht1) (sG _ _ ht2)), dues_shaped, dueL_shaped, _, rfl, ?_⟩
    rw [dues_same]
    have LG := L7.same sG
    refine iteT ⟨_, rfl, od, rfl, ⟨_, SqL.of (sG _ _ ho7)⟩, fun D2 nD2 => lc_list (K := K) (a := od) (xs := oddsL.map V.str) (fun i G' => G' D2 = some (.lst ((List.replicate i true).map V.bl)) ∧ G' od = some (.lst (oddsL.map V.str)) ∧ LamX.Tabs [(P0, qn)] G') ⟨upd_same, (same_new nD2) _ _ (sG _ _ ho7), (LG.same (same_new nD2)).tab⟩ (fun i G _ z => SqL.of z.2.1) ?_ ?_⟩
    · rintro i v G' hv ⟨hG', ho', tG'⟩
      obtain ⟨z, hz, rfl, lz⟩ := odd_at hv
      have neo : od ≠ D2 := ne_of_none (sG _ _ ho7) nD2
      refine ⟨rfl, tG', fun Hb eb tb => ⟨_, rfl, ?_⟩⟩
      unfold tNil
      have hDb := lst_extN hG' eb
      have hob := lst_extN ho' eb
      refine parse_told (Q := ?Q4) T ?hE4 ?hQ4 (by omega) ?q4
      case hE4 => rfl
      case hQ4 => rfl
      intro f Hc sc hf
      have li : i < 14 := by
        have := (List.getElem?_eq_some_iff.mp hz).1
        exact this
      have fin : ∀ Hd, Same Hc Hd → ∃ acc, Hd D2 = some (.lst acc) ∧ acc.length < sizeLine ∧ upd Hd D2 (.lst (acc ++ [.bl true])) D2 = some (.lst ((List.replicate (i + 1) true).map V.bl)) ∧ upd Hd D2 (.lst (acc ++ [.bl true])) od = some (.lst (oddsL.map V.str)) ∧ LamX.Tabs [(P0, qn)] (upd Hd D2 (.lst (acc ++ [.bl true]))) := by
        intro Hd sd
        have hDd := sd _ _ (sc _ _ hDb)
        refine ⟨_, hDd, ?_, ?_, (upd_ne neo).trans (sd _ _ (sc _ _ hob)), tabs_lst (tb.ext (sc.trans sd)) hDd⟩
        · rw [List.length_map, List.length_replicate]
          exact small1000 (by omega)
        · rw [upd_same, List.replicate_succ', List.map_append]
          rfl
      generalize hro : rp z = o at hf
      match o, hf, hro with
      | none, hf, hro =>
        refine ⟨f, _, 0, .str "BadText", rfl, rfl, SqT.of hf, rfl, _, rfl, read_due (by omega) fun dv Hd sd hd => ⟨rfl, _, rfl, ?_⟩⟩
        rw [hro] at hd
        rw [show dv = V.non from hd, decide_eq_true rfl]
        refine iteF ⟨rfl, ?_⟩
        rw [decide_eq_true rfl]
        exact fin Hd sd
      | some (m, n), ⟨t, hf, ht⟩, hro =>
        refine ⟨f, _, 0, .str "told", rfl, rfl, SqT.of hf, rfl, _, rfl, read_due (by omega) fun dv Hd sd hd => ⟨rfl, _, rfl, ?_⟩⟩
        rw [hro] at hd
        obtain ⟨t', e, _⟩ := hd
        rw [e, decide_eq_false (by intro z; cases z)]
        refine iteT ⟨rfl, ?_⟩
        rw [decide_eq_true rfl]
        exact fin Hd sd
    rintro G' ⟨hG', ho', tG'⟩
    exact ⟨D2, List.replicate 14 true, rfl, SqL.of hG', q _⟩
end
theorem all_mk {w : World} {K : PySem.W.Frag} {h : Heap} {mg : Str → Option Value} {fa : Addr} (X : K.In h) (G : h.Ns mainGlobals mg) (hfa : mg "law" = some (.ref fa)) {l : PySem.W.OpenLaw} (hprog : l.prog = PySem.Challenge.pw_grainyard_k63_texts_of_pairs) {cL PL : Addr}
    {od0 an0 : Option Addr} {sl0 : Array (Option Value)} {kV0 oc0 dc0 pm0 cd0 ct0 : Value} {f0 : Addr}
    (a0 : PySem.W.nsIn K mainGlobals "decimal_text" = some (some (.ref f0))) (l0 : K.lookup f0 = some ⟨oc0, od0, .func (PySem.W.fnOf "decimal_text" "decimal_text" (defArgs s_decimal_text) (defBody s_decimal_text) (defScope s_decimal_text) .none kV0 dc0 pm0 an0 cd0 ct0), sl0⟩) (c0 : PySem.W.codeIn K cd0 "decimal_text" = true) (k0 : PySem.W.keepIn K (.ref f0) = true)
    {od1 an1 : Option Addr} {sl1 : Array (Option Value)} {kV1 oc1 dc1 pm1 cd1 ct1 : Value} {f1 : Addr}
    (a1 : PySem.W.nsIn K mainGlobals "scaled" = some (some (.ref f1))) (l1 : K.lookup f1 = some ⟨oc1, od1, .func (PySem.W.fnOf "scaled" "scaled" (defArgs s_scaled) (defBody s_scaled) (defScope s_scaled) .none kV1 dc1 pm1 an1 cd1 ct1), sl1⟩) (c1 : PySem.W.codeIn K cd1 "scaled" = true) (k1 : PySem.W.keepIn K (.ref f1) = true)
    {od2 an2 : Option Addr} {sl2 : Array (Option Value)} {kV2 oc2 dc2 pm2 cd2 ct2 : Value} {f2 : Addr}
    (a2 : PySem.W.nsIn K mainGlobals "pair_text" = some (some (.ref f2))) (l2 : K.lookup f2 = some ⟨oc2, od2, .func (PySem.W.fnOf "pair_text" "pair_text" (defArgs s_pair_text) (defBody s_pair_text) (defScope s_pair_text) .none kV2 dc2 pm2 an2 cd2 ct2), sl2⟩) (c2 : PySem.W.codeIn K cd2 "pair_text" = true) (k2 : PySem.W.keepIn K (.ref f2) = true)
    {od3 an3 : Option Addr} {sl3 : Array (Option Value)} {kV3 oc3 dc3 pm3 cd3 ct3 : Value} {f3 : Addr}
    (a3 : PySem.W.nsIn K mainGlobals "read_number" = some (some (.ref f3))) (l3 : K.lookup f3 = some ⟨oc3, od3, .func (PySem.W.fnOf "read_number" "read_number" (defArgs s_read_number) (defBody s_read_number) (defScope s_read_number) .none kV3 dc3 pm3 an3 cd3 ct3), sl3⟩) (c3 : PySem.W.codeIn K cd3 "read_number" = true) (k3 : PySem.W.keepIn K (.ref f3) = true)
    {od4 an4 : Option Addr} {sl4 : Array (Option Value)} {kV4 oc4 dc4 pm4 cd4 ct4 : Value} {f4 : Addr}
    (a4 : PySem.W.nsIn K mainGlobals "read_numbers" = some (some (.ref f4))) (l4 : K.lookup f4 = some ⟨oc4, od4, .func (PySem.W.fnOf "read_numbers" "read_numbers" (defArgs s_read_numbers) (defBody s_read_numbers) (defScope s_read_numbers) .none kV4 dc4 pm4 an4 cd4 ct4), sl4⟩) (c4 : PySem.W.codeIn K cd4 "read_numbers" = true) (k4 : PySem.W.keepIn K (.ref f4) = true)
    {od5 an5 : Option Addr} {sl5 : Array (Option Value)} {kV5 oc5 dc5 pm5 cd5 ct5 : Value} {f5 : Addr}
    (a5 : PySem.W.nsIn K mainGlobals "read_pair" = some (some (.ref f5))) (l5 : K.lookup f5 = some ⟨oc5, od5, .func (PySem.W.fnOf "read_pair" "read_pair" (defArgs s_read_pair) (defBody s_read_pair) (defScope s_read_pair) .none kV5 dc5 pm5 an5 cd5 ct5), sl5⟩) (c5 : PySem.W.codeIn K cd5 "read_pair" = true) (k5 : PySem.W.keepIn K (.ref f5) = true)
    {od6 an6 : Option Addr} {sl6 : Array (Option Value)} {kV6 oc6 dc6 pm6 cd6 ct6 : Value} {f6 : Addr}
    (a6 : PySem.W.nsIn K mainGlobals "found_in_text" = some (some (.ref f6))) (l6 : K.lookup f6 = some ⟨oc6, od6, .func (PySem.W.fnOf "found_in_text" "found_in_text" (defArgs s_found_in_text) (defBody s_found_in_text) (defScope s_found_in_text) .none kV6 dc6 pm6 an6 cd6 ct6), sl6⟩) (c6 : PySem.W.codeIn K cd6 "found_in_text" = true) (k6 : PySem.W.keepIn K (.ref f6) = true)
    {od7 an7 : Option Addr} {sl7 : Array (Option Value)} {kV7 oc7 dc7 pm7 cd7 ct7 : Value} {f7 : Addr}
    (a7 : PySem.W.nsIn K mainGlobals "parse_pair" = some (some (.ref f7))) (l7 : K.lookup f7 = some ⟨oc7, od7, .func (PySem.W.fnOf "parse_pair" "parse_pair" (defArgs s_parse_pair) (defBody s_parse_pair) (defScope s_parse_pair) .none kV7 dc7 pm7 an7 cd7 ct7), sl7⟩) (c7 : PySem.W.codeIn K cd7 "parse_pair" = true) (k7 : PySem.W.keepIn K (.ref f7) = true)
    {od8 an8 : Option Addr} {sl8 : Array (Option Value)} {kV8 oc8 dc8 pm8 cd8 ct8 : Value} {f8 : Addr}
    (a8 : PySem.W.nsIn K mainGlobals "_law_source" = some (some (.ref f8))) (l8 : K.lookup f8 = some ⟨oc8, od8, .func (PySem.W.fnOf "_law_source" "_law_source" (defArgs s_source) (defBody s_source) (defScope s_source) .none kV8 dc8 pm8 an8 cd8 ct8), sl8⟩) (c8 : PySem.W.codeIn K cd8 "_law_source" = true) (k8 : PySem.W.keepIn K (.ref f8) = true)
    {od9 an9 : Option Addr} {sl9 : Array (Option Value)} {kV9 oc9 dc9 pm9 cd9 ct9 : Value} {f9 : Addr}
    (a9 : PySem.W.nsIn K mainGlobals "_law_pull" = some (some (.ref f9))) (l9 : K.lookup f9 = some ⟨oc9, od9, .func (PySem.W.fnOf "_law_pull" "_law_pull" (defArgs s_pull) (defBody s_pull) (defScope s_pull) .none kV9 dc9 pm9 an9 cd9 ct9), sl9⟩) (c9 : PySem.W.codeIn K cd9 "_law_pull" = true) (k9 : PySem.W.keepIn K (.ref f9) = true)
    {od10 an10 : Option Addr} {sl10 : Array (Option Value)} {kV10 oc10 dc10 pm10 cd10 ct10 : Value} {f10 : Addr}
    (a10 : PySem.W.nsIn K mainGlobals "_law_of" = some (some (.ref f10))) (l10 : K.lookup f10 = some ⟨oc10, od10, .func (PySem.W.fnOf "_law_of" "_law_of" (defArgs s_of) (defBody s_of) (defScope s_of) .none kV10 dc10 pm10 an10 cd10 ct10), sl10⟩) (c10 : PySem.W.codeIn K cd10 "_law_of" = true) (k10 : PySem.W.keepIn K (.ref f10) = true)
    {od11 an11 : Option Addr} {sl11 : Array (Option Value)} {kV11 oc11 dc11 pm11 cd11 ct11 : Value} {f11 : Addr}
    (a11 : PySem.W.nsIn K mainGlobals "_law_any_pair" = some (some (.ref f11))) (l11 : K.lookup f11 = some ⟨oc11, od11, .func (PySem.W.fnOf "_law_any_pair" "_law_any_pair" (defArgs s_any_pair) (defBody s_any_pair) (defScope s_any_pair) .none kV11 dc11 pm11 an11 cd11 ct11), sl11⟩) (c11 : PySem.W.codeIn K cd11 "_law_any_pair" = true) (k11 : PySem.W.keepIn K (.ref f11) = true)
    {od12 an12 : Option Addr} {sl12 : Array (Option Value)} {kV12 oc12 dc12 pm12 cd12 ct12 : Value} {f12 : Addr}
    (a12 : PySem.W.nsIn K mainGlobals "_law_a_number" = some (some (.ref f12))) (l12 : K.lookup f12 = some ⟨oc12, od12, .func (PySem.W.fnOf "_law_a_number" "_law_a_number" (defArgs s_a_number) (defBody s_a_number) (defScope s_a_number) .none kV12 dc12 pm12 an12 cd12 ct12), sl12⟩) (c12 : PySem.W.codeIn K cd12 "_law_a_number" = true) (k12 : PySem.W.keepIn K (.ref f12) = true)
    {od13 an13 : Option Addr} {sl13 : Array (Option Value)} {kV13 oc13 dc13 pm13 cd13 ct13 : Value} {f13 : Addr}
    (a13 : PySem.W.nsIn K mainGlobals "_law_pair_text" = some (some (.ref f13))) (l13 : K.lookup f13 = some ⟨oc13, od13, .func (PySem.W.fnOf "_law_pair_text" "_law_pair_text" (defArgs s_lpair_text) (defBody s_lpair_text) (defScope s_lpair_text) .none kV13 dc13 pm13 an13 cd13 ct13), sl13⟩) (c13 : PySem.W.codeIn K cd13 "_law_pair_text" = true) (k13 : PySem.W.keepIn K (.ref f13) = true)
    {od14 an14 : Option Addr} {sl14 : Array (Option Value)} {kV14 oc14 dc14 pm14 cd14 ct14 : Value} {f14 : Addr}
    (a14 : PySem.W.nsIn K mainGlobals "_law_like" = some (some (.ref f14))) (l14 : K.lookup f14 = some ⟨oc14, od14, .func (PySem.W.fnOf "_law_like" "_law_like" (defArgs s_like) (defBody s_like) (defScope s_like) .none kV14 dc14 pm14 an14 cd14 ct14), sl14⟩) (c14 : PySem.W.codeIn K cd14 "_law_like" = true) (k14 : PySem.W.keepIn K (.ref f14) = true)
    {od15 an15 : Option Addr} {sl15 : Array (Option Value)} {kV15 oc15 dc15 pm15 cd15 ct15 : Value} {f15 : Addr}
    (a15 : PySem.W.nsIn K mainGlobals "_law_bent_text" = some (some (.ref f15))) (l15 : K.lookup f15 = some ⟨oc15, od15, .func (PySem.W.fnOf "_law_bent_text" "_law_bent_text" (defArgs s_bent_text) (defBody s_bent_text) (defScope s_bent_text) .none kV15 dc15 pm15 an15 cd15 ct15), sl15⟩) (c15 : PySem.W.codeIn K cd15 "_law_bent_text" = true) (k15 : PySem.W.keepIn K (.ref f15) = true)
    {od16 an16 : Option Addr} {sl16 : Array (Option Value)} {kV16 oc16 dc16 pm16 cd16 ct16 : Value} {f16 : Addr}
    (a16 : PySem.W.nsIn K mainGlobals "_law_number_read" = some (some (.ref f16))) (l16 : K.lookup f16 = some ⟨oc16, od16, .func (PySem.W.fnOf "_law_number_read" "_law_number_read" (defArgs s_number_read) (defBody s_number_read) (defScope s_number_read) .none kV16 dc16 pm16 an16 cd16 ct16), sl16⟩) (c16 : PySem.W.codeIn K cd16 "_law_number_read" = true) (k16 : PySem.W.keepIn K (.ref f16) = true)
    {od17 an17 : Option Addr} {sl17 : Array (Option Value)} {kV17 oc17 dc17 pm17 cd17 ct17 : Value} {f17 : Addr}
    (a17 : PySem.W.nsIn K mainGlobals "_law_pair_read" = some (some (.ref f17))) (l17 : K.lookup f17 = some ⟨oc17, od17, .func (PySem.W.fnOf "_law_pair_read" "_law_pair_read" (defArgs s_pair_read) (defBody s_pair_read) (defScope s_pair_read) .none kV17 dc17 pm17 an17 cd17 ct17), sl17⟩) (c17 : PySem.W.codeIn K cd17 "_law_pair_read" = true) (k17 : PySem.W.keepIn K (.ref f17) = true)
    {od18 an18 : Option Addr} {sl18 : Array (Option Value)} {kV18 oc18 dc18 pm18 cd18 ct18 : Value} {f18 : Addr}
    (a18 : PySem.W.nsIn K mainGlobals "_law_field_of" = some (some (.ref f18))) (l18 : K.lookup f18 = some ⟨oc18, od18, .func (PySem.W.fnOf "_law_field_of" "_law_field_of" (defArgs s_field_of) (defBody s_field_of) (defScope s_field_of) .none kV18 dc18 pm18 an18 cd18 ct18), sl18⟩) (c18 : PySem.W.codeIn K cd18 "_law_field_of" = true) (k18 : PySem.W.keepIn K (.ref f18) = true)
    {od19 an19 : Option Addr} {sl19 : Array (Option Value)} {kV19 oc19 dc19 pm19 cd19 ct19 : Value} {f19 : Addr}
    (a19 : PySem.W.nsIn K mainGlobals "_law_try" = some (some (.ref f19))) (l19 : K.lookup f19 = some ⟨oc19, od19, .func (PySem.W.fnOf "_law_try" "_law_try" (defArgs s_try) (defBody s_try) (defScope s_try) .none kV19 dc19 pm19 an19 cd19 ct19), sl19⟩) (c19 : PySem.W.codeIn K cd19 "_law_try" = true) (k19 : PySem.W.keepIn K (.ref f19) = true)
    {od20 an20 : Option Addr} {sl20 : Array (Option Value)} {kV20 oc20 dc20 pm20 ct20 : Value} {f20 : Addr}
    (a20 : PySem.W.nsIn K mainGlobals "law" = some (some (.ref f20))) (l20 : K.lookup f20 = some ⟨oc20, od20, .func (PySem.W.fnOf "law" "law" (defArgs s_law) (defBody s_law) (defScope s_law) .none kV20 dc20 pm20 an20 (.ref cL) ct20), sl20⟩) (c20 : PySem.W.codeIn K (.ref cL) "law" = true) (k20 : PySem.W.keepIn K (.ref f20) = true)
    (z0 : PySem.W.nsIn K mainGlobals "ValueError" = some none)
    (z1 : PySem.W.nsIn K mainGlobals "LookupError" = some none)
    (z2 : PySem.W.nsIn K mainGlobals "IndexError" = some none)
    (z3 : PySem.W.nsIn K mainGlobals "int" = some none)
    (z4 : PySem.W.nsIn K mainGlobals "tuple" = some none)
    (z5 : PySem.W.nsIn K mainGlobals "max" = some none)
    (z6 : PySem.W.nsIn K mainGlobals "isinstance" = some none)
    (z7 : PySem.W.nsIn K mainGlobals "range" = some none)
    (z8 : PySem.W.nsIn K mainGlobals "str" = some none)
    (z9 : PySem.W.nsIn K mainGlobals "list" = some none)
    (z10 : PySem.W.nsIn K mainGlobals "all" = some none)
    (z11 : PySem.W.nsIn K mainGlobals "len" = some none)
    (z12 : PySem.W.nsIn K mainGlobals "bool" = some none)
    {t_GROUP : Tok} (a_GROUP : PySem.W.nsIn K mainGlobals "GROUP" = some (some (.int (10 ^ 64) t_GROUP)))
    {t_MOST_DIGITS : Tok} (a_MOST_DIGITS : PySem.W.nsIn K mainGlobals "MOST_DIGITS" = some (some (.int (20) t_MOST_DIGITS)))
    (hn : PySem.W.specialIn K (.builtin "object.__class__") "__get__" = some (some (.builtin "getset_descriptor.__get__"))) (ht : PySem.W.takesIn K (.builtin "object.__class__") = some true)
    {CGrainError : Addr} {DGrainError : ClassData} (aGrainError : PySem.W.nsIn K mainGlobals "GrainError" = some (some (.ref CGrainError))) (cGrainError : PySem.W.clsIn K CGrainError = some DGrainError) (nGrainError : DGrainError.name = "GrainError") (tGrainError : PySem.W.typeIn K (.ref CGrainError) = some (.type "type")) (sbGrainError : PySem.W.subIn K (.ref CGrainError) (.type "BaseException") = some true)
    {CGrainMissing : Addr} {DGrainMissing : ClassData} (aGrainMissing : PySem.W.nsIn K mainGlobals "GrainMissing" = some (some (.ref CGrainMissing))) (cGrainMissing : PySem.W.clsIn K CGrainMissing = some DGrainMissing) (nGrainMissing : DGrainMissing.name = "GrainMissing") (tGrainMissing : PySem.W.typeIn K (.ref CGrainMissing) = some (.type "type")) (sbGrainMissing : PySem.W.subIn K (.ref CGrainMissing) (.type "BaseException") = some true)
    (E_BadText : ErW PySem.Challenge.pw_grainyard_k63_texts_of_pairs K mg "ValueError" "ValueError.__new__" "ValueError.__init__" [.type "ValueError", .type "Exception", .type "BaseException", .type "object"] [.ref CGrainError] i_BadText "BadText" "BadText.__init__" ["word", "at"])
    (E_NothingLeft : ErW PySem.Challenge.pw_grainyard_k63_texts_of_pairs K mg "IndexError" "IndexError.__new__" "IndexError.__init__" [.type "IndexError", .type "LookupError", .type "Exception", .type "BaseException", .type "object"] [] i_NothingLeft "NothingLeft" "NothingLeft.__init__" ["word"])
    (tabL : h.get? PL = some { cls := .none, data := .fields #[] }) (noL : K.lookup PL = none) (hdL : PySem.W.codeHdIn K cL PL = true) : LamX.LawAtS l w K CX0 12 63 "_law_script" mg fa h := by
  have e := hfa.symm.trans (PySem.W.mg_of X G a20)
  cases e
  have F0 := fun_mk (st := s_decimal_text) l0 c0 k0
  have b0 := F0.binds (ps := ["number"]) fun _ _ _ _ _ _ us hl => match us, hl with | [_], _ => rfl
  have F1 := fun_mk (st := s_scaled) l1 c1 k1
  have b1 := F1.binds (ps := ["pair", "number"]) fun _ _ _ _ _ _ us hl => match us, hl with | [_, _], _ => rfl
  have F2 := fun_mk (st := s_pair_text) l2 c2 k2
  have b2 := F2.binds (ps := ["pair"]) fun _ _ _ _ _ _ us hl => match us, hl with | [_], _ => rfl
  have F3 := fun_mk (st := s_read_number) l3 c3 k3
  have b3 := F3.binds (ps := ["text"]) fun _ _ _ _ _ _ us hl => match us, hl with | [_], _ => rfl
  have F4 := fun_mk (st := s_read_numbers) l4 c4 k4
  have b4 := F4.binds (ps := ["texts"]) fun _ _ _ _ _ _ us hl => match us, hl with | [_], _ => rfl
  have F5 := fun_mk (st := s_read_pair) l5 c5 k5
  have b5 := F5.binds (ps := ["text"]) fun _ _ _ _ _ _ us hl => match us, hl with | [_], _ => rfl
  have F6 := fun_mk (st := s_found_in_text) l6 c6 k6
  have b6 := F6.binds (ps := ["item"]) fun _ _ _ _ _ _ us hl => match us, hl with | [_], _ => rfl
  have F7 := fun_mk (st := s_parse_pair) l7 c7 k7
  have b7 := F7.binds (ps := ["text"]) fun _ _ _ _ _ _ us hl => match us, hl with | [_], _ => rfl
  have F8 := fun_mk (st := s_source) l8 c8 k8
  have b8 := F8.binds (ps := ["_law_script"]) fun _ _ _ _ _ _ us hl => match us, hl with | [_], _ => rfl
  have F9 := fun_mk (st := s_pull) l9 c9 k9
  have b9 := F9.binds (ps := ["_law_bag", "_law_size"]) fun _ _ _ _ _ _ us hl => match us, hl with | [_, _], _ => rfl
  have F10 := fun_mk (st := s_of) l10 c10 k10
  have b10 := F10.binds (ps := ["_law_bag", "_law_some"]) fun _ _ _ _ _ _ us hl => match us, hl with | [_, _], _ => rfl
  have F11 := fun_mk (st := s_any_pair) l11 c11 k11
  have b11 := F11.binds (ps := ["_law_bag"]) fun _ _ _ _ _ _ us hl => match us, hl with | [_], _ => rfl
  have F12 := fun_mk (st := s_a_number) l12 c12 k12
  have b12 := F12.binds (ps := ["_law_bag"]) fun _ _ _ _ _ _ us hl => match us, hl with | [_], _ => rfl
  have F13 := fun_mk (st := s_lpair_text) l13 c13 k13
  have b13 := F13.binds (ps := ["_law_pair_z"]) fun _ _ _ _ _ _ us hl => match us, hl with | [_], _ => rfl
  have F14 := fun_mk (st := s_like) l14 c14 k14
  have b14 := F14.binds (ps := ["_law_found", "_law_due"]) fun _ _ _ _ _ _ us hl => match us, hl with | [_, _], _ => rfl
  have F15 := fun_mk (st := s_bent_text) l15 c15 k15
  have b15 := F15.binds (ps := ["_law_bag", "_law_text_z", "_law_signs"]) fun _ _ _ _ _ _ us hl => match us, hl with | [_, _, _], _ => rfl
  have F16 := fun_mk (st := s_number_read) l16 c16 k16
  have b16 := F16.binds (ps := ["_law_word"]) fun _ _ _ _ _ _ us hl => match us, hl with | [_], _ => rfl
  have F17 := fun_mk (st := s_pair_read) l17 c17 k17
  have b17 := F17.binds (ps := ["_law_text_z"]) fun _ _ _ _ _ _ us hl => match us, hl with | [_], _ => rfl
  have F18 := fun_mk (st := s_field_of) l18 c18 k18
  have b18 := F18.binds (ps := ["_law_e"]) fun _ _ _ _ _ _ us hl => match us, hl with | [_], _ => rfl
  have F19 := fun_mk (st := s_try) l19 c19 k19
  have b19 := F19.binds (ps := ["_law_ask"]) fun _ _ _ _ _ _ us hl => match us, hl with | [_], _ => rfl
  have F20 := fun_mk (st := s_law) l20 c20 k20
  have T : Txt K mg := {
    f_decimal_text := f0
    d_decimal_text := _
    F_decimal_text := F0
    g_decimal_text := PySem.W.mg_of X G a0
    b_decimal_text := b0
    f_scaled := f1
    d_scaled := _
    F_scaled := F1
    g_scaled := PySem.W.mg_of X G a1
    b_scaled := b1
    f_pair_text := f2
    d_pair_text := _
    F_pair_text := F2
    g_pair_text := PySem.W.mg_of X G a2
    b_pair_text := b2
    f_read_number := f3
    d_read_number := _
    F_read_number := F3
    g_read_number := PySem.W.mg_of X G a3
    b_read_number := b3
    f_read_numbers := f4
    d_read_numbers := _
    F_read_numbers := F4
    g_read_numbers := PySem.W.mg_of X G a4
    b_read_numbers := b4
    f_read_pair := f5
    d_read_pair := _
    F_read_pair := F5
    g_read_pair := PySem.W.mg_of X G a5
    b_read_pair := b5
    f_found_in_text := f6
    d_found_in_text := _
    F_found_in_text := F6
    g_found_in_text := PySem.W.mg_of X G a6
    b_found_in_text := b6
    f_parse_pair := f7
    d_parse_pair := _
    F_parse_pair := F7
    g_parse_pair := PySem.W.mg_of X G a7
    b_parse_pair := b7
    f_source := f8
    d_source := _
    F_source := F8
    g_source := PySem.W.mg_of X G a8
    b_source := b8
    f_pull := f9
    d_pull := _
    F_pull := F9
    g_pull := PySem.W.mg_of X G a9
    b_pull := b9
    f_of := f10
    d_of := _
    F_of := F10
    g_of := PySem.W.mg_of X G a10
    b_of := b10
    f_any_pair := f11
    d_any_pair := _
    F_any_pair := F11
    g_any_pair := PySem.W.mg_of X G a11
    b_any_pair := b11
    f_a_number := f12
    d_a_number := _
    F_a_number := F12
    g_a_number := PySem.W.mg_of X G a12
    b_a_number := b12
    f_lpair_text := f13
    d_lpair_text := _
    F_lpair_text := F13
    g_lpair_text := PySem.W.mg_of X G a13
    b_lpair_text := b13
    f_like := f14
    d_like := _
    F_like := F14
    g_like := PySem.W.mg_of X G a14
    b_like := b14
    f_bent_text := f15
    d_bent_text := _
    F_bent_text := F15
    g_bent_text := PySem.W.mg_of X G a15
    b_bent_text := b15
    f_number_read := f16
    d_number_read := _
    F_number_read := F16
    g_number_read := PySem.W.mg_of X G a16
    b_number_read := b16
    f_pair_read := f17
    d_pair_read := _
    F_pair_read := F17
    g_pair_read := PySem.W.mg_of X G a17
    b_pair_read := b17
    f_field_of := f18
    d_field_of := _
    F_field_of := F18
    g_field_of := PySem.W.mg_of X G a18
    b_field_of := b18
    f_try := f19
    d_try := _
    F_try := F19
    g_try := PySem.W.mg_of X G a19
    b_try := b19
    n_ValueError := PySem.W.mg_none_of X G z0
    n_LookupError := PySem.W.mg_none_of X G z1
    n_IndexError := PySem.W.mg_none_of X G z2
    n_int := PySem.W.mg_none_of X G z3
    n_tuple := PySem.W.mg_none_of X G z4
    n_max := PySem.W.mg_none_of X G z5
    n_isinstance := PySem.W.mg_none_of X G z6
    n_range := PySem.W.mg_none_of X G z7
    n_str := PySem.W.mg_none_of X G z8
    n_list := PySem.W.mg_none_of X G z9
    n_all := PySem.W.mg_none_of X G z10
    n_len := PySem.W.mg_none_of X G z11
    n_bool := PySem.W.mg_none_of X G z12
    kb_parse_pair_text := kbn_parse_pair_text F7
    kb_pair_text_pair := kbn_pair_text_pair F2
    r_GrainError := CGrainError
    g_GrainError := PySem.W.mg_of X G aGrainError
    c_GrainError := .intro _ ⟨cGrainError,nGrainError⟩
    t_GrainError := tGrainError
    sb_GrainError := sbGrainError
    r_GrainMissing := CGrainMissing
    g_GrainMissing := PySem.W.mg_of X G aGrainMissing
    c_GrainMissing := .intro _ ⟨cGrainMissing,nGrainMissing⟩
    t_GrainMissing := tGrainMissing
    sb_GrainMissing := sbGrainMissing
    e_BadText := E_BadText.e
    x_BadText_word := E_BadText.no _ (by simp)
    x_BadText_at := E_BadText.no _ (by simp)
    e_NothingLeft := E_NothingLeft.e
    x_NothingLeft_word := E_NothingLeft.no _ (by simp)
    hn := hn
    ht := ht
    u_GROUP := _
    g_GROUP := PySem.W.mg_of X G a_GROUP
    rv_GROUP := ⟨t_GROUP, rfl⟩
    u_MOST_DIGITS := _
    g_MOST_DIGITS := PySem.W.mg_of X G a_MOST_DIGITS
    rv_MOST_DIGITS := ⟨t_MOST_DIGITS, rfl⟩ }
  refine ⟨PySem.W.fnOf "law" "law" (defArgs s_law) (defBody s_law) (defScope s_law) .none kV20 dc20 pm20 an20 (.ref cL) ct20, [(cL, PL)], spLaw K PL, fun p hp => ?_, fun p hp => ?_, fun p hp => ?_, fun s v => .of_eq rfl, fun H a ns hl _ hP hS => ⟨a, ns, rfl, hS, hl, hP _ (List.mem_singleton.mpr rfl), fun _ => rfl⟩, fun base _ _ TB => ?_⟩
  · rw [List.mem_singleton.mp hp]
    exact tabL
  · rw [List.mem_singleton.mp hp]
    exact noL
  · rw [List.mem_singleton.mp hp]
    exact PySem.W.codeHd_of_K X hdL
  · rw [hprog]
    exact ok_law l20 c20 (TB _ (List.mem_singleton.mpr rfl)) T
end Gy
open PySem PySem.W PyProof.Rows
set_option maxRecDepth 100000 in
set_option maxHeartbeats 0 in
theorem PySem.Challenge.cw_grainyard_k63_texts_of_pairs_holds : PySem.Challenge.rw_grainyard_k63_texts_of_pairs.Holds := by
  w_on; o_law; k_head; (case hw => w_witness2)
  k_fill
  refine LamX.walk_ofTs (l := PySem.Challenge.rw_grainyard_k63_texts_of_pairs) (n := 63) (k := 12) (x := "_law_script") (CX := fun _ => L2.CX0) rfl (by decide) rfl ⟨rfl, by decide, by decide⟩ (fun w h Y => PySem.W.km_in_of Y) ?F (fun _ _ _ _ _ h => h)
  case F =>
    intro w mg fa h Y KX G hmg
    have hT := PySem.W.km_tabs_of Y
    refine' Gy.all_mk KX G hmg rfl ?a0 ?l0 ?c0 ?k0 ?a1 ?l1 ?c1 ?k1 ?a2 ?l2 ?c2 ?k2 ?a3 ?l3 ?c3 ?k3 ?a4 ?l4 ?c4 ?k4 ?a5 ?l5 ?c5 ?k5 ?a6 ?l6 ?c6 ?k6 ?a7 ?l7 ?c7 ?k7 ?a8 ?l8 ?c8 ?k8 ?a9 ?l9 ?c9 ?k9 ?a10 ?l10 ?c10 ?k10 ?a11 ?l11 ?c11 ?k11 ?a12 ?l12 ?c12 ?k12 ?a13 ?l13 ?c13 ?k13 ?a14 ?l14 ?c14 ?k14 ?a15 ?l15 ?c15 ?k15 ?a16 ?l16 ?c16 ?k16 ?a17 ?l17 ?c17 ?k17 ?a18 ?l18 ?c18 ?k18 ?a19 ?l19 ?c19 ?k19 ?a20 ?l20 ?c20 ?k20 ?z0 ?z1 ?z2 ?z3 ?z4 ?z5 ?z6 ?z7 ?z8 ?z9 ?z10 ?z11 ?z12 ?a_GROUP ?a_MOST_DIGITS ?hn ?ht ?aGrainError ?cGrainError ?nGrainError ?tGrainError ?sbGrainError ?aGrainMissing ?cGrainMissing ?nGrainMissing ?tGrainMissing ?sbGrainMissing ?E_BadText ?E_NothingLeft ?tabL ?noL ?hdL
    (case a0 => k_is); (case l0 => k_is); (case c0 => k_is); (case k0 => k_is); (case a1 => k_is); (case l1 => k_is); (case c1 => k_is); (case k1 => k_is); (case a2 => k_is); (case l2 => k_is); (case c2 => k_is); (case k2 => k_is); (case a3 => k_is); (case l3 => k_is); (case c3 => k_is); (case k3 => k_is); (case a4 => k_is); (case l4 => k_is); (case c4 => k_is); (case k4 => k_is); (case a5 => k_is); (case l5 => k_is); (case c5 => k_is); (case k5 => k_is); (case a6 => k_is); (case l6 => k_is); (case c6 => k_is); (case k6 => k_is); (case a7 => k_is); (case l7 => k_is); (case c7 => k_is); (case k7 => k_is); (case a8 => k_is); (case l8 => k_is); (case c8 => k_is); (case k8 => k_is); (case a9 => k_is); (case l9 => k_is); (case c9 => k_is); (case k9 => k_is); (case a10 => k_is); (case l10 => k_is); (case c10 => k_is); (case k10 => k_is); (case a11 => k_is); (case l11 => k_is); (case c11 => k_is); (case k11 => k_is); (case a12 => k_is); (case l12 => k_is); (case c12 => k_is); (case k12 => k_is); (case a13 => k_is); (case l13 => k_is); (case c13 => k_is); (case k13 => k_is); (case a14 => k_is); (case l14 => k_is); (case c14 => k_is); (case k14 => k_is); (case a15 => k_is); (case l15 => k_is); (case c15 => k_is); (case k15 => k_is); (case a16 => k_is); (case l16 => k_is); (case c16 => k_is); (case k16 => k_is); (case a17 => k_is); (case l17 => k_is); (case c17 => k_is); (case k17 => k_is); (case a18 => k_is); (case l18 => k_is); (case c18 => k_is); (case k18 => k_is); (case a19 => k_is); (case l19 => k_is); (case c19 => k_is); (case k19 => k_is); (case a20 => k_is); (case l20 => k_is); (case c20 => k_is); (case k20 => k_is); (case z0 => k_is); (case z1 => k_is); (case z2 => k_is); (case z3 => k_is); (case z4 => k_is); (case z5 => k_is); (case z6 => k_is); (case z7 => k_is); (case z8 => k_is); (case z9 => k_is); (case z10 => k_is); (case z11 => k_is); (case z12 => k_is); (case a_GROUP => k_is); (case a_MOST_DIGITS => k_is); (case hn => k_is); (case ht => k_is); (case aGrainError => k_is); (case cGrainError => k_is); (case nGrainError => rfl); (case tGrainError => k_is); (case sbGrainError => k_is); (case aGrainMissing => k_is); (case cGrainMissing => k_is); (case nGrainMissing => rfl); (case tGrainMissing => k_is); (case sbGrainMissing => k_is); (case E_BadText => refine' Gy.erw2 (P := PySem.Challenge.pw_grainyard_k63_texts_of_pairs) KX G ?op ?nsu (by decide +kernel) (by decide +kernel) (by decide +kernel) ?ht rfl rfl (by decide +kernel) (by decide +kernel) (by decide +kernel) (by decide +kernel) ?aC ?lC ?aI ?lI ?cI ?lc ?lco ?sa ?ga ?gt ?kp ?cl ?su ?hvs ?hfi ?x0 ?x1; (case op => k_is); (case nsu => k_is); (case aC => k_is); (case lC => k_is); (case ht => decide +kernel); (case aI => k_is); (case lI => k_is); (case cI => k_is); (case lc => k_is); (case lco => k_is); (case sa => k_is); (case ga => k_is); (case gt => k_is); (case kp => k_is); (case cl => k_is); (case su => first | k_is | ks_is); (case hvs => rfl); (case hfi => decide +kernel); (case x0 => k_is); (case x1 => k_is)); (case E_NothingLeft => refine' Gy.erw1 (P := PySem.Challenge.pw_grainyard_k63_texts_of_pairs) KX G ?op ?nsu (by decide +kernel) (by decide +kernel) (by decide +kernel) ?ht rfl rfl (by decide +kernel) (by decide +kernel) (by decide +kernel) (by decide +kernel) ?aC ?lC ?aI ?lI ?cI ?lc ?lco ?sa ?ga ?gt ?kp ?cl ?su ?hvs ?hfi ?x0; (case op => k_is); (case nsu => k_is); (case aC => k_is); (case lC => k_is); (case ht => decide +kernel); (case aI => k_is); (case lI => k_is); (case cI => k_is); (case lc => k_is); (case lco => k_is); (case sa => k_is); (case ga => k_is); (case gt => k_is); (case kp => k_is); (case cl => k_is); (case su => first | k_is | ks_is); (case hvs => rfl); (case hfi => decide +kernel); (case x0 => k_is)); (case tabL => exact hT _ List.mem_cons_self); (case noL => kernel_rfl); (case hdL => kernel_rfl)

