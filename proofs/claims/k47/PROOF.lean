import PyProof.Rows.All
import Wide.All
import OpenK.AllK
import Wide.FinOn
import HandS.ForMost
import HandS.Wide
import HandS.WideBits
import HandS.IsInst
import HandS.Defaults
import HandS.Star
import HandS.Evl
import HandS.NoneIn
import HandS.Style
import HandS.SlotsOwn
import HandS.MakeKwOnly
import HandS.ForExc
import HandS.ExcInit
import HandS.MapJoin
import HandS.NestedK
import HandS.Lambda
import HandS.EndTab
import HandS.TryMany
import HandS.HotCalls
import HandS.ExcField
import HandS.ClsMeth
import KE.KExcSuper
import KE.KExcIs
import KE.KOpsOwn
import KE.KNestM
import PySem.Challenge.RW_grainyard_k47_reduced_forms
set_option Elab.async false
set_option linter.all false
set_option maxRecDepth 100000
set_option maxHeartbeats 4000000
namespace Gy
open PySem PySem.Spec PyProof.Rows L2
/-! ### an error's fields, wherever its object is pinned -/
section
variable {X : Cx} {a : Addr} {oe : Obj} {cls : Value} {d : Option Addr} {e : Expr} {te : TE} {pos : Pos} {n : Str}
/-- a.f of the error at a whose class is cls and whose dict stands at d -/
def tXfA (K : PySem.W.Frag) (a : Addr) (cls : Value) (d : Option Addr) (f : Str) (te : TE) : TE := fun σ H Q => te σ H fun x H1 => x = .ref a ∧
  ∃ (C dd : Addr) (fs : List (Str × V)) (v : V), cls = .ref C ∧ d = some dd ∧ XfC K C ∧ PySem.W.findIn K (.ref C) f = some none ∧ H1 dd = some (.xd fs) ∧ fs.lookup f = some v ∧ Q v H1
theorem pe_xfG (hp : (a, oe) ∈ X.pn) (hz : Zc cls d oe) (hf : ∃ vs, oe.data = .fields vs) (he : PE X e te) (hb : attributeBase e n X.env (eval e X.env) = eval e X.env := by rfl) : PE X (.Attribute e n pos) (tXfA X.K a cls d n te) := by
  constructor
  intro pins s σ H Q I h
  apply attr_of hb
  refine thn (he.run pins s σ H _ I h) ?_
  rintro u s1 ⟨x, H1, I1, rx, rfl, C, dd, fs, v, rfl, rfl, XC, no, hd, hl, q⟩
  cases (show u = Value.ref a from rx)
  have at_a := (I1.pin (a, oe) (List.mem_append_left _ hp)).1
  obtain ⟨ws, dat⟩ := hf
  obtain ⟨mA, nsA, rel⟩ := (show ObjOk X.prog X.w H1 s1.heap dd (.xd fs) from I1.hok dd _ hd)
  obtain ⟨od, at_d, look⟩ := lookIn_ns nsA
  have rn := rel n
  rw [hl] at rn
  obtain ⟨u', hu', ru'⟩ := RelO.some_of rn
  have inst : PySem.W.InstAt s1.heap a oe C (some od) := by
    refine ⟨at_a, hz.1, ?_, ?_⟩
    · unfold PySem.W.notCls
      rw [dat] <;> rfl
    · rw [hz.2]
      exact at_d
  have found : PySem.W.lookIn n od = some (some u') := by rw [look, hu']
  exact HandSPX.exc_get I1.kIn inst XC.ga XC.gg XC.exC (PySem.W.findObj_own XC.hdC no rfl found) (handed_of ru') ⟨v, H1, I1.tok _, ru', q⟩
end
/-! ### try: .. except x as n: .., several clauses, one of which takes -/
/-- behind a suite its name is gone -/
def Dn (D : Ends) (i : Nat) : Ends := { nx := fun σ H => D.nx (σ.set i none) H, rt := D.rt, bk := fun σ H => D.bk (σ.set i none) H, ct := fun σ H => D.ct (σ.set i none) H }
def wAll (K : PySem.W.Frag) (D : Ends) (i : Nat) : List (Value × (Addr → Value → Option Addr → TS)) → WX
  | [] => fun _ _ _ _ => False
  | (c, ts) :: r => fun cls d σ H => ∃ b, PySem.W.exmOne K cls c = some b ∧ (b = true → ∀ a, H a = none → i < σ.length → ts a cls d (Dn D i) (σ.set i (some (.ref a))) H) ∧ (b = false → wAll K D i r cls d σ H)
inductive AsOk (X : Cx) (n : Str) : List ExceptHandler → List (Value × (Addr → Value → Option Addr → TS)) → Prop
  | nil : AsOk X n [] []
  | cons {x : Str} {c : Value} {ts : Addr → Value → Option Addr → TS} {b0 : Stmt} {su : List Stmt} {np p' : Pos} {hds : List ExceptHandler} {l : List (Value × (Addr → Value → Option Addr → TS))} (nm : Names X x c)
      (ok : ∀ (a : Addr) (oe : Obj) (cls : Value) (d : Option Addr) (pn : List (Addr × Obj)), Zc cls d oe → (∃ vs, oe.data = .fields vs) → PSs (X.suite a ((a, oe) :: pn)) (b0 :: su) (ts a cls d)) (r : AsOk X n hds l) :
      AsOk X n (.ExceptHandler (some (.Name x np)) (some n) (b0 :: su) p' :: hds) ((c, ts) :: l)
theorem not_frame {B h : Heap} {l : List Env} {a : Addr} {o : Obj} {vs : Array Value} (F : h.FunFrames B l) (at_a : h.get? a = some o) (dat : o.data = .fields vs) : a ∉ frs l := by
  intro m
  obtain ⟨_, o2, at2, nf⟩ := F.mem m
  cases at_a.symm.trans at2
  exact nf _ dat
section
variable {X : Cx} {n : Str} {i : Nat} {body : List Stmt} {h0 : ExceptHandler} {hds : List ExceptHandler} {l : List (Value × (Addr → Value → Option Addr → TS))} {pos : Pos} {tb : WX → TS}
theorem ps_tryAs (hs : X.stack = X.env :: X.outer) (hf : X.env.frame = some X.env.locals) (hN : X.N.Nodup) (hi : X.N[i]? = some n) (hln : X.env.kindOf n = some .local)
    (hb : ∀ (W : WX) (pn : List (Addr × Obj)) (xe : Value → Shared → Prop), Takes (X.tr pn xe) W → PassesOwn (model X.prog X.w) X.A X.env xe → PSs (X.tr pn xe) body (tb W))
    (hh : AsOk X n (h0 :: hds) l) : PS X (.Try body (h0 :: hds) [] [] pos) (fun D σ H => tb (wAll X.K D i l) D σ H) := by
  constructor
  intro pins s σ H D I h
  have ok := I.ok
  have frs_ : X.A.frames = some (X.env :: X.outer) := hs ▸ ok.frames
  have run := hb (wAll X.K D i l) (X.pn ++ pins) (fun e t1 => wpAny (model X.prog X.w) X.A (noteFrame e X.env) (fun _ t2 => wpAny (model X.prog X.w) X.A (setFlight e none) (fun _ t3 =>
    wpAny (model X.prog X.w) X.A (handleBy e X.env (h0 :: hds)) (SP X pins D) X.xe t3) X.xe t2) X.xe t1) ?air PassesOwn.looking
  case air =>
    rintro u t ⟨a, B, t0, pins0, σ1, H1, cls, d, rfl, I0, gr, up, sky, na, hos, bare, wish⟩
    have I1 : Inv X pins σ1 H1 t0 := I0.ofTry ok
    rw [show (X.tr (X.pn ++ pins) _).stack = X.env :: X.outer from hs] at sky
    show wpAny (model X.prog X.w) X.A (noteFrame (.ref a) X.env) _ _ _
    apply Sky.land Zc.steady frs_ hf sky
    intro g fly upg
    have Ig : Inv X pins σ1 H1 { t with heap := g } := I1.landed gr fly.1 (up.trans upg) hos bare
    obtain ⟨og, vg, at_g, zg, dg⟩ := fly.there
    have away := not_frame fly.2.2.1 at_g dg
    have awL : a ≠ X.env.locals := by
      intro z
      exact away (List.mem_filterMap.mpr ⟨X.env, List.mem_cons_self, by rw [hf, z]⟩)
    have awF : a ∉ X.fs := by
      intro m
      obtain ⟨en, men, q⟩ := List.mem_filterMap.mp m
      exact away (List.mem_filterMap.mpr ⟨en, List.mem_cons_of_mem _ men, q⟩)
    have Sg := Ig.suite at_g dg na awL awF
    have types : PySem.W.Looks (model X.prog X.w) g (typeOf (.ref a)) cls := by
      intro A' Q' E' t' k q
      apply wpAny_typeOf_ref (k _ _ at_g)
      rw [zg.1]
      exact q
    clear h
    have inside : i < σ1.length := by
      rw [I1.len]
      exact (List.getElem?_eq_some_iff.mp hi).1
    have clauses : ∀ {hs' : List ExceptHandler} {l' : List (Value × (Addr → Value → Option Addr → TS))}, AsOk X n hs' l' → wAll X.K D i l' cls d σ1 H1 → wpAny (model X.prog X.w) X.A (handleBy (.ref a) X.env hs') (SP X pins D) X.xe { t with heap := g } := by
      intro hs' l' A
      induction A with
      | nil => exact fun z => z.elim
      | @cons x c ts b0 su np p' hs2 l2 nm okS rest ih =>
        rintro ⟨b, mt, yes, no⟩
        refine wpAny_handleBy_cons (codeAny_handlers_test ?_) (by intro z; cases z)
        have meets := PySem.W.exm_one (M := model X.prog X.w) Ig.kIn types mt
        have name_ : ∀ {Q' : Value → Shared → Prop} {E' : Value → Shared → Prop}, Q' c { t with heap := g } → wpAny (model X.prog X.w) (X.A.mark (some (.ref a))) (eval (.Name x np) X.env) Q' E' { t with heap := g } := by
          intro Q' E' q
          rcases nm with ⟨gl, ndb, hm | ⟨hm, hv, nn⟩⟩
          · exact ld_glob (X := X.suite a ((a, og) :: (X.pn ++ pins))) Sg gl hm q ndb
          · exact ld_blt (X := X.suite a ((a, og) :: (X.pn ++ pins))) Sg gl hm hv q nn ndb
        apply name_
        apply meets.here
        cases b with
        | false => exact ih (no rfl)
        | true =>
          apply codeAny_handlers_suite_as
          apply HandSPX.lands_againZ fly
          intro k flk upk
          have Ik : Inv X pins σ1 H1 { t with heap := k } := I1.landed gr flk.1 ((up.trans upg).trans upk) hos bare
          obtain ⟨ok_, vk, at_k, zk, dk⟩ := flk.there
          have Sk := Ik.suite at_k dk na awL awF
          apply store_ok (X := X.suite a ((a, ok_) :: (X.pn ++ pins))) (v := .ref a) Sk hN hi (.inl hln) rfl _ (.inr hln)
          intro t5 S5
          have suite := (okS a ok_ cls d (X.pn ++ pins) zk ⟨_, dk⟩).run [] t5 _ H1 _ S5 (yes rfl a na inside)
          refine wpAny_mono suite (fun f t6 out => ?_) (fun _ _ z => z.elim)
          have away_ : ∀ {σ6 : L2.St} {H6 : Hp} {Q' : Shared → Prop}, Inv (X.suite a ((a, ok_) :: (X.pn ++ pins))) [] σ6 H6 t6 → (∀ t7, Inv X pins (σ6.set i none) H6 t7 → Q' t7) →
              wpAny (model X.prog X.w) X.A (do bindName X.env n .none; unbindBehindTheSuite X.env n p') (fun _ t7 => Q' t7) X.xe t6 := by
            intro σ6 H6 Q' S6 q
            exact gone_ok (S6.unsuite ok) hN hi hln q
          cases f with
          | next => obtain ⟨_, _, S6, q6⟩ := out; exact away_ S6 fun _ I7 => ⟨_, _, I7, q6⟩
          | brk => obtain ⟨_, _, S6, q6⟩ := out; exact away_ S6 fun _ I7 => ⟨_, _, I7, q6⟩
          | cont => obtain ⟨_, _, S6, q6⟩ := out; exact away_ S6 fun _ I7 => ⟨_, _, I7, q6⟩
          | ret u => obtain ⟨_, _, _, S6, r6, q6⟩ := out; exact away_ S6 fun _ I7 => ⟨_, _, _, I7, r6, q6⟩
    exact clauses hh wish
  apply wpAny_Try_except
  refine wpAny_mono (run.run [] s σ H D (I.toTry _) h) (fun f t1 out => ?_) (fun _ _ z => z)
  cases f with
  | next => obtain ⟨_, _, I1, q⟩ := out; exact wpAny_execs_nil ⟨_, _, I1.ofTry ok, q⟩
  | brk => obtain ⟨_, _, I1, q⟩ := out; exact ⟨_, _, I1.ofTry ok, q⟩
  | cont => obtain ⟨_, _, I1, q⟩ := out; exact ⟨_, _, I1.ofTry ok, q⟩
  | ret u => obtain ⟨_, _, _, I1, r, q⟩ := out; exact ⟨_, _, _, I1.ofTry ok, r, q⟩
end
/-! ### a def that is called while an error is handled: it raises nothing -/
structure FnP (P : Program) (w : World) (K : PySem.W.Frag) (mg : Str → Option Value) (base : Heap) (k : Nat) (f : Addr) (fd : FuncData) (ps : List Str) (sp : Addr → Value → Option Addr → Sp) : Prop where
  len : ∀ a cls d vs H Q E, sp a cls d vs H Q E → vs.length = ps.length
  run : ∀ (A : Around) (outer : List Env) (s : Shared) (H : Hp) (args : Args) (us : List Value) (vs : List V) (Q : VK) (E : XK) (p : Addr × Obj) (cls : Value) (d : Option Addr), L2H.RoomH k A → L2H.PinOk outer H s p → Zc cls d p.2 → (∃ vs, p.2.data = .fields vs) →
    Env0 P w K mg base A outer s H → BindsTo s fd args (ps.zip us) → Vals vs us → sp p.1 cls d vs H Q E → codeAny (model P w) A (.call (.ref f) args) (CR CX0 outer P w H s Q E) s
theorem fn_ofP {P : Program} {w : World} {K : PySem.W.Frag} {mg : Str → Option Value} {base : Heap} {k : Nat} {f : Addr} {x qual : Str} {st : Stmt} {fd : FuncData} {N ps : List Str} {sp : Addr → Value → Option Addr → Sp} (F : Fun K x qual st f fd) (S : FnScope N ps (defScope st))
    (len : ∀ a cls d vs H Q E, sp a cls d vs H Q E → vs.length = ps.length)
    (body : ∀ (cdv : Value) (A : Around) (outer : List Env) (s : Shared) (H : Hp) (vs : List V) (Q : VK) (E : XK) (p : Addr × Obj) (cls : Value) (d : Option Addr), Zc cls d p.2 → (∃ vs, p.2.data = .fields vs) → L2H.RoomH k (A.deeper (envOfC qual (defScope st) s.heap.objs.size f cdv)) → sp p.1 cls d vs H Q E →
      ∃ t, PSs (L2H.cxH CX0 P w K mg base N qual (defScope st) f cdv A outer s H E p) (defBody st) t ∧ t { nx := fun _ H' => Q .non H', rt := Q } (L2.start N vs) H) : FnP P w K mg base (k + 1) f fd ps sp := by
  obtain ⟨oc, od, kV, doc, pm, an, cdv, ct, osl, rfl, lk, hcd⟩ := F.ex
  constructor
  · exact len
  intro A outer s H args us vs Q E p cls d room pin zc dat e0 bd rv hsp
  have inK : K.In s.heap := e0.mod.kin.keeps fun b o z => (e0.bs b o z).1
  have free_ : s.heap.NoLimit := e0.mod.nolimit.keeps fun b o z => (e0.bs b o z).1
  have kinds : ∀ y ∈ ps.zip us, (defScope st).names.lookup y.1 = some .local ∨ ((defScope st).names.lookup y.1 = some .cell ∧ ((cellsFrom (s.heap.objs.size + 1) (defScope st).names []).lookup y.1).isSome = true) := by
    rintro ⟨y, v⟩ hy
    rcases S.par y (List.of_mem_zip hy).1 with z | z
    · exact .inl z
    · exact .inr ⟨z, PySem.W.cellsFrom_some _ _ _ (.inl z)⟩
  apply codeAny_call_function room.depth (inK _ _ lk) rfl S.co S.gen rfl (PySem.W.codeRec_of inK hcd)
  apply bd
  apply wpAny_newFunctionEnv_cells S.kind kinds
  rintro env rfl s1 inside
  refine ⟨free_.keeps inside.toInCall.keep, codeAny_func ?_⟩
  obtain ⟨t, term, reading⟩ := body cdv A outer s H vs Q E p cls d zc dat (room.deeper _) hsp
  have I := L2H.inv_startH (CX := CX0) (E := E) S pin e0 (len _ _ _ _ _ _ _ hsp) rv inside
  refine wpAny_mono (term.run [] s1 (L2.start N vs) H _ I reading) (fun fl s' out => ?_) fun _ _ z => z
  cases fl with
  | ret u => obtain ⟨v, _, H', J, r, q⟩ := out; exact ⟨v, H', J.os, J.bare, J.base, J.hok, r, q⟩
  | next => obtain ⟨_, H', J, q⟩ := out; exact ⟨.non, H', J.os, J.bare, J.base, J.hok, rfl, q⟩
  | brk => obtain ⟨_, _, _, q⟩ := out; exact q.elim
  | cont => obtain ⟨_, _, _, q⟩ := out; exact q.elim
section
variable {X : Cx} {k : Nat} {f a : Addr} {oe : Obj} {cls : Value} {d : Option Addr} {fd : FuncData} {ps : List Str} {sp : Addr → Value → Option Addr → Sp} {x : Str} {q pos : Pos} {e : Expr} {es : List Expr} {t : TA}
theorem pe_callP (hp : (a, oe) ∈ X.pn) (hz : Zc cls d oe) (hf : ∃ vs, oe.data = .fields vs) (F : FnP X.prog X.w X.K X.mg X.base k f fd ps sp) (hr : L2H.RoomH k X.A) (hg : Gl X x) (hm : X.mg x = some (.ref f)) (hk : PySem.W.keepIn X.K (.ref f) = true) (hb : Binds X.K fd ps [])
    (ha : PA X (e :: es) t) (hdb : (x == ("__debug__" : Str)) = false := by decide) (he : starEach (e :: es) X.env = (false, eval e X.env) :: starEach es X.env := by rfl) (hpl : (backTo pos (starEach es X.env)).any (·.1) = false := by rfl) :
    PE X (.Call (.Name x q) (e :: es) [] pos) (fun σ H Q => t σ H fun vs H1 => sp a cls d vs H1 Q E0) := by
  constructor
  intro pins s σ H Q I h
  apply wpAny_Call_Name_kw
  refine ld_glob I hg hm ?_ hdb
  refine PySem.W.callWith_K (h₀ := X.base) I.ok.mod.kin hk (thn (ha.run pos pins s σ H _ I h) ?_) he hpl
  rintro us s1 ⟨vs, H1, I1, r1, q1⟩
  refine ⟨I1.kIn, ?_⟩
  have ln : (us ++ ([] : List Value)).length = ps.length := by
    rw [List.append_nil, ← r1.length]
    exact F.len _ _ _ _ _ _ _ q1
  have bd := hb s1 us I1.kIn ln
  rw [List.append_nil] at bd
  have P1 := I1.pin (a, oe) (List.mem_append_left _ hp)
  have pin : L2H.PinOk X.stack H1 s1 (a, oe) := by
    refine ⟨P1.1, P1.2.1, fun m => ?_, P1.2.2.2.2⟩
    rcases List.mem_cons.mp (I1.stkSub a m) with z | z
    · exact P1.2.2.1 z
    · exact P1.2.2.2.1 z
  refine wpAny_call (codeAny_mono (F.run X.A X.stack s1 H1 ⟨us, []⟩ us vs Q E0 (a, oe) cls d hr pin hz hf I1.env0 bd r1 q1) fun r s' out => ?_)
  cases r with
  | error z => exact (show False from out).elim
  | ok fl =>
    cases fl with
    | ret u => exact I1.after out
    | next => exact False.elim out
    | brk => exact False.elim out
    | cont => exact False.elim out
end
open NdefX
/-! ### own error classes over a built-in one -/
/-- the built-in base B, its __new__, its __init__, its mro -/
structure ErB (B newId initId : String) (bmB : List Value) : Prop where
  fb : ExcBaseFacts B newId initId bmB
  kx : PySem.W.KxsFacts B initId
  sf : StoreFacts B bmB "object.__setattr__" "object"
theorem erb_VE : ErB "ValueError" "ValueError.__new__" "ValueError.__init__" [.type "ValueError", .type "Exception", .type "BaseException", .type "object"] := ⟨PySem.F.excBase_ValueError, PySem.W.kxs_ValueError, PySem.F.store_ValueError⟩
theorem erb_LE : ErB "LookupError" "LookupError.__new__" "LookupError.__init__" [.type "LookupError", .type "Exception", .type "BaseException", .type "object"] := ⟨PySem.F.excBase_LookupError, PySem.W.kxs_LookupError, PySem.F.store_LookupError⟩
theorem erb_IE : ErB "IndexError" "IndexError.__new__" "IndexError.__init__" [.type "IndexError", .type "LookupError", .type "Exception", .type "BaseException", .type "object"] := ⟨PySem.F.excBase_IndexError, PySem.W.kxs_IndexError, PySem.F.store_IndexError⟩
/-- what stands written of an own error class at C -/
structure ErC (K : PySem.W.Frag) (C : Addr) (newId : String) (bmB : List Value) : Prop where
  cls : ∃ nm q N bs bm sn sub ab col dd k0 k1 k2 k3 k5, K.lookup C = some (excClassObj nm q C N bs bm true sn sub ab col dd k0 k1 k2 k3 k5 newId) ∧ PySem.W.excTail bmB bm = true
  ov : PySem.W.excOver K C bmB = true
  sa : PySem.W.findIn K (.ref C) "__setattr__" = some (some (.builtin "object.__setattr__"))
  ga : PySem.W.findIn K (.ref C) "__getattribute__" = some (some (.builtin "BaseException.__getattribute__"))
  gt : PySem.W.findIn K (.ref C) "__getattr__" = some none
  ex : PySem.W.subIn K (.ref C) (.type "BaseException") = some true
  ty : PySem.W.typeIn K (.ref C) = some (.type "type")
  kp : PySem.W.keepIn K (.ref C) = true
  cl : PySem.W.findIn K (.ref C) "__class__" = some (some (.builtin "object.__class__"))
  ob : PySem.W.mroIn K C (.type "object") = some true
section
variable {pr : Program} {wo : World} {A : Around} {Ex : Value → Shared → Prop} {hh : Heap} {gg : Array GenState} {dr : Drawn} {tt : Nat} {oo : OsState}
variable {nm qn : Str} {C N : Addr} {bs bm bmB : List Value} {hdct : Bool} {sn : List Str} {sub : List Value} {ab : Bool} {col : Option Bool} {dd : Option Addr} {k0 k1 k2 k3 k5 : Option Value} {B newId initId : String}
theorem mw_call (FB : ExcBaseFacts B newId initId bmB) {u e t0 : Addr} {rest : List Value} {Qv : Value → Shared → Prop}
    (hC : hh.get? C = some (excClassObj nm qn C N bs bm hdct sn sub ab col dd k0 k1 k2 k3 k5 newId)) (he : hh.get? e = some (PySem.HandSPX.excO C t0)) (hu : hh.get? u = some (PySem.W.kxs_mw initId e)) (hrest : rest.length ≤ sizeLine)
    (hq : ∀ h' t1, (∀ b o, b ≠ e → hh.get? b = some o → h'.get? b = some o) → h'.get? e = some (PySem.HandSPX.excO C t1) → Qv .none ⟨h', gg, dr, tt, oo⟩) :
    wpAny (model pr wo) A (call (.ref u) rest) Qv Ex ⟨hh, gg, dr, tt, oo⟩ := by
  refine wpAny_call (codeAny_of_tree ?_)
  show wpAny _ A.in1 (callAny (.ref u) ⟨rest, []⟩) _ _ _
  simp only [callAny]
  refine wpAny_bind (wpAny_load hu ?_)
  refine PySem.W.KFB.if_so (show ((Value.type "method-wrapper" == .type "method") || (Value.type "method-wrapper" == .type "builtin_function_or_method") || (Value.type "method-wrapper" == .type "method-wrapper")) = true by decide) ?_
  refine wpAny_bind (PySem.W.check_bound_init FB.toExcCallFacts hC he rfl ?_)
  refine wpAny_bind (wpAny_pure (wpAny_pure ⟨plainId_quiet FB.init.plain _, codeAny_builtin FB.initEntry ?_⟩))
  refine PySem.W.exc_init_tree (cls := .ref C) (t0 := t0) (dv := none) (c2 := .none) (c3 := .none) (b4 := .bool false) he hrest fun h' k e' _ => hq h' _ k e'
end
section
variable {X : Cx} {pins : List (Addr × Obj)} {σ : L2.St} {H : Hp} {s : Shared} {B newId initId : String} {bmB : List Value}
/-! ### self.f = y -/
theorem taker0 {K : PySem.W.Frag} {C : Addr} {f : Str} (h : PySem.W.findIn K (.ref C) f = some none) : PySem.W.takerIn K C f = some none := by
  unfold PySem.W.takerIn
  rw [h]
  rfl
theorem gst_new {a C : Addr} {f : Str} {y : V} {u : Value} {Qu : Unit → Shared → Prop} {Ex : Value → Shared → Prop} {A : Around} (E : ErB B newId initId bmB) (T : ErC X.K C newId bmB) (I : Inv X pins σ H s) (e : H a = some (exo a C none)) (hno : PySem.W.findIn X.K (.ref C) f = some none) (ry : RelV y u)
    (h : ∀ dx s', H dx = none → dx ≠ a → Inv X pins σ (upd (upd H dx (exd dx [(f, y)])) a (exo a C (some dx))) s' → Qu () s') : wpAny (model X.prog X.w) A (setAttr (.ref a) f u) Qu Ex s := by
  obtain ⟨nm, q, N, bs, bm, sn, sub, ab, col, dd, k0, k1, k2, k3, k5, hC, hbm⟩ := T.cls
  have hcl : PySem.W.clsIn X.K C = some { name := nm, bases := bs, mro := .ref C :: bm, ns := N, qualname := q, hasDict := true, slotNames := sn, subclasses := sub, abstract := ab, collection := col, hasDel := false } := by unfold PySem.W.clsIn; rw [hC] <;> rfl
  obtain ⟨t1, ho⟩ := exo_at I.hok e
  obtain ⟨hp, g, d, t, os⟩ := s
  have IA : PySem.W.InstAt hp a (PySem.HandSPX.excO C t1) C none := ⟨ho, rfl, rfl, trivial⟩
  refine PySem.W.set_plain I.kIn IA T.sa ?_
  refine PySem.W.osa_openX E.sf (s := ⟨hp, g, d, _, os⟩) I.kIn IA T.ov (taker0 hno) fun b => ?_
  have hcls : PySem.W.Looks (model X.prog X.w) hp (classData C) _ := PySem.W.looks_clsIn I.kIn hcl
  have hxs : a ≠ hp.objs.size := Nat.ne_of_lt (Heap.lt_size ho)
  show wpAny _ _ (Builtin.ObjectAttr.storeInOwnDict (.ref a) (.ref C) (.str f _) f u b) _ _ _
  unfold Builtin.ObjectAttr.storeInOwnDict Builtin.ObjectAttr.ownDictForStores
  repeat (first | with_reducible refine PySem.HandSPX.store_in_new ?_ ?_ | with_reducible refine wpAny_loadPart_at ho ?_ | with_reducible refine hcls.at ?_ | wp_step)
  · exact ⟨_, #[], _, (Heap.get?_update_ne _ _ _ _ hxs.symm).trans (Heap.get?_push_at rfl rfl), rfl, fun e he => absurd he (by simp), fun _ => rfl⟩
  · intro h' tk' hn' hs
    have hx1 : (hp.push { cls := .type "dict", data := .dict #[] }).get? a = some (PySem.HandSPX.excO C t1) := Heap.get?_push_of_some _ ho
    have k : ∀ b o, b ≠ a → hp.get? b = some o → h'.get? b = some o := fun b o hb ho' => (hs.2 b (Nat.ne_of_lt (Heap.lt_size ho'))).trans ((Heap.get?_update_ne _ _ _ _ hb).trans (Heap.get?_push_of_some _ ho'))
    have hx := (hs.2 a hxs).trans (Heap.get?_update_self _ hx1 rfl)
    have dn := Nat.le_refl hp.objs.size
    have hnd : H hp.objs.size = none := I.hok.fresh dn
    have nd : ∀ {b : Addr} {o : Obj}, hp.get? b = some o → b ≠ hp.objs.size := fun q => Nat.ne_of_lt (Heap.lt_size q)
    have na : ∀ {b : Addr}, H b = none → b ≠ a := fun {b} n z => by
      rw [z, e] at n
      cases n
    have U1 : Un X.fs [] H (upd (upd H hp.objs.size (exd hp.objs.size [(f, y)])) a (exo a C (some hp.objs.size))) hp h' := {
      keep := fun b o q n _ _ => k b o (na n) q
      slot := fun b o q n _ _ => ⟨o.slots, k b o (na n) q⟩
      free := fun b o q n _ => (upd_ne (na n)).trans ((upd_ne (nd q)).trans n)
      there := fun b o q _ => by
        by_cases hb : b = a
        · exact ⟨_, hb ▸ hx⟩
        · exact ⟨o, k b o hb q⟩
      tups := fun b xs q => (upd_ne (at_ne e q exo_tup)).trans ((upd_ne (ne_of_none q hnd)).trans q)
      frzs := fun b o v q => (upd_ne (at_ne e q exo_frz)).trans ((upd_ne (ne_of_none q hnd)).trans q)
      tbls := fun b ps q => ⟨#[], by rw [upd_ne (at_ne e q exo_tbl), upd_ne (ne_of_none q hnd), q]; simp⟩ }
    refine h hp.objs.size _ hnd hxs.symm (I.un (t' := tk') U1 fun b o q => ?_)
    by_cases hb : b = a
    · subst hb
      rw [upd_same] at q
      cases q
      exact exo_ok hx
    · rw [upd_ne hb] at q
      by_cases hd : b = hp.objs.size
      · subst hd
        rw [upd_same] at q
        cases q
        exact exd_ok hn' (relO_put (fs := []) ry fun g => True.intro)
      · rw [upd_ne hd] at q
        refine (I.hok b o q).stay (fun c v hc z => k c v ?_ z) (fun c hc => (upd_ne (at_ne e hc exo_own)).trans ((upd_ne (ne_of_none hc hnd)).trans hc)) fun c xs hc => (upd_ne (at_ne e hc exo_tup)).trans ((upd_ne (ne_of_none hc hnd)).trans hc)
        rcases hc with hc | hc
        · rw [hc]
          exact hb
        · exact at_ne e hc exo_own
theorem gst_old {a C dx : Addr} {f : Str} {y : V} {u : Value} {fs : List (Str × V)} {Qu : Unit → Shared → Prop} {Ex : Value → Shared → Prop} {A : Around} (E : ErB B newId initId bmB) (T : ErC X.K C newId bmB) (I : Inv X pins σ H s) (e : H a = some (exo a C (some dx))) (ed : H dx = some (exd dx fs)) (hl : fs.length ≤ 900)
    (hno : PySem.W.findIn X.K (.ref C) f = some none) (ry : RelV y u) (h : ∀ s', Inv X pins σ (upd H dx (exd dx ((f, y) :: fs))) s' → Qu () s') : wpAny (model X.prog X.w) A (setAttr (.ref a) f u) Qu Ex s := by
  obtain ⟨nm, q, N, bs, bm, sn, sub, ab, col, dd, k0, k1, k2, k3, k5, hC, hbm⟩ := T.cls
  have hcl : PySem.W.clsIn X.K C = some { name := nm, bases := bs, mro := .ref C :: bm, ns := N, qualname := q, hasDict := true, slotNames := sn, subclasses := sub, abstract := ab, collection := col, hasDel := false } := by unfold PySem.W.clsIn; rw [hC] <;> rfl
  obtain ⟨t1, ho⟩ := exo_at I.hok e
  obtain ⟨mA, hns, rel⟩ := exd_at I.hok ed
  have hw := within_of rel
  obtain ⟨hp, g, d, t, os⟩ := s
  obtain ⟨oD, _, _, hoD, _, _⟩ := hns.count hw
  have IA : PySem.W.InstAt hp a { cls := .ref C, dict := some dx, data := .fields #[.ref t1, .none, .none, .none, .bool false, .none] } C (some oD) := ⟨ho, rfl, rfl, hoD⟩
  refine PySem.W.set_plain I.kIn IA T.sa ?_
  refine PySem.W.osa_openX E.sf (s := ⟨hp, g, d, _, os⟩) I.kIn IA T.ov (taker0 hno) fun b => ?_
  have hcls : PySem.W.Looks (model X.prog X.w) hp (classData C) _ := PySem.W.looks_clsIn I.kIn hcl
  show wpAny _ _ (Builtin.ObjectAttr.storeInOwnDict (.ref a) (.ref C) (.str f _) f u b) _ _ _
  unfold Builtin.ObjectAttr.storeInOwnDict Builtin.ObjectAttr.ownDictForStores
  repeat (first | with_reducible refine PySem.OEX.store_in_old hns hw (by rw [List.length_map]; omega) ?_ | with_reducible refine wpAny_loadPart_at ho ?_ | with_reducible refine hcls.at ?_ | wp_step)
  intro h' tk' hn hs
  have k : ∀ b o, b ≠ dx → hp.get? b = some o → h'.get? b = some o := fun b o hb ho' => (hs.2 b hb).trans ho'
  have hd : ∃ o, h'.get? dx = some o := by
    obtain ⟨o, _, _, e', _⟩ := hn
    exact ⟨o, e'⟩
  exact h _ (I.write (t' := tk') (x := dx) (e := dx) (o := exd dx ((f, y) :: fs)) (by rw [ed]; exact True.intro) (.inl rfl) k hd (exd_ok hn (relO_put ry rel)))
def tGst (K : PySem.W.Frag) (newId : String) (bmB : List Value) (f : Str) (to te : TE) : TS := fun D σ H => te σ H fun y H1 => to σ H1 fun x H2 => ∃ a C : Addr, x = .ref a ∧ ErC K C newId bmB ∧ PySem.W.findIn K (.ref C) f = some none ∧
  ((H2 a = some (exo a C none) ∧ ∀ dx, H2 dx = none → dx ≠ a → D.nx σ (upd (upd H2 dx (exd dx [(f, y)])) a (exo a C (some dx)))) ∨
    ∃ (dx : Addr) (fs : List (Str × V)), H2 a = some (exo a C (some dx)) ∧ H2 dx = some (exd dx fs) ∧ fs.length ≤ 900 ∧ D.nx σ (upd H2 dx (exd dx ((f, y) :: fs))))
theorem ps_gst {o e : Expr} {to te : TE} {f : Str} {p' pos : Pos} (E : ErB B newId initId bmB) (ho : PE X o to) (he : PE X e te) (hs : swapsWith e (some (.Attribute o f p')) pos.line X.env = pure false := by rfl) : PS X (.Assign [.Attribute o f p'] e pos) (tGst X.K newId bmB f to te) := by
  refine ⟨fun pins s σ H D I h => ?_⟩
  refine plainObj_wpAny_Assign_Attribute (thn (he.run pins s σ H _ I h) fun v s1 ⟨y, H1, I1, r1, q1⟩ => thn (ho.run pins s1 σ H1 _ I1 q1) fun u s2 ⟨x, H2, I2, r2, a, C, ex, T, hno, q⟩ => ?_) hs
  subst ex
  obtain rfl : u = Value.ref a := r2
  rcases q with ⟨ea, q⟩ | ⟨dx, fs, ea, ed, hl, q⟩
  · exact gst_new E T I2 ea hno r1 fun dx s' n ne J => ⟨σ, _, J, q dx n ne⟩
  · exact gst_old E T I2 ea ed hl hno r1 fun s' J => ⟨σ, _, J, q⟩
end
section
variable {X : Cx} {pins : List (Addr × Obj)} {σ : L2.St} {H : Hp} {s : Shared} {B newId initId : String} {bmB : List Value}
/-! ### super().__init__(text), the first statement of an own error's __init__ -/
/-- a method with super(): its def at f, its code object at c -/
structure SupM (X : Cx) (f c : Addr) (ar : Arg) : Prop where
  fu : X.env.func = some f
  co : X.env.code = .ref c
  fd : ∃ (o : Obj) (fd : FuncData), X.K.lookup f = some o ∧ o.data = .func fd ∧ (fd.params.posonlyargs ++ fd.params.args).head? = some ar
  cd : ∃ (o : Obj) (vs : Array Value) (file : Str) (tk : Tok), X.K.lookup c = some o ∧ o.data = .fields vs ∧ vs[2]? = some (.str file tk) ∧ ((X.prog.main.file : Str) == file) = true
  ks : X.env.kindOf "super" = some .globalImplicit
  kc : X.env.kindOf "__class__" = some .free
  ka : X.env.kindOf ar.arg = some .local
  top : (X.prog.main.scope.names.lookup ("super" : Str)).isSome = false
  no : X.mg "super" = none
  op : PySem.W.nsIn X.K cStatics "thirdparty.any" = some none
theorem sup_stmt {f c a C : Addr} {ar : Arg} {i j : Nat} {body : List Stmt} {m : Str} {n : Nat} {pl : Sem Bool} {p0 p1 p2 p3 p4 p5 : Pos} (E : ErB B newId initId bmB) (T : SupM X f c ar) (O : ErC X.K C newId bmB) (I : Inv X pins σ H s)
    (hi : X.N[i]? = some ar.arg) (hs : σ[i]? = some (some (.ref a))) (hj : X.N[j]? = some ("__class__" : Str)) (hsj : σ[j]? = some (some (.ref C))) (ha : H a = some (exo a C none))
    (hsup : PySem.W.ks_superIn X.K C C "__init__" = some (some (.builtin initId))) (hB : PySem.W.subIn X.K (.ref C) (.type B) = some true) (hDD : PySem.W.mroIn X.K C (.ref C) = some true)
    (he : eval (.Call (.Attribute (.Call (.Name "super" p0) [] [] p1) "__init__" p2) [.Constant (.str m) n p3] [] p4) X.env = (do
      let ov ← attributeBase (.Call (.Name "super" p0) [] [] p1) "__init__" X.env (eval (.Call (.Name "super" p0) [] [] p1) X.env)
      standAt p2.atName
      let (g, first) ← holding [ov] (getMethod ov "__init__" pl)
      callWith p4 g first (backTo p4 (starEach [.Constant (.str m) n p3] X.env)) []))
    (hint : interactive X.env = false) (hsw : swapsWith (.Call (.Attribute (.Call (.Name "super" p0) [] [] p1) "__init__" p2) [.Constant (.str m) n p3] [] p4) none p5.line X.env = pure false) :
    _root_.PySem.wpAt (model X.prog X.w) X.A (.func body X.env) (exec (.Expr (.Call (.Attribute (.Call (.Name "super" p0) [] [] p1) "__init__" p2) [.Constant (.str m) n p3] [] p4) p5) X.env) (fun fl s' => fl = .next ∧ Inv X pins σ H s') X.xe s := by
  refine ks_wpAt_Expr_any ?_ hint hsw
  refine ks_wpAt_MethodCall (pl := pl) ?_ he
  have KX : X.K.In s.heap := I.kIn
  obtain ⟨of, fd, hf, hfd, hp⟩ := T.fd
  obtain ⟨oc, vs, file, tk, hc, hoc, hvs, hfile⟩ := T.cd
  obtain ⟨nm, q, N, bs, bm, sn, sub, ab, col, dd, k0, k1, k2, k3, k5, hC, hbm⟩ := O.cls
  have hcl : PySem.W.clsIn X.K C = some { name := nm, bases := bs, mro := .ref C :: bm, ns := N, qualname := q, hasDict := true, slotNames := sn, subclasses := sub, abstract := ab, collection := col, hasDel := false } := by unfold PySem.W.clsIn; rw [hC] <;> rfl
  obtain ⟨t1, ho⟩ := exo_at I.hok ha
  refine ks_wpAt_super_base (env := X.env) T.ks T.kc (by decide) T.fu (KX _ _ hf) hfd hp T.co (KX _ _ hc) hoc hvs hfile T.top ?_
  obtain ⟨mb, h1, h2⟩ := I.mod.blt
  refine PySem.W.ks_loadName_global I.ok.kind T.ks (Calls.loadGlobal_builtin (by rw [I.ok.glob]; exact I.mod.glob.keeps I.bk) T.no (by rw [I.ok.blt]; exact h1.keeps I.bk) ((h2 "super" (by decide)).trans (by decide +kernel)) ⟨rfl, ?_⟩)
  obtain ⟨mm, hn, hl⟩ := I.loc
  obtain ⟨uc, rc, lc⟩ := hl j _ _ hj hsj (.inr (.inr T.kc))
  obtain ⟨ua, ra, la⟩ := hl i _ _ hi hs (.inl T.ka)
  obtain rfl : uc = Value.ref C := rc
  obtain rfl : ua = Value.ref a := ra
  obtain ⟨cc, hcc, hcell⟩ : ∃ cc, X.env.cells.lookup ("__class__" : Str) = some cc ∧ s.heap.IsCell cc (some (Value.ref C)) := by
    rcases lc with ⟨z, _⟩ | ⟨_, z⟩
    · rw [T.kc] at z
      cases z
    · exact z
  have hma : mm ar.arg = some (Value.ref a) := by
    rcases la with ⟨_, z⟩ | ⟨z, _⟩
    · exact z
    · rw [T.ka] at z
      rcases z with z | z <;> cases z
  refine wpAny_loadName_free I.ok.kind T.kc hcc hcell ?_
  refine wpAny_loadName_local I.ok.kind T.ka hn hma ?_
  have hCh := KX _ _ hC
  refine ks_wpAny_isType_cls hCh rfl ⟨rfl, ?_⟩
  obtain ⟨hp', g, d, t, os⟩ := s
  refine ks_wpAny_call_super hCh rfl ho rfl (fun z e => by cases e) (PySem.W.looks_mroIn KX hDD) fun h1 so kk => ?_
  have I1 : Inv X pins σ H ⟨h1, g, d, t, os⟩ := I.kept (t' := t) kk
  have hin : PySem.W.Looks (model X.prog X.w) h1 (isInstance (.ref a) (.type B)) true := (show PySem.W.InstAt h1 a (PySem.HandSPX.excO C t1) C none from ⟨kk _ _ ho, rfl, rfl, trivial⟩).type.andThen (PySem.W.looks_subIn I1.kIn hB)
  have hsup' := hsup
  unfold PySem.W.ks_superIn at hsup'
  rw [hcl] at hsup'
  refine PySem.W.kxs_getMethod E.kx so (PySem.W.looks_opaque I1.kIn T.op) (l₀ := .ref C :: bm) (fun A Q E s k q => wpAny_bind ((PySem.W.looks_clsIn I1.kIn hcl) A _ E s k (wpAny_pure q))) rfl I1.kIn hsup' hin (fun z => ?_) (by decide) ?_
  · subst z
    rw [show hp'.get? a = _ from hCh] at ho
    cases ho
  have kk2 : ∀ b o, h1.get? b = some o → (h1.push (PySem.W.kxs_mw initId a)).get? b = some o := fun b o e => Heap.get?_push_of_some _ e
  have I2 : Inv X pins σ H ⟨h1.push (PySem.W.kxs_mw initId a), g, d, t + 1, os⟩ := I1.kept (t' := t + 1) kk2
  have hmw : (h1.push (PySem.W.kxs_mw initId a)).get? h1.objs.size = some (PySem.W.kxs_mw initId a) := Heap.get?_push_at rfl rfl
  show wpAny _ _ (callWith p4 (.ref h1.objs.size) [] ((false, eval (.Constant (.str m) n p3) X.env) :: backTo p4 (starEach [] X.env)) []) _ _ _
  refine PySem.W.kxs_callWith (i := initId) (x := a) rfl (PySem.Calls.evalArgs_plain (PySem.Calls.spliced_cons (PySem.Calls.Constant_str (PySem.Calls.spliced_nil ⟨hmw, ?_⟩))))
  show wpAny _ _ (call (.ref h1.objs.size) [.str m (t + 1)]) _ _ _
  refine mw_call E.fb (kk2 _ _ (kk _ _ hCh)) (kk2 _ _ (kk _ _ ho)) hmw (by show 1 ≤ sizeLine; decide) fun h3 t3 k3 e3 => ⟨rfl, ?_⟩
  have J := (I2.tok (t + 1 + 1)).write (h' := h3) (t' := t + 1 + 1) (x := a) (e := a) (o := exo a C none) (by rw [ha]; exact True.intro) (.inl rfl) k3 ⟨_, e3⟩ (exo_ok e3)
  rw [show upd H a (exo a C none) = H from funext fun z => by
    by_cases hz : z = a
    · rw [hz, upd_same, ha]
    · rw [upd_ne hz]] at J
  exact J
end
section
variable {P : Program} {w : World} {K : PySem.W.Frag} {mg : Str → Option Value} {base : Heap} {B newId initId : String} {bmB : List Value}
/-- what stands written of an own error's __init__: its words F, the def at f, its class at C -/
structure IniM (P : Program) (K : PySem.W.Frag) (mg : Str → Option Value) (B newId initId : String) (bmB : List Value) (f C : Addr) (F : NF) (ar : Arg) (doc pm ctv : Value) : Prop where
  lk : ∃ (od : Option Addr) (sl : Array (Option Value)), K.lookup f = some ⟨.type "function", od, .func (F.fd doc pm ctv), sl⟩
  cd : PySem.W.codeIn K (.ref F.c) F.qual = true
  cl : ∃ (cc : Addr) (o : Obj), F.cl = [(("__class__" : Str), cc)] ∧ K.lookup cc = some o ∧ o.data = .cell (some (.ref C))
  hd : (F.params.posonlyargs ++ F.params.args).head? = some ar
  fl : ∃ (o : Obj) (vs : Array Value) (file : Str) (tk : Tok), K.lookup F.c = some o ∧ o.data = .fields vs ∧ vs[2]? = some (.str file tk) ∧ ((P.main.file : Str) == file) = true
  ks : F.scope.names.lookup ("super" : Str) = some .globalImplicit
  kc : F.scope.names.lookup ("__class__" : Str) = some .free
  ka : F.scope.names.lookup ar.arg = some .local
  top : (P.main.scope.names.lookup ("super" : Str)).isSome = false
  no : mg "super" = none
  op : PySem.W.nsIn K cStatics "thirdparty.any" = some none
  ox : ErC K C newId bmB
  su : PySem.W.ks_superIn K C C "__init__" = some (some (.builtin initId))
  sb : PySem.W.subIn K (.ref C) (.type B) = some true
  mr : PySem.W.mroIn K C (.ref C) = some true
theorem init_fn {f C : Addr} {F : NF} {ar : Arg} {doc pm ctv : Value} {N ps : List Str} {k i j n : Nat} {sp : Sp} {m : Str} {p0 p1 p2 p3 p4 p5 : Pos} {rest : List Stmt} {pl : Addr → Sem Bool} (EB : ErB B newId initId bmB) (T : IniM P K mg B newId initId bmB f C F ar doc pm ctv)
    (S : NScope N ps ["__class__"] F.scope) (len : ∀ vs H Q E, sp vs H Q E → vs.length = ps.length) (hi : N[i]? = some ar.arg) (hj : N[j]? = some ("__class__" : Str))
    (hbd : F.body = .Expr (.Call (.Attribute (.Call (.Name "super" p0) [] [] p1) "__init__" p2) [.Constant (.str m) n p3] [] p4) p5 :: rest)
    (hst : ∀ vs H Q E, sp vs H Q E → ∃ a, (startF N vs [some (.ref C)])[i]? = some (some (.ref a)) ∧ (startF N vs [some (.ref C)])[j]? = some (some (.ref C)) ∧ H a = some (exo a C none))
    (hbody : ∀ (A : Around) (outer : List Env) (s : Shared) (H : Hp) (vs : List V) (Q : VK) (E : XK), Room k (A.deeper (envF F f s.heap.objs.size)) → sp vs H Q E →
      ∃ t, PSs (ncx CX0 P w K mg base N F f A outer s H E) rest t ∧ t { nx := fun _ H' => Q .non H', rt := Q } (startF N vs [some (.ref C)]) H)
    (he : ∀ L, eval (.Call (.Attribute (.Call (.Name "super" p0) [] [] p1) "__init__" p2) [.Constant (.str m) n p3] [] p4) (envF F f L) = (do
      let ov ← attributeBase (.Call (.Name "super" p0) [] [] p1) "__init__" (envF F f L) (eval (.Call (.Name "super" p0) [] [] p1) (envF F f L))
      standAt p2.atName
      let (g, first) ← holding [ov] (getMethod ov "__init__" (pl L))
      callWith p4 g first (backTo p4 (starEach [.Constant (.str m) n p3] (envF F f L))) []) := by intro _; rfl)
    (hint : ∀ L, interactive (envF F f L) = false := by intro _; rfl)
    (hsw : ∀ L, swapsWith (.Call (.Attribute (.Call (.Name "super" p0) [] [] p1) "__init__" p2) [.Constant (.str m) n p3] [] p4) none p5.line (envF F f L) = pure false := by intro _; rfl) :
    FnOk P w K mg base CX0 (k + 1) f (F.fd doc pm ctv) ps sp := by
  refine ⟨len, fun A outer s H args us vs Q E hr e0 hb r hsp => ?_⟩
  have KX : K.In s.heap := e0.mod.kin.keeps fun b o e => (e0.bs b o e).1
  have hl := len _ _ _ _ hsp
  have lim : s.heap.NoLimit := e0.mod.nolimit.keeps fun b o e => (e0.bs b o e).1
  obtain ⟨od, sl, lk⟩ := T.lk
  obtain ⟨cc, oc, ecl, lcc, dcc⟩ := T.cl
  refine codeAny_call_function hr.depth (KX _ _ lk) rfl S.co S.gen rfl (PySem.W.codeRec_of KX T.cd) (hb _ _ _ _ ?_)
  refine wpAny_newFunctionEnv S.nocell (fun ⟨x, _⟩ hy => S.par x (List.of_mem_zip hy).1) (fun h1 hns hsb => ⟨lim.fresh _ hsb, ?_⟩) S.kind
  have kp : ∀ b o, s.heap.get? b = some o → h1.get? b = some o := fun b o e => hsb.extBut b o (Nat.ne_of_lt (Heap.lt_size e)) (Heap.get?_push_of_some _ e)
  have CA : CellsAt F.cl ["__class__"] [some (.ref C)] s.heap H := by
    rw [ecl]
    have hc : ∀ (y : Str) (c : Addr), ([(("__class__" : Str), cc)] : List (Str × Addr)).lookup y = some c → c = cc ∧ y = "__class__" := fun y c e => by
      rw [List.lookup_cons] at e
      split at e
      · rename_i z
        exact ⟨(Option.some.inj e).symm, eq_of_beq z⟩
      · cases e
    refine ⟨rfl, fun y c e => ?_, fun x y c e1 e2 => (hc x c e1).2.trans (hc y c e2).2.symm, fun i y e => ?_⟩
    · rw [(hc y c e).1]
      exact ⟨(e0.bs _ _ (e0.mod.kin _ _ lcc)).2, _, oc, KX _ _ lcc, dcc⟩
    · match i, e with
      | 0, e =>
        cases e
        exact ⟨cc, by simp, fun v e => by cases e; exact ⟨_, rfl, oc, KX _ _ lcc, dcc⟩⟩
  have I : Inv (ncx CX0 P w K mg base N F f A outer s H E) [] (startF N vs [some (.ref C)]) H { s with heap := h1, toks := s.toks + (ps.zip us).length } := inv_startN S hr.hd e0 hl r CA hns kp
  obtain ⟨a, s1, s2, ha⟩ := hst _ _ _ _ hsp
  have TM : SupM (ncx CX0 P w K mg base N F f A outer s H E) f F.c ar := ⟨rfl, rfl, ⟨_, _, lk, rfl, T.hd⟩, T.fl, T.ks, T.kc, T.ka, T.top, T.no, T.op⟩
  have fin : ∀ {τ : L2.St} {G : Hp} {v : V} {u : Value} {z : Shared}, Inv (ncx CX0 P w K mg base N F f A outer s H E) [] τ G z → L2.RelV v u → Q v G → CE outer P w H s Q u z :=
    fun J rv q => ⟨_, _, J.os, J.bare, J.base, J.hok, rv, q⟩
  obtain ⟨t, ht, hq⟩ := hbody A outer s H vs Q E (hr.deeper _) hsp
  refine ks_codeAny_funcAt (body := F.body) (env := envF F f s.heap.objs.size) ?_
  rw [hbd]
  refine ks_wpAt_execs_cons (ks_wpAt_mono (sup_stmt (X := ncx CX0 P w K mg base N F f A outer s H E) (i := i) (j := j) EB TM T.ox I hi s1 hj s2 ha T.su T.sb T.mr (he _) (hint _) (hsw _)) (fun fl s' hs => ?_) fun e s' hx => hx)
  obtain ⟨rfl, J⟩ := hs
  refine _root_.PySem.wpAt_of_wpAny (wpAny_mono (ht.run [] s' _ H _ J hq) (fun fl z hz => ?_) fun e s' hx => hx)
  cases fl with
  | ret u =>
    obtain ⟨v5, τ5, G5, J5, r5, q5⟩ := hz
    exact fin J5 r5 q5
  | next =>
    obtain ⟨τ5, G5, J5, q5⟩ := hz
    exact fin (v := V.non) (u := Value.none) J5 rfl q5
  | brk =>
    obtain ⟨_, _, _, q5⟩ := hz
    exact q5.elim
  | cont =>
    obtain ⟨_, _, _, q5⟩ := hz
    exact q5.elim
end
section
variable {X : Cx} {B newId initId : String} {bmB : List Value}
theorem ErC.has {K : PySem.W.Frag} {C : Addr} (T : ErC K C newId bmB) : PySem.W.hasDictIn K C = true ∧ (PySem.W.clsIn K C).isSome = true := by
  obtain ⟨nm, q, N, bs, bm, sn, sub, ab, col, dd, k0, k1, k2, k3, k5, hC, hbm⟩ := T.cls
  have hcl : PySem.W.clsIn K C = some { name := nm, bases := bs, mro := .ref C :: bm, ns := N, qualname := q, hasDict := true, slotNames := sn, subclasses := sub, abstract := ab, collection := col, hasDel := false } := by unfold PySem.W.clsIn; rw [hC] <;> rfl
  exact ⟨by unfold PySem.W.hasDictIn; rw [hcl] <;> rfl, by rw [hcl] <;> rfl⟩
/-! ### C(..): an own error as a value -/
def tMkV (C : Addr) (sp : Sp) (dvs : List V) (ta : TA) : TE := fun σ H Q => ta σ H fun vs H1 => vs.length ≤ 1000 ∧ ∀ a, H1 a = none → sp (.ref a :: (vs ++ dvs)) (upd H1 a (exo a C none)) (fun v H2 => v = .non ∧ Q (.ref a) H2) (fun _ _ _ => False)
theorem run_mkE {CX : CXT} {C fI : Addr} {k : Nat} {fd : FuncData} {ps : List Str} {sp : Sp} {ds : List Value} {dvs vs : List V} {us : List Value} {pins : List (Addr × Obj)} {σ : L2.St} {H1 : Hp} {s1 : Shared} {Q : VK} (E : ErB B newId initId bmB) (T : ErC X.K C newId bmB)
    (iC : PySem.W.findIn X.K (.ref C) "__init__" = some (some (.ref fI))) (tI : PySem.W.typeIn X.K (.ref fI) = some (.type "function")) (F1 : FnOk X.prog X.w X.K X.mg X.base CX k fI fd ps sp) (hr : Room (k + 1) X.A) (hb : Binds X.K fd ps ds) (hd : Vals dvs ds)
    (hx : Passes CX X (fun _ _ _ => False)) (I1 : Inv X pins σ H1 s1) (r1 : Vals vs us) (hz : vs.length ≤ 1000) (q1 : ∀ a, H1 a = none → sp (.ref a :: (vs ++ dvs)) (upd H1 a (exo a C none)) (fun v H2 => v = .non ∧ Q (.ref a) H2) (fun _ _ _ => False)) :
    wpAny (model X.prog X.w) X.A (call (.ref C) us) (EP X pins σ Q) X.xe s1 := by
  obtain ⟨nm, q, N, bs, bm, sn, sub, ab, col, dd, k0, k1, k2, k3, k5, hC, hbm⟩ := T.cls
  obtain ⟨hp, g, dr, tk, os⟩ := s1
  have hsz : hp.objs.size ≤ hp.objs.size + 1 := Nat.le_succ _
  have hq := q1 (hp.objs.size + 1) (I1.hok.fresh hsz)
  have kk : ∀ b o, hp.get? b = some o → ((hp.push (PySem.W.kdv_tup us)).push (PySem.HandSPX.excO C hp.objs.size)).get? b = some o := fun b o e => Heap.get?_push_of_some _ (Heap.get?_push_of_some _ e)
  have hget : ((hp.push (PySem.W.kdv_tup us)).push (PySem.HandSPX.excO C hp.objs.size)).get? (hp.objs.size + 1) = some (PySem.HandSPX.excO C hp.objs.size) := by heap_get
  have I2 : Inv X pins σ (upd H1 (hp.objs.size + 1) (exo (hp.objs.size + 1) C none)) ⟨(hp.push (PySem.W.kdv_tup us)).push (PySem.HandSPX.excO C hp.objs.size), g, dr, tk, os⟩ :=
    I1.laid (t' := tk) kk hsz (exo_ok hget)
  have r2 : Vals (V.ref (hp.objs.size + 1) :: (vs ++ dvs)) (Value.ref (hp.objs.size + 1) :: (us ++ ds)) := .cons rfl (r1.append hd)
  have hl : (Value.ref (hp.objs.size + 1) :: us ++ ds).length = ps.length := r2.length.symm.trans (F1.len _ _ _ _ hq)
  have hus : us.length ≤ sizeLine := by
    rw [← Paired.length r1, sizeLine_eq]
    omega
  refine wpAny_call (PySem.HandSPX.call_own E.fb (fun Y => PySem.W.excTail_contains Y bm hbm) (I1.kIn _ _ hC) (PySem.W.looks_findIn I1.kIn iC) (fun self => PySem.W.bind_fn I1.kIn self tI) hus
    (codeAny_mono (F1.run _ X.stack _ _ ⟨Value.ref (hp.objs.size + 1) :: us, []⟩ (Value.ref (hp.objs.size + 1) :: (us ++ ds)) _ _ (fun _ _ _ => False) (hr.make C us []) (I2.env0.make C us []) (hb _ (Value.ref (hp.objs.size + 1) :: us) I2.kIn hl) r2 hq) fun r s' hq' => ?_))
  match r, hq' with
  | .error er, hq' => exact hx pins σ _ _ er s' I2 hq'
  | .ok (.ret u), hq' =>
    obtain ⟨v, H2, J, rv, ev, q2⟩ := I2.after hq'
    subst ev
    exact ⟨rv, .ref (hp.objs.size + 1), H2, J, rfl, q2⟩
  | .ok .next, hq' => exact False.elim hq'
  | .ok .brk, hq' => exact False.elim hq'
  | .ok .cont, hq' => exact False.elim hq'
variable {CX : CXT} {x : Str} {C fI : Addr} {k : Nat} {fd : FuncData} {ps : List Str} {sp : Sp} {ds : List Value} {dvs : List V} {e : Expr} {es : List Expr} {ta : TA} {te : TE} {p pos : Pos}
theorem pe_mkE (E : ErB B newId initId bmB) (T : ErC X.K C newId bmB) (iC : PySem.W.findIn X.K (.ref C) "__init__" = some (some (.ref fI))) (tI : PySem.W.typeIn X.K (.ref fI) = some (.type "function"))
    (F1 : FnOk X.prog X.w X.K X.mg X.base CX k fI fd ps sp) (hr : Room (k + 1) X.A) (hb : Binds X.K fd ps ds) (hd : Vals dvs ds) (hx : Passes CX X (fun _ _ _ => False)) (hg : Gl X x) (hm : X.mg x = some (.ref C)) (ha : PA X (e :: es) ta)
    (hdb : (x == ("__debug__" : Str)) = false := by decide) (he : starEach (e :: es) X.env = (false, eval e X.env) :: starEach es X.env := by rfl) (hpl : (backTo pos (starEach es X.env)).any (·.1) = false := by rfl) :
    PE X (.Call (.Name x p) (e :: es) [] pos) (tMkV C sp dvs ta) := by
  refine ⟨fun pins s σ H Q I h => ?_⟩
  refine wpAny_Call_Name_kw (ld_glob I hg hm ?_ hdb)
  refine PySem.W.callWith_K (h₀ := X.base) I.ok.mod.kin T.kp (thn (ha.run pos pins s σ H _ I h) fun us s1 ⟨vs, H1, I1, r1, hz, q1⟩ => ⟨I1.kIn, ?_⟩) he hpl
  exact run_mkE E T iC tI F1 hr hb hd hx I1 r1 hz q1
theorem pe_mkE0 (E : ErB B newId initId bmB) (T : ErC X.K C newId bmB) (iC : PySem.W.findIn X.K (.ref C) "__init__" = some (some (.ref fI))) (tI : PySem.W.typeIn X.K (.ref fI) = some (.type "function"))
    (F1 : FnOk X.prog X.w X.K X.mg X.base CX k fI fd ps sp) (hr : Room (k + 1) X.A) (hb : Binds X.K fd ps ds) (hd : Vals dvs ds) (hx : Passes CX X (fun _ _ _ => False)) (hg : Gl X x) (hm : X.mg x = some (.ref C))
    (hdb : (x == ("__debug__" : Str)) = false := by decide) : PE X (.Call (.Name x p) [] [] pos) (tMkV C sp dvs tNil) := by
  refine ⟨fun pins s σ H Q I h => ?_⟩
  refine wpAny_Call_Name_kw (ld_glob I hg hm ?_ hdb)
  exact PySem.W.callWith_K0 I.kIn T.kp (run_mkE (us := []) E T iC tI F1 hr hb hd hx I .nil h.1 h.2)
/-! ### e.f of such a value -/
def tXo (K : PySem.W.Frag) (f : Str) (te : TE) : TE := fun σ H Q => te σ H fun x H1 => ∃ (a C d : Addr) (nw : String) (bm : List Value) (fs : List (Str × V)) (v : V), x = .ref a ∧ H1 a = some (exo a C (some d)) ∧ H1 d = some (exd d fs) ∧ fs.lookup f = some v ∧
  PySem.W.findIn K (.ref C) f = some none ∧ ErC K C nw bm ∧ Q v H1
theorem inst_exo {pins : List (Addr × Obj)} {σ : L2.St} {H : Hp} {s : Shared} {a C d : Addr} {fs : List (Str × V)} (I : Inv X pins σ H s) (ea : H a = some (exo a C (some d))) (ed : H d = some (exd d fs)) :
    ∃ (ox od : Obj) (mA : Str → Option Value), PySem.W.InstAt s.heap a ox C (some od) ∧ (∀ n, PySem.W.lookIn n od = some (mA n)) ∧ ∀ f, RelO (fs.lookup f) (mA f) := by
  obtain ⟨t1, ho⟩ := exo_at I.hok ea
  obtain ⟨mA, hns, rel⟩ := exd_at I.hok ed
  obtain ⟨od, hod, hl⟩ := lookIn_ns hns
  exact ⟨_, od, mA, ⟨ho, rfl, rfl, hod⟩, hl, rel⟩
theorem pe_xo {n : Str} (he : PE X e te) (hb : attributeBase e n X.env (eval e X.env) = eval e X.env := by rfl) : PE X (.Attribute e n pos) (tXo X.K n te) := by
  refine ⟨fun pins s σ H Q I h => ?_⟩
  refine attr_of hb (thn (he.run pins s σ H _ I h) fun u s1 hh => ?_)
  obtain ⟨x, H1, I1, rx, a, C, d, nw, bm, fs, v, ex, ea, ed, l, hno, T, q⟩ := hh
  subst ex
  obtain rfl : u = Value.ref a := rx
  obtain ⟨ox, od, mA, J, hl, rel⟩ := inst_exo I1 ea ed
  obtain ⟨u, hu, ru⟩ := RelO.some_of (v := v) (o := mA n) (l ▸ rel n)
  exact HandSPX.exc_get I1.kIn J T.ga T.gt T.ex (PySem.W.findObj_own T.has.1 hno rfl ((hl n).trans (congrArg some hu))) (handed_of ru) ⟨v, H1, I1.tok _, ru, q⟩
/-! ### isinstance of such a value -/
def rIsO (K : PySem.W.Frag) : List V → Hp → VK → Prop := fun xs H Q => ∃ (a C d : Addr) (nw : String) (bm : List Value) (fs : List (Str × V)) (c : V) (cv : Value) (b : Bool), xs = [.ref a, c] ∧ H a = some (exo a C (some d)) ∧ H d = some (exd d fs) ∧ ErC K C nw bm ∧ ClsV c cv ∧
  PySem.W.kitOne K (.ref C) cv = some b ∧ Q (.bl b) H
theorem call_isO (hn : PySem.W.specialIn X.K (.builtin "object.__class__") "__get__" = some (some (.builtin "getset_descriptor.__get__"))) (ht : PySem.W.takesIn X.K (.builtin "object.__class__") = some true) : CallR X (.builtin "isinstance") (rIsO X.K) := by
  intro pins s σ H xs us Q I r h
  obtain ⟨a, C, d, nw, bm, fs, c, cv, b, rfl, ea, ed, T, hc, e, q⟩ := h
  obtain ⟨u1, u2, rfl, r1, r2⟩ := vals2 r
  have e2 := hc.eq r2
  subst e2
  cases (show u1 = Value.ref a from r1)
  obtain ⟨ox, od, mA, J, _, _⟩ := inst_exo I ea ed
  exact PySem.W.kia_one (PySem.W.kitx_exc T.has.2 T.ga T.gt T.ex T.cl hn ht T.ob) I.kIn J e (fun z => nomatch z) fun tk => ⟨.bl b, H, I.tok tk, rfl, q⟩
end
/-! ### an own error made -/
/-- what __init__ leaves: the object at a with its dict at d -/
def Made (H H' : Hp) (a C d : Addr) (fs : List (Str × V)) : Prop := H d = none ∧ d ≠ a ∧ H' a = some (exo a C (some d)) ∧ H' d = some (exd d fs) ∧ ∀ b o, b ≠ a → H b = some o → H' b = some o
def spIni (C : Addr) (n : Nat) (fs : List V → List (Str × V)) : Sp := fun vs H Q _ => ∃ (a : Addr) (ws : List V), vs = .ref a :: ws ∧ ws.length = n ∧ H a = some (exo a C none) ∧ ∀ d H', Made H H' a C d (fs ws) → Q .non H'
abbrev NFI (st : Stmt) (qual : Str) (cc c : Addr) : NF := ⟨"__init__", qual, defArgs st, defBody st, defScope st, [(("__class__" : Str), cc)], c⟩
theorem made1 {H : Hp} {a C d : Addr} {f : Str} {y : V} (ha : H a = some (exo a C none)) (hd : H d = none) (ne : d ≠ a) : Made H (upd (upd H d (exd d [(f, y)])) a (exo a C (some d))) a C d [(f, y)] :=
  ⟨hd, ne, upd_same, (upd_ne ne).trans upd_same, fun b o hb e => (upd_ne hb).trans ((upd_ne (ne_of_none e hd)).trans e)⟩
theorem made2 {H H' : Hp} {a C d : Addr} {f : Str} {y : V} {fs : List (Str × V)} (m : Made H H' a C d fs) : Made H (upd H' d (exd d ((f, y) :: fs))) a C d ((f, y) :: fs) :=
  ⟨m.1, m.2.1, (upd_ne m.2.1.symm).trans m.2.2.1, upd_same, fun b o hb e => (upd_ne (ne_of_none e m.1)).trans (m.2.2.2.2 b o hb e)⟩
/-- the value x is an error of the class at C with the fields fs -/
def IsE (H : Hp) (C : Addr) (fs : List (Str × V)) (x : V) : Prop := ∃ a d : Addr, x = .ref a ∧ H a = some (exo a C (some d)) ∧ H d = some (exd d fs)
theorem IsE.same {H H' : Hp} {C : Addr} {fs : List (Str × V)} {x : V} (h : IsE H C fs x) (s : Same H H') : IsE H' C fs x := by
  obtain ⟨a, d, rfl, ea, ed⟩ := h
  exact ⟨a, d, rfl, s _ _ ea, s _ _ ed⟩
theorem mkv_use {H1 : Hp} {Q : VK} {C : Addr} {n : Nat} {fs : List V → List (Str × V)} {vs : List V} (hn : vs.length = n) (h0 : n ≤ 1000) (h : ∀ x H', Same H1 H' → IsE H' C (fs vs) x → Q x H') :
    vs.length ≤ 1000 ∧ ∀ a, H1 a = none → spIni C n fs (.ref a :: (vs ++ [])) (upd H1 a (exo a C none)) (fun v H2 => v = .non ∧ Q (.ref a) H2) (fun _ _ _ => False) := by
  refine ⟨by omega, fun a ha => ?_⟩
  rw [List.append_nil]
  refine ⟨a, vs, rfl, hn, upd_same, fun d H2 m => ⟨rfl, h _ _ (fun b o e => ?_) ⟨a, d, rfl, m.2.2.1, m.2.2.2.1⟩⟩⟩
  exact m.2.2.2.2 b o (ne_of_none e ha) ((upd_ne (ne_of_none e ha)).trans e)
/-- the class nm, an own error over B: its mro behind itself is pre and then bmB -/
structure Er (P : Program) (K : PySem.W.Frag) (mg : Str → Option Value) (B newId initId : String) (bmB pre : List Value) (st : Stmt) (nm qual : Str) where
  C : Addr
  f : Addr
  cc : Addr
  c : Addr
  ar : Arg
  doc : Value
  pm : Value
  ctv : Value
  T : IniM P K mg B newId initId bmB f C (NFI st qual cc c) ar doc pm ctv
  iC : PySem.W.findIn K (.ref C) "__init__" = some (some (.ref f))
  tI : PySem.W.typeIn K (.ref f) = some (.type "function")
  g : mg nm = some (.ref C)
  har : ar.arg = "self"
  lk : ∃ q N bs sn sub ab col dd k0 k1 k2 k3 k5, K.lookup C = some (excClassObj nm q C N bs (pre ++ bmB) true sn sub ab col dd k0 k1 k2 k3 k5 newId)
section
variable {base : Heap} {K : PySem.W.Frag} {mg : Str → Option Value} {P : Program} {w : World} {B newId initId : String} {bmB pre : List Value} {st : Stmt} {nm qual : Str}
theorem ok_ini1 {fl pn wd m : Str} {p0 p1 p2 p3 p4 p5 q0 q1 q2 q3 r0 r1 r2 r3 : Pos} {n1 n2 : Nat} {pl : Addr → Sem Bool} (EB : ErB B newId initId bmB) (T : Er P K mg B newId initId bmB pre st nm qual) (S : NScope ["self", pn, "__class__"] ["self", pn] ["__class__"] (defScope st))
    (hbd : defBody st = [.Expr (.Call (.Attribute (.Call (.Name "super" p0) [] [] p1) "__init__" p2) [.Constant (.str m) n1 p3] [] p4) p5, .Assign [.Attribute (.Name "self" q0) "word" q1] (.Constant (.str wd) n2 q2) q3, .Assign [.Attribute (.Name "self" r0) fl r1] (.Name pn r2) r3])
    (e1 : PySem.W.findIn K (.ref T.C) "word" = some none) (e2 : PySem.W.findIn K (.ref T.C) fl = some none) (hn1 : (pn == ("__debug__" : Str)) = false := by decide) (hn2 : (pn == ("__classdict__" : Str)) = false := by decide)
    (he : ∀ L, eval (.Call (.Attribute (.Call (.Name "super" p0) [] [] p1) "__init__" p2) [.Constant (.str m) n1 p3] [] p4) (envF (NFI st qual T.cc T.c) T.f L) = (do
      let ov ← attributeBase (.Call (.Name "super" p0) [] [] p1) "__init__" (envF (NFI st qual T.cc T.c) T.f L) (eval (.Call (.Name "super" p0) [] [] p1) (envF (NFI st qual T.cc T.c) T.f L))
      standAt p2.atName
      let (g, first) ← holding [ov] (getMethod ov "__init__" (pl L))
      callWith p4 g first (backTo p4 (starEach [.Constant (.str m) n1 p3] (envF (NFI st qual T.cc T.c) T.f L))) []) := by intro _; rfl)
    (hint : ∀ L, interactive (envF (NFI st qual T.cc T.c) T.f L) = false := by intro _; rfl)
    (hsw : ∀ L, swapsWith (.Call (.Attribute (.Call (.Name "super" p0) [] [] p1) "__init__" p2) [.Constant (.str m) n1 p3] [] p4) none p5.line (envF (NFI st qual T.cc T.c) T.f L) = pure false := by intro _; rfl)
    (hs1 : ∀ L, swapsWith (.Constant (.str wd) n2 q2) (some (.Attribute (.Name "self" q0) "word" q1)) q3.line (envF (NFI st qual T.cc T.c) T.f L) = pure false := by intro _; rfl)
    (hs2 : ∀ L, swapsWith (.Name pn r2) (some (.Attribute (.Name "self" r0) fl r1)) r3.line (envF (NFI st qual T.cc T.c) T.f L) = pure false := by intro _; rfl) :
    FnOk P w K mg base CX0 1 T.f ((NFI st qual T.cc T.c).fd T.doc T.pm T.ctv) ["self", pn] (spIni T.C 1 fun ws => [(fl, ws.getD 0 .non), ("word", .str wd)]) := by
  refine init_fn (i := 0) (j := 2) (N := ["self", pn, "__class__"]) EB T.T S (fun vs H Q E h => ?_) (by rw [T.har]; rfl) rfl hbd (fun vs H Q E h => ?_) (fun A outer s H vs Q E hr h => ?_) he hint hsw
  · obtain ⟨a, ws, rfl, hn, _⟩ := h
    show ws.length + 1 = 2
    omega
  · obtain ⟨a, ws, rfl, hn, ha, _⟩ := h
    match ws, hn with
    | [v], _ => exact ⟨a, rfl, rfl, ha⟩
  · obtain ⟨a, ws, rfl, hn, ha, q⟩ := h
    match ws, hn, q with
    | [v], _, q =>
      refine ⟨_, pss_cons (ps_gst EB (pe_var (i := 0) rfl (Or.inl (S.par _ (by simp)))) pe_str (hs1 _)) (pss_one (ps_gst EB (pe_var (i := 0) rfl (Or.inl (S.par _ (by simp)))) (pe_var (i := 1) rfl (Or.inl (S.par _ (by simp))) hn1 hn2) (hs2 _))), ?_⟩
      refine ⟨_, rfl, a, T.C, rfl, T.T.ox, e1, .inl ⟨ha, fun d hd ne => ?_⟩⟩
      have m1 := made1 (f := "word") (y := .str wd) ha hd ne
      exact ⟨_, rfl, _, rfl, a, T.C, rfl, T.T.ox, e2, .inr ⟨d, _, m1.2.2.1, m1.2.2.2.1, by simp, q d _ (made2 m1)⟩⟩
theorem ok_ini0 {wd m : Str} {p0 p1 p2 p3 p4 p5 q0 q1 q2 q3 : Pos} {n1 n2 : Nat} {pl : Addr → Sem Bool} (EB : ErB B newId initId bmB) (T : Er P K mg B newId initId bmB pre st nm qual) (S : NScope ["self", "__class__"] ["self"] ["__class__"] (defScope st))
    (hbd : defBody st = [.Expr (.Call (.Attribute (.Call (.Name "super" p0) [] [] p1) "__init__" p2) [.Constant (.str m) n1 p3] [] p4) p5, .Assign [.Attribute (.Name "self" q0) "word" q1] (.Constant (.str wd) n2 q2) q3])
    (e1 : PySem.W.findIn K (.ref T.C) "word" = some none)
    (he : ∀ L, eval (.Call (.Attribute (.Call (.Name "super" p0) [] [] p1) "__init__" p2) [.Constant (.str m) n1 p3] [] p4) (envF (NFI st qual T.cc T.c) T.f L) = (do
      let ov ← attributeBase (.Call (.Name "super" p0) [] [] p1) "__init__" (envF (NFI st qual T.cc T.c) T.f L) (eval (.Call (.Name "super" p0) [] [] p1) (envF (NFI st qual T.cc T.c) T.f L))
      standAt p2.atName
      let (g, first) ← holding [ov] (getMethod ov "__init__" (pl L))
      callWith p4 g first (backTo p4 (starEach [.Constant (.str m) n1 p3] (envF (NFI st qual T.cc T.c) T.f L))) []) := by intro _; rfl)
    (hint : ∀ L, interactive (envF (NFI st qual T.cc T.c) T.f L) = false := by intro _; rfl)
    (hsw : ∀ L, swapsWith (.Call (.Attribute (.Call (.Name "super" p0) [] [] p1) "__init__" p2) [.Constant (.str m) n1 p3] [] p4) none p5.line (envF (NFI st qual T.cc T.c) T.f L) = pure false := by intro _; rfl)
    (hs1 : ∀ L, swapsWith (.Constant (.str wd) n2 q2) (some (.Attribute (.Name "self" q0) "word" q1)) q3.line (envF (NFI st qual T.cc T.c) T.f L) = pure false := by intro _; rfl) :
    FnOk P w K mg base CX0 1 T.f ((NFI st qual T.cc T.c).fd T.doc T.pm T.ctv) ["self"] (spIni T.C 0 fun _ => [("word", .str wd)]) := by
  refine init_fn (i := 0) (j := 1) (N := ["self", "__class__"]) EB T.T S (fun vs H Q E h => ?_) (by rw [T.har]; rfl) rfl hbd (fun vs H Q E h => ?_) (fun A outer s H vs Q E hr h => ?_) he hint hsw
  · obtain ⟨a, ws, rfl, hn, _⟩ := h
    show ws.length + 1 = 1
    omega
  · obtain ⟨a, ws, rfl, hn, ha, _⟩ := h
    match ws, hn with
    | [], _ => exact ⟨a, rfl, rfl, ha⟩
  · obtain ⟨a, ws, rfl, hn, ha, q⟩ := h
    match ws, hn, q with
    | [], _, q =>
      refine ⟨_, pss_one (ps_gst EB (pe_var (i := 0) rfl (Or.inl (S.par _ (by simp)))) pe_str (hs1 _)), ?_⟩
      refine ⟨_, rfl, a, T.C, rfl, T.T.ox, e1, .inl ⟨ha, fun d hd ne => ?_⟩⟩
      exact q d _ (made1 (f := "word") (y := .str wd) ha hd ne)
/-! ### isinstance between own errors -/
theorem Er.cl (T : Er P K mg B newId initId bmB pre st nm qual) : ∃ cd : ClassData, PySem.W.clsIn K T.C = some cd ∧ cd.name = nm ∧ cd.mro = .ref T.C :: (pre ++ bmB) := by
  obtain ⟨q, N, bs, sn, sub, ab, col, dd, k0, k1, k2, k3, k5, h⟩ := T.lk
  exact ⟨{ name := nm, bases := bs, mro := .ref T.C :: (pre ++ bmB), ns := N, qualname := q, hasDict := true, slotNames := sn, subclasses := sub, abstract := ab, collection := col, hasDel := false }, by unfold PySem.W.clsIn; rw [h] <;> rfl, rfl, rfl⟩
theorem kit_ref {C D : Addr} {l : List Value} {cd cd' : ClassData} (hC : PySem.W.clsIn K C = some cd) (hm : cd.mro = .ref C :: l) (hD : PySem.W.clsIn K D = some cd') (hT : PySem.W.typeIn K (.ref D) = some (.type "type")) :
    PySem.W.kitOne K (.ref C) (.ref D) = some ((Value.ref C :: l).contains (.ref D)) := by
  unfold PySem.W.kitOne
  split
  · rename_i h
    rw [List.contains_cons, show (Value.ref D == Value.ref C) = true by rw [eq_of_beq h]; exact beq_self_eq_true _]
    rfl
  · unfold PySem.W.kitCls
    dsimp only
    rw [hD, hT, if_pos (show ((some cd').isSome && some (Value.type "type") == some (Value.type "type")) = true from show (true && some (Value.type "type") == some (Value.type "type")) = true by decide +kernel)]
    show PySem.W.mroIn K C (.ref D) = _
    unfold PySem.W.mroIn
    rw [hC, Option.bind_some, hm]
    rfl
theorem kit_typ {C : Addr} {T : String} {l : List Value} {cd : ClassData} (hC : PySem.W.clsIn K C = some cd) (hm : cd.mro = .ref C :: l) (hT : PySem.W.kitMeta T = true) :
    PySem.W.kitOne K (.ref C) (.type T) = some ((Value.ref C :: l).contains (.type T)) := by
  unfold PySem.W.kitOne
  rw [if_neg (by intro h; cases eq_of_beq h)]
  unfold PySem.W.kitCls
  dsimp only
  rw [if_pos hT]
  show PySem.W.mroIn K C (.type T) = _
  unfold PySem.W.mroIn
  rw [hC, Option.bind_some, hm]
  rfl
theorem cls_ne {C D : Addr} {c d : ClassData} (hC : PySem.W.clsIn K C = some c) (hD : PySem.W.clsIn K D = some d) (hn : c.name ≠ d.name) : C ≠ D := by
  intro e
  subst e
  rw [hC] at hD
  cases hD
  exact hn rfl
end
section
variable {P : Program} {K : PySem.W.Frag} {h : Heap} {mg : Str → Option Value} {B newId initId : String} {bmB pre : List Value} {st : Stmt} {nm qual : Str}
theorem mro_at {C : Addr} {q : Str} {N : Addr} {bs : List Value} {sn : List Str} {sub : List Value} {ab : Bool} {col : Option Bool} {dd : Option Addr} {k0 k1 k2 k3 k5 : Option Value} (lC : K.lookup C = some (excClassObj nm q C N bs (pre ++ bmB) true sn sub ab col dd k0 k1 k2 k3 k5 newId)) (v : Value) :
    PySem.W.mroIn K C v = some ((Value.ref C :: (pre ++ bmB)).contains v) := by
  have hcl : PySem.W.clsIn K C = some { name := nm, bases := bs, mro := .ref C :: (pre ++ bmB), ns := N, qualname := q, hasDict := true, slotNames := sn, subclasses := sub, abstract := ab, collection := col, hasDel := false } := by unfold PySem.W.clsIn; rw [lC] <;> rfl
  unfold PySem.W.mroIn
  rw [hcl, Option.bind_some]
  rfl
theorem mro_ty {C : Addr} {X : String} (ht : PySem.W.excTail bmB (pre ++ bmB) = true) (hx : bmB.contains (.type X) = true) : (Value.ref C :: (pre ++ bmB)).contains (.type X) = true := by
  rw [List.contains_cons, PySem.W.excTail_contains X _ ht, hx, Bool.or_true]
theorem ov_at {C : Addr} {q : Str} {N : Addr} {bs : List Value} {sn : List Str} {sub : List Value} {ab : Bool} {col : Option Bool} {dd : Option Addr} {k0 k1 k2 k3 k5 : Option Value} (lC : K.lookup C = some (excClassObj nm q C N bs (pre ++ bmB) true sn sub ab col dd k0 k1 k2 k3 k5 newId)) (ht : PySem.W.excTail bmB (pre ++ bmB) = true) : PySem.W.excOver K C bmB = true := by
  have hcl : PySem.W.clsIn K C = some { name := nm, bases := bs, mro := .ref C :: (pre ++ bmB), ns := N, qualname := q, hasDict := true, slotNames := sn, subclasses := sub, abstract := ab, collection := col, hasDel := false } := by unfold PySem.W.clsIn; rw [lC] <;> rfl
  unfold PySem.W.excOver
  rw [hcl]
  show (C == C && PySem.W.excTail bmB (pre ++ bmB)) = true
  rw [beq_self_eq_true, ht]
  rfl
@[reducible] def er_mk (X : K.In h) (G : h.Ns mainGlobals mg) {C f c cc : Addr} {od cld cdd : Option Addr} {sl csl ccs : Array (Option Value)} {doc pm ctv clc ccl : Value} {vs : Array Value} {file : Str} {tf : Tok} {ar : Arg}
    {q : Str} {N : Addr} {bs : List Value} {sn : List Str} {sub : List Value} {ab : Bool} {col : Option Bool} {dd : Option Addr} {k0 k1 k2 k3 k5 : Option Value}
    (op : PySem.W.nsIn K cStatics "thirdparty.any" = some none) (no : PySem.W.nsIn K mainGlobals "super" = some none)
    (h1 : bmB.contains (.type "BaseException") = true) (h2 : bmB.contains (.type B) = true) (h3 : bmB.contains (.type "object") = true)
    (ht : PySem.W.excTail bmB (pre ++ bmB) = true)
    (hh : ((defArgs st).posonlyargs ++ (defArgs st).args).head? = some ar) (har : ar.arg = "self")
    (ks : (defScope st).names.lookup ("super" : Str) = some .globalImplicit) (kc : (defScope st).names.lookup ("__class__" : Str) = some .free) (ka : (defScope st).names.lookup ar.arg = some .local)
    (top : (P.main.scope.names.lookup ("super" : Str)).isSome = false)
    (aC : PySem.W.nsIn K mainGlobals nm = some (some (.ref C)))
    (lC : K.lookup C = some (excClassObj nm q C N bs (pre ++ bmB) true sn sub ab col dd k0 k1 k2 k3 k5 newId))
    (aI : PySem.W.findIn K (.ref C) "__init__" = some (some (.ref f)))
    (lI : K.lookup f = some ⟨.type "function", od, .func (PySem.W.fnX "__init__" qual (defArgs st) (defBody st) (defScope st) [(("__class__" : Str), cc)] .none .none doc pm none (.ref c) ctv), sl⟩)
    (cI : PySem.W.codeIn K (.ref c) qual = true)
    (lc : K.lookup cc = some ⟨clc, cld, .cell (some (.ref C)), csl⟩)
    (lco : K.lookup c = some ⟨ccl, cdd, .fields vs, ccs⟩)
    (sa : PySem.W.findIn K (.ref C) "__setattr__" = some (some (.builtin "object.__setattr__")))
    (ga : PySem.W.findIn K (.ref C) "__getattribute__" = some (some (.builtin "BaseException.__getattribute__")))
    (gt : PySem.W.findIn K (.ref C) "__getattr__" = some none)
    (kp : PySem.W.keepIn K (.ref C) = true)
    (cl : PySem.W.findIn K (.ref C) "__class__" = some (some (.builtin "object.__class__")))
    (su : PySem.W.ks_superIn K C C "__init__" = some (some (.builtin initId)))
    (hvs : vs[2]? = some (.str file tf)) (hfile : ((P.main.file : Str) == file) = true) : Er P K mg B newId initId bmB pre st nm qual where
  C := C
  f := f
  cc := cc
  c := c
  ar := ar
  doc := doc
  pm := pm
  ctv := ctv
  T := {
    lk := ⟨od, sl, lI⟩
    cd := cI
    cl := ⟨cc, _, rfl, lc, rfl⟩
    hd := hh
    fl := ⟨_, vs, file, tf, lco, rfl, hvs, hfile⟩
    ks := ks
    kc := kc
    ka := ka
    top := top
    no := PySem.W.mg_none_of X G no
    op := op
    ox := {
      cls := ⟨nm, q, N, bs, pre ++ bmB, sn, sub, ab, col, dd, k0, k1, k2, k3, k5, lC, ht⟩
      ov := ov_at lC ht
      sa := sa
      ga := ga
      gt := gt
      ex := (mro_at lC _).trans (congrArg some (mro_ty ht h1))
      ty := congrArg (Option.map fun o : Obj => o.cls) lC
      kp := kp
      cl := cl
      ob := (mro_at lC _).trans (congrArg some (mro_ty ht h3)) }
    su := su
    sb := (mro_at lC _).trans (congrArg some (mro_ty ht h2))
    mr := (mro_at lC _).trans (by rw [List.contains_cons, beq_self_eq_true, Bool.true_or]) }
  iC := aI
  tI := congrArg (Option.map fun o : Obj => o.cls) lI
  g := PySem.W.mg_of X G aC
  har := har
  lk := ⟨q, N, bs, sn, sub, ab, col, dd, k0, k1, k2, k3, k5, lC⟩
/-- an own error and the fields that its class lacks -/
structure ErW (P : Program) (K : PySem.W.Frag) (mg : Str → Option Value) (B newId initId : String) (bmB pre : List Value) (st : Stmt) (nm qual : Str) (fl : List Str) where
  e : Er P K mg B newId initId bmB pre st nm qual
  no : ∀ x ∈ fl, PySem.W.findIn K (.ref e.C) x = some none
def erw1 (X : K.In h) (G : h.Ns mainGlobals mg) {C f c cc : Addr} {od cld cdd : Option Addr} {sl csl ccs : Array (Option Value)} {doc pm ctv clc ccl : Value} {vs : Array Value} {file : Str} {tf : Tok} {ar : Arg}
    {q : Str} {N : Addr} {bs : List Value} {sn : List Str} {sub : List Value} {ab : Bool} {col : Option Bool} {dd : Option Addr} {k0 k1 k2 k3 k5 : Option Value}
    (op : PySem.W.nsIn K cStatics "thirdparty.any" = some none) (no : PySem.W.nsIn K mainGlobals "super" = some none)
    (h1 : bmB.contains (.type "BaseException") = true) (h2 : bmB.contains (.type B) = true) (h3 : bmB.contains (.type "object") = true)
    (ht : PySem.W.excTail bmB (pre ++ bmB) = true)
    (hh : ((defArgs st).posonlyargs ++ (defArgs st).args).head? = some ar) (har : ar.arg = "self")
    (ks : (defScope st).names.lookup ("super" : Str) = some .globalImplicit) (kc : (defScope st).names.lookup ("__class__" : Str) = some .free) (ka : (defScope st).names.lookup ar.arg = some .local)
    (top : (P.main.scope.names.lookup ("super" : Str)).isSome = false)
    (aC : PySem.W.nsIn K mainGlobals nm = some (some (.ref C)))
    (lC : K.lookup C = some (excClassObj nm q C N bs (pre ++ bmB) true sn sub ab col dd k0 k1 k2 k3 k5 newId))
    (aI : PySem.W.findIn K (.ref C) "__init__" = some (some (.ref f)))
    (lI : K.lookup f = some ⟨.type "function", od, .func (PySem.W.fnX "__init__" qual (defArgs st) (defBody st) (defScope st) [(("__class__" : Str), cc)] .none .none doc pm none (.ref c) ctv), sl⟩)
    (cI : PySem.W.codeIn K (.ref c) qual = true)
    (lc : K.lookup cc = some ⟨clc, cld, .cell (some (.ref C)), csl⟩)
    (lco : K.lookup c = some ⟨ccl, cdd, .fields vs, ccs⟩)
    (sa : PySem.W.findIn K (.ref C) "__setattr__" = some (some (.builtin "object.__setattr__")))
    (ga : PySem.W.findIn K (.ref C) "__getattribute__" = some (some (.builtin "BaseException.__getattribute__")))
    (gt : PySem.W.findIn K (.ref C) "__getattr__" = some none)
    (kp : PySem.W.keepIn K (.ref C) = true)
    (cl : PySem.W.findIn K (.ref C) "__class__" = some (some (.builtin "object.__class__")))
    (su : PySem.W.ks_superIn K C C "__init__" = some (some (.builtin initId)))
    (hvs : vs[2]? = some (.str file tf)) (hfile : ((P.main.file : Str) == file) = true) {f1 : Str} (x1 : PySem.W.findIn K (.ref C) f1 = some none) : ErW P K mg B newId initId bmB pre st nm qual [f1] :=
  ⟨er_mk (C := C) X G op no h1 h2 h3 ht hh har ks kc ka top aC lC aI lI cI lc lco sa ga gt kp cl su hvs hfile, fun x hx => by
    rcases List.mem_cons.mp hx with rfl | e
    · exact x1
    · cases e⟩
def erw2 (X : K.In h) (G : h.Ns mainGlobals mg) {C f c cc : Addr} {od cld cdd : Option Addr} {sl csl ccs : Array (Option Value)} {doc pm ctv clc ccl : Value} {vs : Array Value} {file : Str} {tf : Tok} {ar : Arg}
    {q : Str} {N : Addr} {bs : List Value} {sn : List Str} {sub : List Value} {ab : Bool} {col : Option Bool} {dd : Option Addr} {k0 k1 k2 k3 k5 : Option Value}
    (op : PySem.W.nsIn K cStatics "thirdparty.any" = some none) (no : PySem.W.nsIn K mainGlobals "super" = some none)
    (h1 : bmB.contains (.type "BaseException") = true) (h2 : bmB.contains (.type B) = true) (h3 : bmB.contains (.type "object") = true)
    (ht : PySem.W.excTail bmB (pre ++ bmB) = true)
    (hh : ((defArgs st).posonlyargs ++ (defArgs st).args).head? = some ar) (har : ar.arg = "self")
    (ks : (defScope st).names.lookup ("super" : Str) = some .globalImplicit) (kc : (defScope st).names.lookup ("__class__" : Str) = some .free) (ka : (defScope st).names.lookup ar.arg = some .local)
    (top : (P.main.scope.names.lookup ("super" : Str)).isSome = false)
    (aC : PySem.W.nsIn K mainGlobals nm = some (some (.ref C)))
    (lC : K.lookup C = some (excClassObj nm q C N bs (pre ++ bmB) true sn sub ab col dd k0 k1 k2 k3 k5 newId))
    (aI : PySem.W.findIn K (.ref C) "__init__" = some (some (.ref f)))
    (lI : K.lookup f = some ⟨.type "function", od, .func (PySem.W.fnX "__init__" qual (defArgs st) (defBody st) (defScope st) [(("__class__" : Str), cc)] .none .none doc pm none (.ref c) ctv), sl⟩)
    (cI : PySem.W.codeIn K (.ref c) qual = true)
    (lc : K.lookup cc = some ⟨clc, cld, .cell (some (.ref C)), csl⟩)
    (lco : K.lookup c = some ⟨ccl, cdd, .fields vs, ccs⟩)
    (sa : PySem.W.findIn K (.ref C) "__setattr__" = some (some (.builtin "object.__setattr__")))
    (ga : PySem.W.findIn K (.ref C) "__getattribute__" = some (some (.builtin "BaseException.__getattribute__")))
    (gt : PySem.W.findIn K (.ref C) "__getattr__" = some none)
    (kp : PySem.W.keepIn K (.ref C) = true)
    (cl : PySem.W.findIn K (.ref C) "__class__" = some (some (.builtin "object.__class__")))
    (su : PySem.W.ks_superIn K C C "__init__" = some (some (.builtin initId)))
    (hvs : vs[2]? = some (.str file tf)) (hfile : ((P.main.file : Str) == file) = true) {f1 f2 : Str} (x1 : PySem.W.findIn K (.ref C) f1 = some none) (x2 : PySem.W.findIn K (.ref C) f2 = some none) : ErW P K mg B newId initId bmB pre st nm qual [f1, f2] :=
  ⟨er_mk (C := C) X G op no h1 h2 h3 ht hh har ks kc ka top aC lC aI lI cI lc lco sa ga gt kp cl su hvs hfile, fun x hx => by
    rcases List.mem_cons.mp hx with rfl | e
    · exact x1
    · rcases List.mem_cons.mp e with rfl | e
      · exact x2
      · cases e⟩
end
/-! ### raise of an own error -/
section
variable {P : Program} {K : PySem.W.Frag} {mg : Str → Option Value} {G : Addr} {st : Stmt} {nm qual : Str}
theorem oex_of (T : Er P K mg "ValueError" "ValueError.__new__" "ValueError.__init__" [.type "ValueError", .type "Exception", .type "BaseException", .type "object"] [.ref G] st nm qual) : OexC K T.C := by
  obtain ⟨q, N, bs, sn, sub, ab, col, dd, k0, k1, k2, k3, k5, lk⟩ := T.lk
  exact ⟨⟨nm, q, N, bs, _, sn, sub, ab, col, dd, k0, k1, k2, k3, k5, lk, rfl⟩, T.T.ox.sa, T.T.ox.ex, T.T.ox.ty, T.T.ox.kp⟩
theorem xfc_of {B newId initId : String} {bmB pre : List Value} (T : Er P K mg B newId initId bmB pre st nm qual) : XfC K T.C := ⟨T.T.ox.ga, T.T.ox.gt, T.T.ox.ex, T.T.ox.has.1⟩
/-- what the making of an error asks, ahead of its raise -/
theorem mk_use {H1 : Hp} {C : Addr} {n : Nat} {fF : List V → List (Str × V)} {vs : List V} {R : Value → Option Addr → Hp → Prop} (hn : vs.length = n) (h0 : n ≤ 1000) (k : ∀ d Hf, H1 d = none → Same H1 Hf → Hf d = some (.xd (fF vs)) → R (.ref C) (some d) Hf) :
    vs.length ≤ 1000 ∧ ∀ a, H1 a = none → spIni C n fF (.ref a :: (vs ++ [])) (upd H1 a (exo a C none)) (fun v H2 => v = .non ∧ ∃ (d : Addr) (fs : List (Str × V)), H2 a = some (exo a C (some d)) ∧ H2 d = some (exd d fs) ∧ H1 d = none ∧ R (.ref C) (some d) (upd (del H2 a) d (.xd fs))) (fun _ _ _ => False) := by
  refine ⟨by omega, fun a na => ?_⟩
  rw [List.append_nil]
  refine ⟨a, vs, rfl, hn, upd_same, fun d H2 M => ?_⟩
  obtain ⟨m1, m2, m3, m4, m5⟩ := M
  have hd : H1 d = none := by
    rw [upd_ne m2] at m1
    exact m1
  refine ⟨rfl, d, _, m3, m4, hd, k d _ hd (fun b o z => ?_) upd_same⟩
  have hb : b ≠ a := ne_of_none z na
  rw [upd_ne (ne_of_none z hd), del_ne hb]
  exact m5 b o hb ((upd_ne hb).trans z)
end
/-! ### raise of an own error that takes no arguments
By the statements of call_own, FnOk.run and mk_end; the first two are met in the order in which the model makes an object, as in every rule of this kind. -/
section
variable {X : Cx} {pins : List (Addr × Obj)} {σ : L2.St} {H : Hp} {s : Shared} {C : Addr}
/-- an error just made, with nothing in it -/
def bare (C : Addr) (h : Heap) : Heap := (h.push (PySem.W.kdv_tup [])).push (PySem.HandSPX.excO C h.objs.size)
theorem bare_keeps {h : Heap} : ∀ b o, h.get? b = some o → (bare C h).get? b = some o := by
  intro b o z
  unfold bare
  apply Heap.get?_push_of_some
  apply Heap.get?_push_of_some
  exact z
theorem bare_at {h : Heap} : (bare C h).get? (h.objs.size + 1) = some (PySem.HandSPX.excO C h.objs.size) := by
  have z := Heap.get?_push_size (h.push (PySem.W.kdv_tup [])) (o := PySem.HandSPX.excO C h.objs.size) rfl
  rwa [Heap.size_push] at z
theorem bare_inv (I : Inv X pins σ H s) : Inv X pins σ (upd H (s.heap.objs.size + 1) (exo (s.heap.objs.size + 1) C none)) { s with heap := bare C s.heap } := by
  have ok : ObjOk X.prog X.w (upd H (s.heap.objs.size + 1) (exo (s.heap.objs.size + 1) C none)) (bare C s.heap) (s.heap.objs.size + 1) (exo (s.heap.objs.size + 1) C none) := exo_ok bare_at
  exact I.laid (t' := s.toks) bare_keeps (Nat.le_succ _) ok
/-- what is told of the raise: a table of fields at a new place, the rest as before -/
def ToldE (C : Addr) (fs : List (Str × V)) : L2.St → Hp → XK → Prop := fun _ H Q => ∀ d G, H d = none → Same H G → G d = some (.xd fs) → Q (.ref C) (some d) G
theorem told_end {fs : List (Str × V)} {Q : XK} {a d : Addr} {G : Hp} (na : H a = none) (q : ToldE C fs σ H Q) (m : Made (upd H a (exo a C none)) G a C d fs) : H d = none ∧ Q (.ref C) (some d) (upd (del G a) d (.xd fs)) := by
  have free : H d = none := (upd_ne m.2.1).symm.trans m.1
  refine ⟨free, q d _ free ?_ upd_same⟩
  intro b o z
  have nb := ne_of_none z na
  calc (upd (del G a) d (.xd fs)) b = del G a b := upd_ne (ne_of_none z free)
    _ = G b := del_ne nb
    _ = some o := m.2.2.2.2 b o nb ((upd_ne nb).trans z)
theorem pmkE0 {B newId initId : String} {bmB : List Value} {CX : CXT} {x : Str} {fI : Addr} {k : Nat} {fd : FuncData} {ps : List Str} {fF : List V → List (Str × V)} {p pos : Pos} (E : ErB B newId initId bmB) (T : ErC X.K C newId bmB)
    (iC : PySem.W.findIn X.K (.ref C) "__init__" = some (some (.ref fI))) (tI : PySem.W.typeIn X.K (.ref fI) = some (.type "function")) (ini : FnOk X.prog X.w X.K X.mg X.base CX k fI fd ps (spIni C 0 fF)) (room : Room (k + 1) X.A)
    (binds : Binds X.K fd ps []) (none : Vals [] []) (never : Passes CX X (fun _ _ _ => False)) (gl : Gl X x) (named : X.mg x = some (.ref C)) (plain : (x == ("__debug__" : Str)) = false := by decide) : PMk X (.Call (.Name x p) [] [] pos) (ToldE C (fF [])) := by
  intro pins s σ H Q I q
  apply wpAny_Call_Name_kw
  refine ld_glob I gl named ?_ plain
  refine PySem.W.callWith_K0 I.kIn T.kp (wpAny_call ?_)
  have J := bare_inv (C := C) I
  have na : H (s.heap.objs.size + 1) = .none := I.hok.fresh (Nat.le_succ _)
  -- the initializer, at the bare error
  have asked : spIni C 0 fF [.ref (s.heap.objs.size + 1)] (upd H (s.heap.objs.size + 1) (exo (s.heap.objs.size + 1) C .none)) (fun v G => v = .non ∧ ∃ d, Made (upd H (s.heap.objs.size + 1) (exo (s.heap.objs.size + 1) C .none)) G (s.heap.objs.size + 1) C d (fF [])) (fun _ _ _ => False) := ⟨_, [], rfl, rfl, upd_same, fun d G m => ⟨rfl, d, m⟩⟩
  have one : Vals [V.ref (s.heap.objs.size + 1)] [Value.ref (s.heap.objs.size + 1)] := .cons rfl .nil
  have count : ([Value.ref (s.heap.objs.size + 1)] ++ []).length = ps.length := (ini.len _ _ _ _ asked)
  have ran := ini.run _ X.stack _ _ ⟨[.ref (s.heap.objs.size + 1)], []⟩ _ _ _ _ (room.make C [] []) (J.env0.make C [] []) (binds _ [.ref (s.heap.objs.size + 1)] J.kIn count) one asked
  obtain ⟨_, _, _, _, bm, _, _, _, _, _, _, _, _, _, _, hC, hbm⟩ := T.cls
  refine PySem.HandSPX.call_own (rest := []) E.fb (fun Y => PySem.W.excTail_contains Y bm hbm) (I.kIn _ _ hC) (PySem.W.looks_findIn I.kIn iC) (fun self => PySem.W.bind_fn I.kIn self tI) (Nat.zero_le _) (codeAny_mono ran ?_)
  intro r s' back
  cases r with
  | error er => exact never pins σ _ _ er s' J back
  | ok f =>
    cases f with
    | ret u =>
      obtain ⟨v, G, os', bare', un, hok, rv, rfl, d, m⟩ := back
      obtain ⟨free, q'⟩ := told_end na q m
      exact ⟨rv, mk_end (raises_own T.ex T.ty) I (Nat.le_succ _) bare_keeps un hok os' bare' m.2.2.1 m.2.2.2.1 free q'⟩
    | _ => exact back.elim
end
/-! ### forms -/
def fval (a b c x y : Int) : Int := a * x * x + 2 * b * x * y + c * y * y
def fmid (a b c x y z w : Int) : Int := a * x * z + b * (x * w + y * z) + c * y * w
def IsForm (a b c : Int) : Prop := 0 < a ∧ b * b < a * c
def IsRed (a b c : Int) : Prop := 0 ≤ 2 * b ∧ 2 * b ≤ a ∧ a ≤ c
def Uni (x y z w : Int) : Prop := x * w - y * z = 1 ∨ x * w - y * z = -1
/-- the second form is the first one at two pairs -/
def Led (a b c x y z w a' b' c' : Int) : Prop := a' = fval a b c x y ∧ b' = fmid a b c x y z w ∧ c' = fval a b c z w
def FEq (a b c a' b' c' : Int) : Prop := ∃ x y z w, Uni x y z w ∧ Led a b c x y z w a' b' c'
theorem qsq_nn (x : Int) : 0 ≤ x * x := by
  rcases Int.le_total 0 x with h | h
  · exact Int.mul_nonneg h h
  · exact Int.mul_nonneg_of_nonpos_of_nonpos h h
theorem qsq_le {x y : Int} (h0 : 0 ≤ x) (h : x ≤ y) : x * x ≤ y * y := Int.mul_le_mul h h h0 (Int.le_trans h0 h)
theorem qsq_lt {x y : Int} (h0 : 0 ≤ x) (h : x < y) : x * x < y * y := by
  have h1 : (x + 1) * (x + 1) ≤ y * y := qsq_le (by omega) (by omega)
  grind
theorem qsq_inj {x y : Int} (h0 : 0 ≤ x) (h1 : 0 ≤ y) (h : x * x = y * y) : x = y := by
  rcases Int.lt_trichotomy x y with z | z | z
  · have := qsq_lt h0 z
    omega
  · exact z
  · have := qsq_lt h1 z
    omega
theorem qabs_le {x m : Int} (h0 : 0 ≤ m) (h : x * x ≤ m * m) : x.natAbs ≤ m.natAbs := by
  rcases Nat.lt_or_ge m.natAbs x.natAbs with z | z
  · have h1 : (m.natAbs : Int) < (x.natAbs : Int) := by omega
    have h2 := qsq_lt (by omega) h1
    have h3 : (x.natAbs : Int) * (x.natAbs : Int) = x * x := Int.natAbs_mul_self' x
    have h4 : (m.natAbs : Int) * (m.natAbs : Int) = m * m := Int.natAbs_mul_self' m
    omega
  · exact z
theorem det_id (a b c x y z w : Int) : fval a b c x y * fval a b c z w - fmid a b c x y z w * fmid a b c x y z w = (a * c - b * b) * ((x * w - y * z) * (x * w - y * z)) := by
  unfold fval fmid; grind
theorem uni_sq {x y z w : Int} (h : Uni x y z w) : (x * w - y * z) * (x * w - y * z) = 1 := by
  rcases h with h | h <;> rw [h] <;> rfl
theorem form_c {a b c : Int} (h : IsForm a b c) : 0 < c := by
  have := qsq_nn b
  have h2 : 0 < a * c := by have := h.2; omega
  rw [Int.mul_comm] at h2
  exact Int.pos_of_mul_pos_left h2 h.1
theorem fval_pos {a b c x y : Int} (h : IsForm a b c) (n : x ≠ 0 ∨ y ≠ 0) : 0 < fval a b c x y := by
  have hc := form_c h
  have e : c * fval a b c x y = (c * y + b * x) * (c * y + b * x) + (a * c - b * b) * (x * x) := by unfold fval; grind
  have d0 : 0 < a * c - b * b := by have := h.2; omega
  have p1 := qsq_nn (c * y + b * x)
  have p2 : 0 ≤ (a * c - b * b) * (x * x) := Int.mul_nonneg (by omega) (qsq_nn x)
  have : 0 < c * fval a b c x y := by
    by_cases hx : x = 0
    · subst hx
      have hy : y ≠ 0 := by
        rcases n with n | n
        · exact absurd rfl n
        · exact n
      have : c * fval a b c 0 y = (c * y) * (c * y) := by unfold fval; grind
      rw [this]
      have hcy : c * y ≠ 0 := Int.mul_ne_zero (by omega) hy
      have := qsq_nn (c * y)
      have : (c * y) * (c * y) ≠ 0 := Int.mul_ne_zero hcy hcy
      omega
    · have hxx : x * x ≠ 0 := Int.mul_ne_zero hx hx
      have : 0 < x * x := by have := qsq_nn x; omega
      have := Int.mul_pos d0 this
      omega
  rw [Int.mul_comm] at this
  exact Int.pos_of_mul_pos_left this hc
theorem uni_ne1 {x y z w : Int} (h : Uni x y z w) : x ≠ 0 ∨ y ≠ 0 := by
  by_cases hx : x = 0
  · right
    intro hy
    subst hx hy
    rcases h with h | h <;> simp at h
  · exact .inl hx
theorem uni_ne2 {x y z w : Int} (h : Uni x y z w) : z ≠ 0 ∨ w ≠ 0 := by
  by_cases hx : z = 0
  · right
    intro hy
    subst hx hy
    rcases h with h | h <;> simp at h
  · exact .inl hx
theorem led_form {a b c x y z w a' b' c' : Int} (h : IsForm a b c) (u : Uni x y z w) (l : Led a b c x y z w a' b' c') : IsForm a' b' c' := by
  obtain ⟨rfl, rfl, rfl⟩ := l
  refine ⟨fval_pos h (uni_ne1 u), ?_⟩
  have := det_id a b c x y z w
  rw [uni_sq u] at this
  have := h.2
  omega
theorem led_disc {a b c x y z w a' b' c' : Int} (u : Uni x y z w) (l : Led a b c x y z w a' b' c') : a' * c' - b' * b' = a * c - b * b := by
  obtain ⟨rfl, rfl, rfl⟩ := l
  rw [det_id, uni_sq u, Int.mul_one]
theorem FEq.symm {a b c a' b' c' : Int} (h : FEq a b c a' b' c') : FEq a' b' c' a b c := by
  obtain ⟨x, y, z, w, u, l1, l2, l3⟩ := h
  subst l1 l2 l3
  rcases u with u | u
  · refine ⟨w, -y, -z, x, .inl (by grind), ?_, ?_, ?_⟩
    · unfold fval fmid; grind
    · unfold fval fmid; grind
    · unfold fval fmid; grind
  · refine ⟨-w, y, z, -x, .inr (by grind), ?_, ?_, ?_⟩
    · unfold fval fmid; grind
    · unfold fval fmid; grind
    · unfold fval fmid; grind
theorem FEq.trans {a b c a1 b1 c1 a2 b2 c2 : Int} (h : FEq a b c a1 b1 c1) (k : FEq a1 b1 c1 a2 b2 c2) : FEq a b c a2 b2 c2 := by
  obtain ⟨x, y, z, w, u, l1, l2, l3⟩ := h
  obtain ⟨p, q, r, s, v, m1, m2, m3⟩ := k
  subst l1 l2 l3 m1 m2 m3
  refine ⟨p * x + q * z, p * y + q * w, r * x + s * z, r * y + s * w, ?_, ?_, ?_, ?_⟩
  · have e : (p * x + q * z) * (r * y + s * w) - (p * y + q * w) * (r * x + s * z) = (p * s - q * r) * (x * w - y * z) := by grind
    unfold Uni
    rw [e]
    rcases u with u | u <;> rcases v with v | v <;> rw [u, v] <;> simp
  · unfold fval fmid; grind
  · unfold fval fmid; grind
  · unfold fval fmid; grind
/-- a reduced form at a pair with a second number -/
theorem red_low {a b c x y : Int} (h : IsRed a b c) (ha : 0 < a) (hy : y ≠ 0) : c ≤ fval a b c x y := by
  obtain ⟨b0, b1, ac⟩ := h
  have key : ∀ u v : Int, 0 ≤ u → 1 ≤ v → ∀ e : Int, (e = u * v ∨ e = -(u * v)) → c ≤ a * (u * u) + 2 * b * e + c * (v * v) := by
    intro u v hu hv e he
    have huv : 0 ≤ u * v := Int.mul_nonneg hu (by omega)
    have s1 : -(a * (u * v)) ≤ 2 * b * e := by
      rcases he with rfl | rfl
      · have := Int.mul_nonneg b0 huv
        have := Int.mul_nonneg (Int.le_of_lt ha) huv
        omega
      · have := Int.mul_le_mul_of_nonneg_right b1 huv
        rw [Int.mul_neg]
        omega
    have vv : 1 ≤ v * v := by have := qsq_le (show (0 : Int) ≤ 1 by omega) hv; omega
    have s2 : (c - a) * 1 ≤ (c - a) * (v * v) := Int.mul_le_mul_of_nonneg_left vv (by omega)
    have s3 : 1 ≤ u * u - u * v + v * v := by
      by_cases hu0 : u = 0
      · subst hu0
        simp
        omega
      · rcases Int.le_total u v with z | z
        · have : 0 ≤ v * (v - u) := Int.mul_nonneg (by omega) (by omega)
          have := qsq_le (show (0 : Int) ≤ 1 by omega) (show 1 ≤ u by omega)
          grind
        · have : 0 ≤ u * (u - v) := Int.mul_nonneg (by omega) (by omega)
          grind
    have s4 : a * 1 ≤ a * (u * u - u * v + v * v) := Int.mul_le_mul_of_nonneg_left s3 (by omega)
    grind
  have e1 : (x.natAbs : Int) * (x.natAbs : Int) = x * x := Int.natAbs_mul_self' x
  have e2 : (y.natAbs : Int) * (y.natAbs : Int) = y * y := Int.natAbs_mul_self' y
  have := key x.natAbs y.natAbs (by omega) (by omega) (x * y) (by
    rcases Int.natAbs_eq x with p | p <;> rcases Int.natAbs_eq y with q | q
    · left; rw [← p, ← q]
    · right
      have : (y.natAbs : Int) = -y := by omega
      rw [this, ← p]; grind
    · right
      have : (x.natAbs : Int) = -x := by omega
      rw [this, ← q]; grind
    · left
      have e1 : (y.natAbs : Int) = -y := by omega
      have e2 : (x.natAbs : Int) = -x := by omega
      rw [e1, e2]; grind)
  rw [e1, e2] at this
  unfold fval
  grind
theorem red_min {a b c x y : Int} (h : IsRed a b c) (ha : 0 < a) (n : x ≠ 0 ∨ y ≠ 0) : a ≤ fval a b c x y := by
  by_cases hy : y = 0
  · subst hy
    have hx : x ≠ 0 := by
      rcases n with n | n
      · exact n
      · exact absurd rfl n
    have h1 : x * x ≠ 0 := Int.mul_ne_zero hx hx
    have h2 : 1 ≤ x * x := by have := qsq_nn x; omega
    have := Int.mul_le_mul_of_nonneg_left h2 (Int.le_of_lt ha)
    unfold fval
    grind
  · have := red_low (x := x) h ha hy
    have := h.2.2
    omega
theorem red_dn {a b c a' b' c' : Int} (h : IsRed a b c) (ha : 0 < a) (h' : IsRed a' b' c') (e : FEq a b c a' b' c') : a ≤ a' ∧ c ≤ c' := by
  obtain ⟨x, y, z, w, u, l1, l2, l3⟩ := e
  refine ⟨by rw [l1]; exact red_min h ha (uni_ne1 u), ?_⟩
  by_cases hy : y = 0
  · have hw : w ≠ 0 := by
      intro hw
      subst hy hw
      rcases u with u | u <;> simp at u
    rw [l3]
    exact red_low h ha hw
  · have : c ≤ a' := by rw [l1]; exact red_low h ha hy
    have := h'.2.2
    omega
theorem red_one {a b c a' b' c' : Int} (h : IsRed a b c) (ha : 0 < a) (h' : IsRed a' b' c') (ha' : 0 < a') (e : FEq a b c a' b' c') : a = a' ∧ b = b' ∧ c = c' := by
  obtain ⟨p1, p2⟩ := red_dn h ha h' e
  obtain ⟨q1, q2⟩ := red_dn h' ha' h e.symm
  have e1 : a = a' := by omega
  have e2 : c = c' := by omega
  subst e1 e2
  obtain ⟨x, y, z, w, u, l⟩ := e
  have := led_disc u l
  refine ⟨rfl, qsq_inj (by have := h.1; omega) (by have := h'.1; omega) (by omega), rfl⟩
theorem form_min {a b c a' b' c' x y : Int} (e : FEq a b c a' b' c') (h : IsRed a' b' c') (ha : 0 < a') (n : x ≠ 0 ∨ y ≠ 0) : a' ≤ fval a b c x y := by
  obtain ⟨p, q, r, s, u, l1, l2, l3⟩ := e.symm
  have e1 : fval a b c x y = fval a' b' c' (x * p + y * r) (x * q + y * s) := by
    rw [l1, l2, l3]
    unfold fval fmid
    grind
  rw [e1]
  refine red_min h ha ?_
  by_cases h1 : x * p + y * r = 0
  · right
    intro h2
    have k1 : x * (p * s - q * r) = 0 := by
      have : x * (p * s - q * r) = (x * p + y * r) * s - (x * q + y * s) * r := by grind
      rw [this, h1, h2]
      simp
    have k2 : y * (p * s - q * r) = 0 := by
      have : y * (p * s - q * r) = (x * q + y * s) * p - (x * p + y * r) * q := by grind
      rw [this, h1, h2]
      simp
    rcases u with u | u <;> rw [u] at k1 k2 <;> omega
  · exact .inl h1
/-! one turn of the loop -/
theorem turn_b {a b : Int} (ha : 0 < a) : -a ≤ 2 * (b - (2 * b + a) / (2 * a) * a) ∧ 2 * (b - (2 * b + a) / (2 * a) * a) < a := by
  have h2 : 0 < 2 * a := by omega
  have e := Int.emod_add_mul_ediv (2 * b + a) (2 * a)
  have l := Int.emod_nonneg (2 * b + a) (show 2 * a ≠ 0 by omega)
  have u := Int.emod_lt_of_pos (2 * b + a) h2
  generalize (2 * b + a) / (2 * a) = m at e ⊢
  generalize (2 * b + a) % (2 * a) = r at e l u
  grind
theorem turn_c {a b c m : Int} (ha : 0 < a) (l : -a ≤ 2 * (b - m * a)) (u : 2 * (b - m * a) < a) : c - m * (2 * b - m * a) ≤ c := by
  have : 0 ≤ m * (2 * b - m * a) := by
    rcases Int.lt_trichotomy m 0 with z | z | z
    · have h1 : m * a ≤ (-1) * a := Int.mul_le_mul_of_nonneg_right (by omega) (by omega)
      exact Int.mul_nonneg_of_nonpos_of_nonpos (by omega) (by omega)
    · subst z
      simp
    · have h1 : 1 * a ≤ m * a := Int.mul_le_mul_of_nonneg_right (by omega) (by omega)
      exact Int.mul_nonneg (by omega) (by omega)
  omega
theorem turn_led {A B C x y z w a b c m : Int} (l : Led A B C x y z w a b c) : Led A B C x y (z + x * -m) (w + y * -m) a (b - m * a) (c - m * (2 * b - m * a)) := by
  obtain ⟨rfl, rfl, rfl⟩ := l
  refine ⟨rfl, ?_, ?_⟩ <;> (unfold fval fmid; grind)
theorem turn_uni {x y z w m : Int} (u : Uni x y z w) : Uni x y (z + x * -m) (w + y * -m) := by
  have : x * (w + y * -m) - y * (z + x * -m) = x * w - y * z := by grind
  unfold Uni
  rw [this]
  exact u
theorem swap_led {A B C x y z w a b c : Int} (l : Led A B C x y z w a b c) : Led A B C z w x y c b a := by
  obtain ⟨rfl, rfl, rfl⟩ := l
  refine ⟨rfl, ?_, rfl⟩
  unfold fmid
  grind
theorem swap_uni {x y z w : Int} (u : Uni x y z w) : Uni z w x y := by
  have : z * y - w * x = -(x * w - y * z) := by grind
  unfold Uni
  rw [this]
  rcases u with u | u <;> rw [u]
  · exact .inr rfl
  · exact .inl rfl
theorem neg_led {A B C x y z w a b c : Int} (l : Led A B C x y z w a b c) : Led A B C x y (z * -1) (w * -1) a (-b) c := by
  obtain ⟨rfl, rfl, rfl⟩ := l
  refine ⟨rfl, ?_, ?_⟩
  · unfold fmid; grind
  · unfold fval; grind
theorem neg_uni {x y z w : Int} (u : Uni x y z w) : Uni x y (z * -1) (w * -1) := by
  have : x * (w * -1) - y * (z * -1) = -(x * w - y * z) := by grind
  unfold Uni
  rw [this]
  rcases u with u | u <;> rw [u]
  · exact .inr rfl
  · exact .inl rfl
/-- the pairs stay small -/
theorem form_bd {a b c x y : Int} {n : Nat} (h : IsForm a b c) (ha : a.natAbs < 2 ^ n) (hc : c.natAbs < 2 ^ n) (hv : (fval a b c x y).natAbs < 2 ^ n) (v0 : 0 ≤ fval a b c x y) : x.natAbs < 2 ^ n ∧ y.natAbs < 2 ^ n := by
  have c0 := form_c h
  have d0 : 1 ≤ a * c - b * b := by have := h.2; omega
  have e1 : c * fval a b c x y = (c * y + b * x) * (c * y + b * x) + (a * c - b * b) * (x * x) := by unfold fval; grind
  have e2 : a * fval a b c x y = (a * x + b * y) * (a * x + b * y) + (a * c - b * b) * (y * y) := by unfold fval; grind
  have p1 := qsq_nn (c * y + b * x)
  have p2 := qsq_nn (a * x + b * y)
  have g1 : 1 * (x * x) ≤ (a * c - b * b) * (x * x) := Int.mul_le_mul_of_nonneg_right d0 (qsq_nn x)
  have g2 : 1 * (y * y) ≤ (a * c - b * b) * (y * y) := Int.mul_le_mul_of_nonneg_right d0 (qsq_nn y)
  generalize fval a b c x y = v at e1 e2 hv v0
  have M : ∀ k t : Int, 0 ≤ k → k.natAbs < 2 ^ n → t * t ≤ k * v → t.natAbs < 2 ^ n := by
    intro k t k0 k1 ht
    have h1 : k ≤ (max k v) := Int.le_max_left _ _
    have h2 : v ≤ (max k v) := Int.le_max_right _ _
    have h3 : k * v ≤ max k v * max k v := Int.mul_le_mul h1 h2 v0 (Int.le_trans k0 h1)
    have := qabs_le (show 0 ≤ max k v by omega) (Int.le_trans ht h3)
    refine Nat.lt_of_le_of_lt this ?_
    rcases Int.le_total k v with z | z
    · rw [Int.max_eq_right z]
      exact hv
    · rw [Int.max_eq_left z]
      exact k1
  exact ⟨M c x (by omega) hc (by omega), M a y (by have := h.1; omega) ha (by omega)⟩
def topS (i : Nat) : Stmt := PySem.Challenge.pw_grainyard_k47_reduced_forms.main.body.getD i (.Pass ⟨0, 0, 0, 0⟩)
abbrev s_added : Stmt := topS 6
theorem sc_added : FnScope ["pairs", "a", "b"] ["pairs"] (defScope s_added) := ⟨rfl, rfl, rfl, by decide +kernel, rfl, by decide +kernel, by decide +kernel⟩
abbrev s_scaled : Stmt := topS 7
theorem sc_scaled : FnScope ["pair", "number", "a", "b"] ["pair", "number"] (defScope s_scaled) := ⟨rfl, rfl, rfl, by decide +kernel, rfl, by decide +kernel, by decide +kernel⟩
abbrev s_reduced : Stmt := topS 9
theorem sc_reduced : FnScope ["form", "a", "b", "c", "one", "other", "many"] ["form"] (defScope s_reduced) := ⟨rfl, rfl, rfl, by decide +kernel, rfl, by decide +kernel, by decide +kernel⟩
abbrev s_source : Stmt := topS 11
theorem sc_source : FnScope ["_law_script", "_law_mix", "_law_cell"] ["_law_script"] (defScope s_source) := ⟨rfl, rfl, rfl, by decide +kernel, rfl, by decide +kernel, by decide +kernel⟩
abbrev s_pull : Stmt := topS 12
theorem sc_pull : FnScope ["_law_bag", "_law_size", "_law_mix", "_law_cell", "_law_found"] ["_law_bag", "_law_size"] (defScope s_pull) := ⟨rfl, rfl, rfl, by decide +kernel, rfl, by decide +kernel, by decide +kernel⟩
abbrev s_of : Stmt := topS 13
theorem sc_of : FnScope ["_law_bag", "_law_some"] ["_law_bag", "_law_some"] (defScope s_of) := ⟨rfl, rfl, rfl, by decide +kernel, rfl, by decide +kernel, by decide +kernel⟩
abbrev s_any_pair : Stmt := topS 14
theorem sc_any_pair : FnScope ["_law_bag", "_law_size"] ["_law_bag"] (defScope s_any_pair) := ⟨rfl, rfl, rfl, by decide +kernel, rfl, by decide +kernel, by decide +kernel⟩
abbrev s_a_form : Stmt := topS 15
theorem sc_a_form : FnScope ["_law_bag", "_law_x", "_law_y", "_law_size", "_law_more", "_law_a", "_law_b", "_law_c"] ["_law_bag"] (defScope s_a_form) := ⟨rfl, rfl, rfl, by decide +kernel, rfl, by decide +kernel, by decide +kernel⟩
abbrev s_edge : Stmt := topS 16
theorem sc_edge : FnScope ["_law_bag", "_law_a", "_law_more"] ["_law_bag"] (defScope s_edge) := ⟨rfl, rfl, rfl, by decide +kernel, rfl, by decide +kernel, by decide +kernel⟩
abbrev s_like : Stmt := topS 17
theorem sc_like : FnScope ["_law_found", "_law_due", "_law_k"] ["_law_found", "_law_due"] (defScope s_like) := ⟨rfl, rfl, rfl, by decide +kernel, rfl, by decide +kernel, by decide +kernel⟩
abbrev s_value_at : Stmt := topS 18
theorem sc_value_at : FnScope ["_law_form_z", "_law_pair", "_law_a", "_law_b", "_law_c"] ["_law_form_z", "_law_pair"] (defScope s_value_at) := ⟨rfl, rfl, rfl, by decide +kernel, rfl, by decide +kernel, by decide +kernel⟩
abbrev s_led : Stmt := topS 19
theorem sc_led : FnScope ["_law_form_z", "_law_x", "_law_y", "_law_middle", "_law_a", "_law_b", "_law_c"] ["_law_form_z", "_law_x", "_law_y"] (defScope s_led) := ⟨rfl, rfl, rfl, by decide +kernel, rfl, by decide +kernel, by decide +kernel⟩
abbrev s_is_pair : Stmt := topS 20
theorem sc_is_pair : FnScope ["_law_x"] ["_law_x"] (defScope s_is_pair) := ⟨rfl, rfl, rfl, by decide +kernel, rfl, by decide +kernel, by decide +kernel⟩
abbrev s_field_of : Stmt := topS 21
theorem sc_field_of : FnScope ["_law_e"] ["_law_e"] (defScope s_field_of) := ⟨rfl, rfl, rfl, by decide +kernel, rfl, by decide +kernel, by decide +kernel⟩
abbrev s_try : Stmt := topS 22
theorem sc_try : FnScope ["_law_ask", "_law_e"] ["_law_ask"] (defScope s_try) := ⟨rfl, rfl, rfl, by decide +kernel, rfl, by decide +kernel, by decide +kernel⟩
abbrev s_law : Stmt := topS 23
theorem sc_law : FnScope ["_law_script", "_law_bag", "_law_turn", "_law_form_z", "_law_found", "_law_far", "_law_bad", "_law_x", "_law_y", "_law_a", "_law_b", "_law_c"] ["_law_script"] (defScope s_law) := ⟨rfl, rfl, rfl, by decide +kernel, rfl, by decide +kernel, by decide +kernel⟩
abbrev i_BadForm : Stmt := inClass (topS 3) 0
theorem sc_iBadForm : NScope ["self", "__class__"] ["self"] ["__class__"] (defScope i_BadForm) := nscope_by (by decide +kernel)
abbrev i_NothingLeft : Stmt := inClass (topS 4) 0
theorem sc_iNothingLeft : NScope ["self", "__class__"] ["self"] ["__class__"] (defScope i_NothingLeft) := nscope_by (by decide +kernel)
structure Txt (K : PySem.W.Frag) (mg : Str → Option Value) where
  f_added : Addr
  d_added : FuncData
  F_added : Fun K "added" "added" s_added f_added d_added
  g_added : mg "added" = some (.ref f_added)
  f_scaled : Addr
  d_scaled : FuncData
  F_scaled : Fun K "scaled" "scaled" s_scaled f_scaled d_scaled
  g_scaled : mg "scaled" = some (.ref f_scaled)
  b_scaled : Binds K d_scaled ["pair", "number"] []
  f_reduced : Addr
  d_reduced : FuncData
  F_reduced : Fun K "reduced" "reduced" s_reduced f_reduced d_reduced
  g_reduced : mg "reduced" = some (.ref f_reduced)
  b_reduced : Binds K d_reduced ["form"] []
  f_source : Addr
  d_source : FuncData
  F_source : Fun K "_law_source" "_law_source" s_source f_source d_source
  g_source : mg "_law_source" = some (.ref f_source)
  b_source : Binds K d_source ["_law_script"] []
  f_pull : Addr
  d_pull : FuncData
  F_pull : Fun K "_law_pull" "_law_pull" s_pull f_pull d_pull
  g_pull : mg "_law_pull" = some (.ref f_pull)
  b_pull : Binds K d_pull ["_law_bag", "_law_size"] []
  f_of : Addr
  d_of : FuncData
  F_of : Fun K "_law_of" "_law_of" s_of f_of d_of
  g_of : mg "_law_of" = some (.ref f_of)
  b_of : Binds K d_of ["_law_bag", "_law_some"] []
  f_any_pair : Addr
  d_any_pair : FuncData
  F_any_pair : Fun K "_law_any_pair" "_law_any_pair" s_any_pair f_any_pair d_any_pair
  g_any_pair : mg "_law_any_pair" = some (.ref f_any_pair)
  b_any_pair : Binds K d_any_pair ["_law_bag"] []
  f_a_form : Addr
  d_a_form : FuncData
  F_a_form : Fun K "_law_a_form" "_law_a_form" s_a_form f_a_form d_a_form
  g_a_form : mg "_law_a_form" = some (.ref f_a_form)
  b_a_form : Binds K d_a_form ["_law_bag"] []
  f_edge : Addr
  d_edge : FuncData
  F_edge : Fun K "_law_edge" "_law_edge" s_edge f_edge d_edge
  g_edge : mg "_law_edge" = some (.ref f_edge)
  b_edge : Binds K d_edge ["_law_bag"] []
  f_like : Addr
  d_like : FuncData
  F_like : Fun K "_law_like" "_law_like" s_like f_like d_like
  g_like : mg "_law_like" = some (.ref f_like)
  b_like : Binds K d_like ["_law_found", "_law_due"] []
  f_value_at : Addr
  d_value_at : FuncData
  F_value_at : Fun K "_law_value_at" "_law_value_at" s_value_at f_value_at d_value_at
  g_value_at : mg "_law_value_at" = some (.ref f_value_at)
  b_value_at : Binds K d_value_at ["_law_form_z", "_law_pair"] []
  f_led : Addr
  d_led : FuncData
  F_led : Fun K "_law_led" "_law_led" s_led f_led d_led
  g_led : mg "_law_led" = some (.ref f_led)
  b_led : Binds K d_led ["_law_form_z", "_law_x", "_law_y"] []
  f_is_pair : Addr
  d_is_pair : FuncData
  F_is_pair : Fun K "_law_is_pair" "_law_is_pair" s_is_pair f_is_pair d_is_pair
  g_is_pair : mg "_law_is_pair" = some (.ref f_is_pair)
  b_is_pair : Binds K d_is_pair ["_law_x"] []
  f_field_of : Addr
  d_field_of : FuncData
  F_field_of : Fun K "_law_field_of" "_law_field_of" s_field_of f_field_of d_field_of
  g_field_of : mg "_law_field_of" = some (.ref f_field_of)
  b_field_of : Binds K d_field_of ["_law_e"] []
  f_try : Addr
  d_try : FuncData
  F_try : Fun K "_law_try" "_law_try" s_try f_try d_try
  g_try : mg "_law_try" = some (.ref f_try)
  b_try : Binds K d_try ["_law_ask"] []
  n_ValueError : mg "ValueError" = none
  n_LookupError : mg "LookupError" = none
  n_IndexError : mg "IndexError" = none
  n_isinstance : mg "isinstance" = none
  n_range : mg "range" = none
  n_sum : mg "sum" = none
  n_list : mg "list" = none
  n_tuple : mg "tuple" = none
  n_int : mg "int" = none
  n_len : mg "len" = none
  n_all : mg "all" = none
  n_bool : mg "bool" = none
  n_abs : mg "abs" = none
  kb_reduced_form : KBn K d_reduced ["form"] 0 ["form"] (fun us ws : List Value => [ws.getD 0 .none]) (fun us ws : List V => [ws.getD 0 .non])
  r_GrainError : Addr
  g_GrainError : mg "GrainError" = some (.ref r_GrainError)
  c_GrainError : ∃ cd : ClassData, PySem.W.clsIn K r_GrainError = some cd ∧ cd.name = "GrainError"
  t_GrainError : PySem.W.typeIn K (.ref r_GrainError) = some (.type "type")
  sb_GrainError : PySem.W.subIn K (.ref r_GrainError) (.type "BaseException") = some true
  r_GrainMissing : Addr
  g_GrainMissing : mg "GrainMissing" = some (.ref r_GrainMissing)
  c_GrainMissing : ∃ cd : ClassData, PySem.W.clsIn K r_GrainMissing = some cd ∧ cd.name = "GrainMissing"
  t_GrainMissing : PySem.W.typeIn K (.ref r_GrainMissing) = some (.type "type")
  sb_GrainMissing : PySem.W.subIn K (.ref r_GrainMissing) (.type "BaseException") = some true
  e_BadForm : Er PySem.Challenge.pw_grainyard_k47_reduced_forms K mg "ValueError" "ValueError.__new__" "ValueError.__init__" [.type "ValueError", .type "Exception", .type "BaseException", .type "object"] [.ref r_GrainError] i_BadForm "BadForm" "BadForm.__init__"
  x_BadForm_word : PySem.W.findIn K (.ref e_BadForm.C) "word" = some none
  e_NothingLeft : Er PySem.Challenge.pw_grainyard_k47_reduced_forms K mg "IndexError" "IndexError.__new__" "IndexError.__init__" [.type "IndexError", .type "LookupError", .type "Exception", .type "BaseException", .type "object"] [] i_NothingLeft "NothingLeft" "NothingLeft.__init__"
  x_NothingLeft_word : PySem.W.findIn K (.ref e_NothingLeft.C) "word" = some none
  hn : PySem.W.specialIn K (.builtin "object.__class__") "__get__" = some (some (.builtin "getset_descriptor.__get__"))
  ht : PySem.W.takesIn K (.builtin "object.__class__") = some true
theorem vals_getD : ∀ {zs : List V} {ws : List Value} (_ : Vals zs ws) (i : Nat), RelV (zs.getD i .non) (ws.getD i .none)
  | _, _, .nil, _ => rfl
  | _, _, .cons r _, 0 => r
  | _, _, .cons _ t, i + 1 => vals_getD t i
theorem kbn_reduced_form {K : PySem.W.Frag} {f : Addr} {fd : FuncData} (F : Fun K "reduced" "reduced" s_reduced f fd) : KBn K fd ["form"] 0 ["form"] (fun us ws : List Value => [ws.getD 0 .none]) (fun us ws : List V => [ws.getD 0 .non]) := by
  obtain ⟨o1, o2, v1, v2, v3, a1, v4, v5, s1, rfl, r1, r2⟩ := F.ex
  refine ⟨fun s us ws _ l1 l2 => ?_, fun r1 r2 => .cons (vals_getD r2 0) (.nil)⟩
  match us, ws, l1, l2 with
  | [], [_], _, _ => exact .of_eq rfl
section
variable {base : Heap} {K : PySem.W.Frag} {mg : Str → Option Value} {w : World}
theorem ini_BadForm (T : Txt K mg) : FnOk PySem.Challenge.pw_grainyard_k47_reduced_forms w K mg base CX0 1 T.e_BadForm.f ((NFI i_BadForm "BadForm.__init__" T.e_BadForm.cc T.e_BadForm.c).fd T.e_BadForm.doc T.e_BadForm.pm T.e_BadForm.ctv) ["self"] (spIni T.e_BadForm.C 0 fun _ => [("word", .str "BadForm")]) := ok_ini0 erb_VE T.e_BadForm sc_iBadForm rfl T.x_BadForm_word
theorem bi_BadForm (T : Txt K mg) : Binds K ((NFI i_BadForm "BadForm.__init__" T.e_BadForm.cc T.e_BadForm.c).fd T.e_BadForm.doc T.e_BadForm.pm T.e_BadForm.ctv) ["self"] [] := .all fun us hl => match us, hl with | [_], _ => rfl
theorem ini_NothingLeft (T : Txt K mg) : FnOk PySem.Challenge.pw_grainyard_k47_reduced_forms w K mg base CX0 1 T.e_NothingLeft.f ((NFI i_NothingLeft "NothingLeft.__init__" T.e_NothingLeft.cc T.e_NothingLeft.c).fd T.e_NothingLeft.doc T.e_NothingLeft.pm T.e_NothingLeft.ctv) ["self"] (spIni T.e_NothingLeft.C 0 fun _ => [("word", .str "NothingLeft")]) := ok_ini0 erb_IE T.e_NothingLeft sc_iNothingLeft rfl T.x_NothingLeft_word
theorem bi_NothingLeft (T : Txt K mg) : Binds K ((NFI i_NothingLeft "NothingLeft.__init__" T.e_NothingLeft.cc T.e_NothingLeft.c).fd T.e_NothingLeft.doc T.e_NothingLeft.pm T.e_NothingLeft.ctv) ["self"] [] := .all fun us hl => match us, hl with | [_], _ => rfl
end
/-! ### heaps, and the bag that the draws change -/
def Keep (b : Addr) (H H' : Hp) : Prop := ∀ a o, a ≠ b → H a = some o → H' a = some o
theorem Keep.refl {b : Addr} (H : Hp) : Keep b H H := fun _ _ _ e => e
theorem Keep.trans {b : Addr} {H H1 H2 : Hp} (x : Keep b H H1) (y : Keep b H1 H2) : Keep b H H2 := fun a o n e => y a o n (x a o n e)
theorem keep_put {b : Addr} {H : Hp} {o : HO} : Keep b H (upd H b o) := fun a u n e => (upd_ne n).trans e
theorem keep_new {b p : Addr} {H : Hp} {o : HO} (hp : H p = none) : Keep b H (upd H p o) := fun a u _ e => (upd_ne (ne_of_none e hp)).trans e
theorem same_new {p : Addr} {H : Hp} {o : HO} (hp : H p = none) : Same H (upd H p o) := fun a u e => (upd_ne (ne_of_none e hp)).trans e
theorem keep_of {b : Addr} {H H' : Hp} (s : Same H H') : Keep b H H' := fun a o _ e => s a o e
theorem Same.keep {b : Addr} {H H1 H2 : Hp} (s : Same H H1) (k : Keep b H1 H2) (hb : H b = none) : Same H H2 := fun a o e => k a o (ne_of_none e hb) (s a o e)
structure BagAt (H : Hp) (b s : Addr) (ns : List Int) (i j m c : Int) : Prop where
  hb : H b = some (.lst [.ref s, .int i, .int j, .int m, .int c])
  hs : H s = some (.lst (ns.map V.int))
  i0 : 0 ≤ i
  i1 : i ≤ (ns.length : Int)
  m0 : 0 ≤ m
  m1 : m < 2147483399
def Bag (H : Hp) (b sb : Addr) : Prop := ∃ (ns : List Int) (i j m c : Int), BagAt H b sb ns i j m c
theorem BagAt.ne {H : Hp} {b s : Addr} {ns : List Int} {i j m c : Int} (B : BagAt H b s ns i j m c) : s ≠ b := ne_of B.hs B.hb (by
  intro e
  injection e with e
  cases ns with
  | nil => simp at e
  | cons x r => simp at e)
theorem BagAt.put {H : Hp} {b s : Addr} {ns : List Int} {i j m c : Int} (B : BagAt H b s ns i j m c) {i' j' m' c' : Int} (h0 : 0 ≤ i') (h1 : i' ≤ (ns.length : Int)) (h2 : 0 ≤ m') (h3 : m' < 2147483399) :
    BagAt (upd H b (.lst [.ref s, .int i', .int j', .int m', .int c'])) b s ns i' j' m' c' := ⟨upd_same, (upd_ne B.ne).trans B.hs, h0, h1, h2, h3⟩
theorem BagAt.same {H H' : Hp} {b s : Addr} {ns : List Int} {i j m c : Int} (B : BagAt H b s ns i j m c) (e : Same H H') : BagAt H' b s ns i j m c := ⟨e _ _ B.hb, e _ _ B.hs, B.i0, B.i1, B.m0, B.m1⟩
theorem Bag.same {H H' : Hp} {b sb : Addr} (B : Bag H b sb) (e : Same H H') : Bag H' b sb := by
  obtain ⟨ns, i, j, m, c, B⟩ := B
  exact ⟨ns, i, j, m, c, B.same e⟩
theorem Bag.new {H : Hp} {b sb p : Addr} {o : HO} (B : Bag H b sb) (hp : H p = none) : Bag (upd H p o) b sb := B.same (same_new hp)
theorem Bag.ne {H : Hp} {b sb p : Addr} (B : Bag H b sb) (hp : H p = none) : p ≠ b := by
  obtain ⟨ns, i, j, m, c, B⟩ := B
  exact (ne_of_none B.hb hp).symm
theorem Bag.ne2 {H : Hp} {b sb p : Addr} (B : Bag H b sb) (hp : H p = none) : p ≠ sb := by
  obtain ⟨ns, i, j, m, c, B⟩ := B
  exact (ne_of_none B.hs hp).symm
theorem Bag.tup {H : Hp} {b sb p : Addr} {xs : List V} (B : Bag H b sb) (hp : H p = some (.tup xs)) : p ≠ b := by
  obtain ⟨ns, i, j, m, c, B⟩ := B
  exact ne_of hp B.hb (by intro z; cases z)
theorem Bag.put {H : Hp} {b sb l : Addr} {o : HO} (B : Bag H b sb) (h1 : l ≠ b) (h2 : l ≠ sb) : Bag (upd H l o) b sb := by
  obtain ⟨ns, i, j, m, c, B⟩ := B
  exact ⟨ns, i, j, m, c, (upd_ne h1.symm).trans B.hb, (upd_ne h2.symm).trans B.hs, B.i0, B.i1, B.m0, B.m1⟩
theorem Keep.list {K : PySem.W.Frag} {H H' : Hp} {b p : Addr} {xs : List V} (k : Keep b H H') (hp : p ≠ b) (h : H p = some (.lst xs)) : SqL K H' p xs := SqL.of (k _ _ hp h)
theorem at_some {α : Type} {xs : List α} {i : Int} (h0 : 0 ≤ i) (h1 : i < (xs.length : Int)) : ∃ v, xs[i.toNat]? = some v ∧ atI xs i = some v := by
  obtain ⟨n, rfl⟩ := Int.eq_ofNat_of_zero_le h0
  have hl : n < xs.length := by omega
  exact ⟨xs[n], by simp [hl], atI_nat (by simp [hl])⟩
theorem at_ex {ns : List Int} {i : Int} (h0 : 0 ≤ i) (h1 : i < (ns.length : Int)) : ∃ z, atI (ns.map V.int) i = some (.int z) := by
  obtain ⟨n, rfl⟩ := Int.eq_ofNat_of_zero_le h0
  have hl : n < ns.length := by omega
  exact ⟨ns[n], atI_nat (by simp [hl])⟩
/-! ### f(k = v, ..): keywords alone -/
section
variable {X : Cx}
theorem pe_kwOnly {CX : CXT} {k : Nat} {f : Addr} {fd : FuncData} {ps ks : List Str} {sp : Sp} {E : XK} {x : Str} {p pos : Pos} {kws : List Keyword} {tk : TA} {g : List Value → List Value → List Value} {gV : List V → List V → List V}
    (F : FnOk X.prog X.w X.K X.mg X.base CX k f fd ps sp) (hr : Room k X.A) (hg : Gl X x) (hm : X.mg x = some (.ref f))
    (hk : PySem.W.keepIn X.K (.ref f) = true) (hb : KBn X.K fd ps 0 ks g gV) (hx : Passes CX X E) (hkw : PK X kws tk)
    (hall : (backToKw pos (keywordEach kws X.env)).all (·.1.isSome) = true := by rfl)
    (hks : (backToKw pos (keywordEach kws X.env)).filterMap (·.1) = ks := by rfl)
    (hdb : (x == ("__debug__" : Str)) = false := by decide)
    (hpl : ((backTo pos (starEach [] X.env)).any (·.1) || (backToKw pos (keywordEach kws X.env)).any (·.1.isNone)) = false := by rfl) :
    PE X (.Call (.Name x p) [] kws pos) (fun σ H Q => tk σ H fun zs H2 => zs.length = ks.length ∧ sp (gV [] zs) H2 Q E) := by
  refine ⟨fun pins s σ H Q I h => wpAny_Call_Name_kw (ld_glob I hg hm ?_ hdb)⟩
  refine PySem.W.callWith_KW0 (h₀ := X.base) I.ok.mod.kin hk hall ?_ hpl
  refine thn (hkw.run pos pins s σ H _ I h) fun ws s2 ⟨zs, H2, I2, rz, l2, q2⟩ => ⟨I2.kIn, ?_⟩
  rw [hks]
  exact run_fnN (us := []) (vs := []) F hr hb hx I2 .nil rz rfl l2 q2
end
/-! ### the law's own draws -/
section
variable {base : Heap} {K : PySem.W.Frag} {mg : Str → Option Value} {P : Program} {w : World}
def spPull : Sp := fun vs H Q _ => ∃ (b sb : Addr) (n : Int), vs = [.ref b, .int n] ∧ Bag H b sb ∧ 0 < n ∧ n.natAbs < 2 ^ 100 ∧ ∀ z H', 0 ≤ z → z < n → Bag H' b sb → Keep b H H' → Q (.int z) H'
theorem ok_pull (T : Txt K mg) : FnOk P w K mg base CX0 1 T.f_pull T.d_pull ["_law_bag", "_law_size"] spPull := by
  refine T.F_pull.ok sc_pull (fun vs H Q E h => ?_) (fun cdv A outer s H vs Q E hr h => ?_)
  · obtain ⟨b, sb, n, rfl, _⟩ := h
    rfl
  · obtain ⟨b, s1, n, rfl, ⟨ns, i, j, m, c, B⟩, h0, h1, q⟩ := h
    refine ⟨_, (pss_cons (ps_asg (pe_op op_add (pe_ix ix_list (pv 0) pe_int (fun _ _ => rfl)) pe_int) (pg_sub (pv 0) pe_int set_list))
      (Evl.pss_cut (ps_if (PW.pt (pw_and (pt_cmpR op_eq (pe_ix ix_list (pv 0) pe_int (fun _ _ => rfl)) pe_int (nomark _)) (pw_and1 (pt_cmpR op_lt (pe_ix ix_list (pv 0) pe_int (fun _ _ => rfl)) (pe_callB call_len_seq (by rfl) T.n_len (by decide +kernel) (pa_cons (pe_ix ix_list (pv 0) pe_int (fun _ _ => rfl)) pa_nil)) (nomark _))))) (pss_cons (ps_set (i := 3) sc_pull.nd rfl (Or.inl rfl) (pe_ix ix_list (pe_ix ix_list (pv 0) pe_int (fun _ _ => rfl)) (pe_ix ix_list (pv 0) pe_int (fun _ _ => rfl)) (fun _ _ => rfl)))
      (pss_cons (ps_asg (pe_op op_add (pe_ix ix_list (pv 0) pe_int (fun _ _ => rfl)) pe_int) (pg_sub (pv 0) pe_int set_list))
      (pss_one (ps_if (pt_cmpR op_ge (pv 3) (pe_op op_pow pe_int pe_int) (nomark _)) (pss_one (ps_asg (pv 3) (pg_sub (pv 0) pe_int set_list))) (pss_cons (ps_set (i := 2) sc_pull.nd rfl (Or.inl rfl) (pe_op op_add (pe_op op_mul (pe_ix ix_list (pv 0) pe_int (fun _ _ => rfl)) pe_int) (pe_op op_mul (pe_op op_mod (pv 3) pe_int) pe_int)))
      (pss_one (ps_asg (pe_op op_mod (pe_op op_add (pv 2) pe_int) pe_int) (pg_sub (pv 0) pe_int set_list)))))))) pss_nil)
      (pss_cons (ps_if (pt_cmpR op_gt (pe_ix ix_list (pv 0) pe_int (fun _ _ => rfl)) pe_int (nomark _)) (pss_cons (ps_set (i := 4) sc_pull.nd rfl (Or.inl rfl) (pe_op op_mod (pe_ix ix_list (pv 0) pe_int (fun _ _ => rfl)) (pv 1)))
      (pss_cons (ps_asg (pe_op op_fdivW (pe_ix ix_list (pv 0) pe_int (fun _ _ => rfl)) (pv 1)) (pg_sub (pv 0) pe_int set_list))
      (pss_one (ps_ret (pv 4))))) pss_nil)
      (pss_cons (ps_set (i := 2) sc_pull.nd rfl (Or.inl rfl) (pe_op op_add (pe_op op_mul (pe_op op_mul (pe_ix ix_list (pv 0) pe_int (fun _ _ => rfl)) (pe_ix ix_list (pv 0) pe_int (fun _ _ => rfl))) pe_int) (pe_op op_mul (pe_ix ix_list (pv 0) pe_int (fun _ _ => rfl)) pe_int)))
      (pss_cons (ps_asg (pe_op op_mod (pe_op op_add (pv 2) (pe_op op_mul pe_int (pe_ix ix_list (pv 0) pe_int (fun _ _ => rfl)))) pe_int) (pg_sub (pv 0) pe_int set_list))
      (pss_one (ps_ret (pe_op op_mod (pe_op op_fdiv (pe_ix ix_list (pv 0) pe_int (fun _ _ => rfl)) pe_int) (pv 1))))))))), ?_⟩
    -- the count of the draws
    have B1 := B.put (j' := j) (c' := c + 1) B.i0 B.i1 B.m0 B.m1
    refine ⟨.ref b, rfl, b, _, 4, .int c, rfl, rfl, SqL.of B.hb, atI_nat (j := 4) rfl, c, 1, rfl, rfl, .ref b, rfl, b, _, 4, 4, rfl, rfl, B.hb, rfl, ?_⟩
    refine ⟨fun σ H' => ∃ y2 y3 y4, σ = [some (.ref b), some (.int n), y2, y3, y4] ∧ Bag H' b s1 ∧ Keep b H H', ?_, ?_⟩
    · -- the next cell of the script
      refine ⟨.ref b, rfl, b, _, 2, .int j, rfl, rfl, SqL.of B1.hb, atI_nat (j := 2) rfl, rfl, _, rfl, ite2 (fun e => ?_) (fun e => ?_)⟩
      · refine ⟨.ref b, rfl, b, _, 1, .int i, rfl, rfl, SqL.of B1.hb, atI_nat (j := 1) rfl, .ref b, rfl, b, _, 0, .ref s1, rfl, rfl, SqL.of B1.hb, atI_nat (j := 0) rfl, s1, _, rfl, .inl (SqL.of B1.hs), i, _, rfl, rfl, _, rfl, ite2 (fun e2 => ?_) (fun e2 => ?_)⟩
        · have e3 : i < (ns.length : Int) := by
            have := of_decide_eq_true e2
            rw [List.length_map] at this
            exact this
          obtain ⟨z, hz⟩ := at_ex B.i0 e3
          have B2 := B1.put (j' := j) (c' := c + 1) (show 0 ≤ i + 1 by have := B.i0; omega) (show i + 1 ≤ (ns.length : Int) by omega) B.m0 B.m1
          refine ⟨.ref b, rfl, b, _, 0, .ref s1, rfl, rfl, SqL.of B1.hb, atI_nat (j := 0) rfl, .ref b, rfl, b, _, 1, .int i, rfl, rfl, SqL.of B1.hb, atI_nat (j := 1) rfl, s1, _, i, _, rfl, rfl, SqL.of B1.hs, hz, ?_⟩
          refine ⟨.ref b, rfl, b, _, 1, .int i, rfl, rfl, SqL.of B1.hb, atI_nat (j := 1) rfl, i, 1, rfl, rfl, .ref b, rfl, b, _, 1, 1, rfl, rfl, B1.hb, rfl, ?_⟩
          refine ⟨_, rfl, 10, 18, rfl, rfl, ⟨by decide, by decide, by decide⟩, z, _, rfl, rfl, _, rfl, ite2 (fun e4 => ?_) (fun e4 => ?_)⟩
          · have B3 := B2.put (j' := z) (c' := c + 1) (show 0 ≤ i + 1 by have := B.i0; omega) (show i + 1 ≤ (ns.length : Int) by omega) B.m0 B.m1
            refine ⟨_, rfl, .ref b, rfl, b, _, 2, 2, rfl, rfl, B2.hb, rfl, ?_⟩
            exact ⟨_, _, _, rfl, ⟨ns, _, _, _, _, B3⟩, keep_put.trans (keep_put.trans keep_put)⟩
          · refine ⟨.ref b, rfl, b, _, 3, .int m, rfl, rfl, SqL.of B2.hb, atI_nat (j := 3) rfl, m, 40014, rfl, rfl, .inr ⟨by decide, by decide⟩, _, rfl, z, 2147483399, rfl, rfl, (by show (0 : Int) < 2147483399; decide), _, 69069, rfl, rfl, .inr ⟨by decide, by decide⟩, _, _, rfl, rfl, ?_⟩
            refine ⟨_, rfl, _, 11, rfl, rfl, _, 2147483399, rfl, rfl, (by show (0 : Int) < 2147483399; decide), .ref b, rfl, b, _, 3, 3, rfl, rfl, B2.hb, rfl, ?_⟩
            have B3 := B2.put (j' := j) (m' := (m * 40014 + z % 2147483399 * 69069 + 11) % 2147483399) (c' := c + 1) (show 0 ≤ i + 1 by have := B.i0; omega) (show i + 1 ≤ (ns.length : Int) by omega) (by omega) (by omega)
            exact ⟨_, _, _, rfl, ⟨ns, _, _, _, _, B3⟩, keep_put.trans (keep_put.trans keep_put)⟩
        · exact ⟨_, _, _, rfl, ⟨ns, _, _, _, _, B1⟩, keep_put⟩
      · exact ⟨_, _, _, rfl, ⟨ns, _, _, _, _, B1⟩, keep_put⟩
    · rintro σ H' ⟨y2, y3, y4, rfl, ⟨ns2, i2, j2, m2, c2, B2⟩, k2⟩
      refine ⟨.ref b, rfl, b, _, 2, .int j2, rfl, rfl, SqL.of B2.hb, atI_nat (j := 2) rfl, j2, 0, rfl, rfl, _, rfl, ite2 (fun e => ?_) (fun e => ?_)⟩
      · have B3 := B2.put (j' := j2 / n) (c' := c2) B2.i0 B2.i1 B2.m0 B2.m1
        refine ⟨.ref b, rfl, b, _, 2, .int j2, rfl, rfl, SqL.of B2.hb, atI_nat (j := 2) rfl, .int n, rfl, j2, n, rfl, rfl, h0, ?_⟩
        refine ⟨.ref b, rfl, b, _, 2, .int j2, rfl, rfl, SqL.of B2.hb, atI_nat (j := 2) rfl, .int n, rfl, j2, n, rfl, rfl, wide_div h0 h1 (by decide) (by decide), .ref b, rfl, b, _, 2, 2, rfl, rfl, B2.hb, rfl, ?_⟩
        exact ⟨_, rfl, q _ _ (Int.emod_nonneg _ (by omega)) (Int.emod_lt_of_pos _ h0) ⟨ns2, _, _, _, _, B3⟩ (k2.trans keep_put)⟩
      · have hm : -(2 ^ 64) < m2 ∧ m2 < 2 ^ 64 := ⟨by have := B2.m0; omega, by have := B2.m1; omega⟩
        refine ⟨.ref b, rfl, b, _, 3, .int m2, rfl, rfl, SqL.of B2.hb, atI_nat (j := 3) rfl, .ref b, rfl, b, _, 3, .int m2, rfl, rfl, SqL.of B2.hb, atI_nat (j := 3) rfl, m2, m2, rfl, rfl, .inl hm, _, 7, rfl, rfl, .inr ⟨by decide, by decide⟩,
          .ref b, rfl, b, _, 3, .int m2, rfl, rfl, SqL.of B2.hb, atI_nat (j := 3) rfl, m2, 40692, rfl, rfl, .inr ⟨by decide, by decide⟩, _, _, rfl, rfl, ?_⟩
        refine ⟨_, rfl, .ref b, rfl, b, _, 4, .int c2, rfl, rfl, SqL.of B2.hb, atI_nat (j := 4) rfl, 1013904223, c2, rfl, rfl, .inl ⟨by decide, by decide⟩, _, _, rfl, rfl, _, 2147483399, rfl, rfl, (by show (0 : Int) < 2147483399; decide), .ref b, rfl, b, _, 3, 3, rfl, rfl, B2.hb, rfl, ?_⟩
        have B3 := B2.put (j' := j2) (m' := (m2 * m2 * 7 + m2 * 40692 + 1013904223 * c2) % 2147483399) (c' := c2) B2.i0 B2.i1 (Int.emod_nonneg _ (by decide)) (Int.emod_lt_of_pos _ (by decide))
        refine ⟨.ref b, rfl, b, _, 3, _, rfl, rfl, SqL.of B3.hb, atI_nat (j := 3) rfl, _, 37, rfl, rfl, ⟨by decide, by decide⟩, .int n, rfl, _, n, rfl, rfl, h0, ?_⟩
        exact q _ _ (Int.emod_nonneg _ (by omega)) (Int.emod_lt_of_pos _ h0) ⟨ns2, _, _, _, _, B3⟩ (k2.trans keep_put)
def spOf : Sp := fun vs H Q _ => ∃ (b sb l : Addr) (xs : List V), vs = [.ref b, .ref l] ∧ Bag H b sb ∧ H l = some (.lst xs) ∧ l ≠ b ∧ 0 < xs.length ∧ xs.length ≤ 1000 ∧ ∀ (i : Nat) (v : V) (H' : Hp), xs[i]? = some v → Bag H' b sb → Keep b H H' → Q v H'
theorem ok_of (T : Txt K mg) : FnOk P w K mg base CX0 2 T.f_of T.d_of ["_law_bag", "_law_some"] spOf := by
  refine T.F_of.ok sc_of (fun vs H Q E h => ?_) (fun cdv A outer s H vs Q E hr h => ?_)
  · obtain ⟨b, sb, l, xs, rfl, _⟩ := h
    rfl
  · obtain ⟨b, sb, l, xs, rfl, B, hl, nl, h0, h1, q⟩ := h
    refine ⟨_, (pss_one (ps_ret (pe_ix ix_list (pv 1) (pe_call (ok_pull T) (hr.mono (by decide)) (by rfl) T.g_pull T.F_pull.kp T.b_pull .nil pass0 (pa_cons (pv 0) (pa_cons (pe_callB call_len_seq (by rfl) T.n_len (by decide +kernel) (pa_cons (pv 1) pa_nil)) pa_nil))) (fun _ _ => rfl)))), ?_⟩
    have hn : ((xs.length : Int)).natAbs < 2 ^ 100 := Nat.lt_of_le_of_lt (show (xs.length : Int).natAbs ≤ 1000 by omega) (by decide)
    refine ⟨.ref l, rfl, .ref b, rfl, .ref l, rfl, l, xs, rfl, .inl (SqL.of hl), b, sb, _, rfl, B, (by show (0 : Int) < (xs.length : Int); omega), hn, fun z H' z0 z1 B' k' => ?_⟩
    obtain ⟨v, e1, e2⟩ := at_some z0 z1
    exact ⟨l, xs, z, v, rfl, rfl, k'.list nl hl, e2, q _ _ _ e1 B' k'⟩
end
section
variable {base : Heap} {K : PySem.W.Frag} {mg : Str → Option Value} {P : Program} {w : World}
def spSource (K : PySem.W.Frag) : Sp := fun vs H Q _ => ∃ (a : Addr) (ns : List Int), vs = [.ref a] ∧ SqL K H a (ns.map V.int) ∧ ns.length ≤ 63 ∧ ∀ b sb H', H b = none → Same H H' → Bag H' b sb → Q (.ref b) H'
theorem ok_source (T : Txt K mg) : FnOk P w K mg base CX0 1 T.f_source T.d_source ["_law_script"] (spSource K) := by
  refine T.F_source.ok sc_source (fun vs H Q E h => ?_) (fun cdv A outer s H vs Q E hr h => ?_)
  · obtain ⟨a, ns, rfl, _⟩ := h
    rfl
  · obtain ⟨a, ns, rfl, hS, hlen, q⟩ := h
    refine ⟨_, (pss_cons (ps_set (i := 1) sc_source.nd rfl (Or.inl rfl) pe_int)
      (pss_cons (ps_for PassesOwn.never rfl (pi_list (pe_slice sl_list (pv 0) po_none (po_some pe_int))) (pg_name (i := 2) sc_source.nd rfl (Or.inl rfl)) (pss_one (ps_set (i := 1) sc_source.nd rfl (Or.inl rfl) (pe_op op_mod (pe_op op_add (pe_op op_add (pe_op op_mul (pv 1) pe_int) (pe_op op_mod (pv 2) pe_int)) pe_int) pe_int))))
      (pss_one (ps_ret (pe_lst (pa_cons (pe_callTy call_list_of (by rfl) T.n_list (by decide +kernel) (pa_cons (pe_slice sl_list (pv 0) po_none (po_some pe_int)) pa_nil)) (pa_cons pe_int (pa_cons pe_int (pa_cons (pv 1) (pa_cons pe_int pa_nil)))))))))), ?_⟩
    have hcut : cutV (ns.map V.int) none (some 63) = ns.map V.int := by
      unfold cutV
      rw [HT.sIx_none, show HT.sIx (ns.map V.int).length (ns.map V.int).length (some 63) = min 63 (ns.map V.int).length from HT.sIx_nat _ _ 63]
      rw [List.drop_zero, List.length_map, Nat.sub_zero, Nat.min_eq_right hlen]
      exact List.take_of_length_le (by rw [List.length_map]; exact Nat.le_refl _)
    refine ⟨.ref a, rfl, 63, rfl, a, _, rfl, hS, fun p hp => ?_⟩
    rw [hcut]
    refine ⟨p, rfl, ⟨_, SqL.of upd_same⟩, for_list (K := K) (a := p) (xs := ns.map V.int) (fun i σ H2 => ∃ (m : Int) (y : Option V), σ = [some (.ref a), some (.int m), y] ∧ 0 ≤ m ∧ m < 2147483399 ∧ H2 = upd H p (.lst (ns.map V.int)))
      ⟨3812, none, rfl, by decide, by decide, rfl⟩ (fun i σ H2 _ ⟨_, _, _, _, _, e⟩ => by rw [e]; exact SqL.of upd_same) ?_ ?_⟩
    · rintro i x σ H2 hx ⟨m, y, rfl, m0, m1, rfl⟩
      obtain ⟨z, rfl⟩ : ∃ z, x = V.int z := by
        rw [List.getElem?_map] at hx
        cases e : ns[i]? with
        | none =>
          rw [e] at hx
          cases hx
        | some z =>
          rw [e] at hx
          exact ⟨z, (Option.some.inj hx).symm⟩
      refine ⟨_, rfl, m, 40692, rfl, rfl, .inr ⟨by decide, by decide⟩, _, rfl, z, 2147483399, rfl, rfl, (by show (0 : Int) < 2147483399; decide), _, _, rfl, rfl, _, 17, rfl, rfl, _, 2147483399, rfl, rfl, (by show (0 : Int) < 2147483399; decide), ?_⟩
      exact ⟨_, _, rfl, Int.emod_nonneg _ (by decide), Int.emod_lt_of_pos _ (by decide), rfl⟩
    · rintro σ H2 ⟨m, y, rfl, m0, m1, rfl⟩
      have hS2 : SqL K (upd H p (.lst (ns.map V.int))) a (ns.map V.int) := (same_new hp).seq hS
      refine ⟨.ref a, rfl, 63, rfl, a, _, rfl, hS2, fun p2 hp2 => ?_⟩
      rw [hcut]
      refine ⟨p2, _, rfl, .inl (SqL.of upd_same), fun l hl => ?_⟩
      refine ⟨_, rfl, (by show 5 ≤ sizeLine; decide), fun b hb => ?_⟩
      have sm : Same H (upd (upd (upd (upd H p (.lst (ns.map V.int))) p2 (.lst (ns.map V.int))) l (.lst (ns.map V.int))) b (.lst [.ref l, .int 0, .int 0, .int m, .int 0])) := (same_new hp).trans ((same_new hp2).trans ((same_new hl).trans (same_new hb)))
      exact q b l _ (((same_new hp).trans ((same_new hp2).trans (same_new hl))).free hb) sm ⟨ns, 0, 0, m, 0, upd_same, same_new hb _ _ upd_same, Int.le_refl _, by omega, m0, m1⟩
end
section
variable {base : Heap} {K : PySem.W.Frag} {mg : Str → Option Value} {P : Program} {w : World}
def spAnyPair : Sp := fun vs H Q _ => ∃ b sb : Addr, vs = [.ref b] ∧ Bag H b sb ∧ ∀ x y p H', -(10 ^ 6) ≤ x → x ≤ 10 ^ 6 → -(10 ^ 6) ≤ y → y ≤ 10 ^ 6 → H p = none → H' p = some (.tup [.int x, .int y]) → Bag H' b sb → Keep b H H' → Q (.ref p) H'
theorem ok_any_pair (T : Txt K mg) : FnOk P w K mg base CX0 3 T.f_any_pair T.d_any_pair ["_law_bag"] spAnyPair := by
  refine T.F_any_pair.ok sc_any_pair (fun vs H Q E h => ?_) (fun cdv A outer s H vs Q E hr h => ?_)
  · obtain ⟨b, sb, rfl, _⟩ := h
    rfl
  · obtain ⟨b, sb, rfl, B, q⟩ := h
    refine ⟨_, (pss_cons (ps_set (i := 1) sc_any_pair.nd rfl (Or.inl rfl) (pe_call (ok_of T) (hr.mono (by decide)) (by rfl) T.g_of T.F_of.kp T.b_of .nil pass0 (pa_cons (pv 0) (pa_cons (pe_lst (pa_cons pe_int (pa_cons pe_int (pa_cons pe_int (pa_cons pe_int (pa_cons (pe_op op_pow pe_int pe_int) pa_nil)))))) pa_nil))))
      (pss_one (ps_ret (pe_tup (pa_cons (pe_op op_sub (pe_call (ok_pull T) (hr.mono (by decide)) (by rfl) T.g_pull T.F_pull.kp T.b_pull .nil pass0 (pa_cons (pv 0) (pa_cons (pe_op op_add (pe_op op_mul pe_int (pv 1)) pe_int) pa_nil))) (pv 1)) (pa_cons (pe_op op_sub (pe_call (ok_pull T) (hr.mono (by decide)) (by rfl) T.g_pull T.F_pull.kp T.b_pull .nil pass0 (pa_cons (pv 0) (pa_cons (pe_op op_add (pe_op op_mul pe_int (pv 1)) pe_int) pa_nil))) (pv 1)) pa_nil)))))), ?_⟩
    refine ⟨.ref b, rfl, 10, 6, rfl, rfl, ⟨by decide, by decide, by decide⟩, (by show 5 ≤ sizeLine; decide), fun l hl => ?_⟩
    refine ⟨b, sb, l, _, rfl, B.new hl, upd_same, B.ne hl, by decide, by decide, fun i v H1 hv B1 k1 => ?_⟩
    obtain ⟨n, rfl, n0, n1⟩ : ∃ n : Int, v = .int n ∧ 1 ≤ n ∧ n ≤ 10 ^ 6 := by
      match i, hv with
      | 0, hv => cases hv; exact ⟨2, rfl, by decide, by decide⟩
      | 1, hv => cases hv; exact ⟨5, rfl, by decide, by decide⟩
      | 2, hv => cases hv; exact ⟨9, rfl, by decide, by decide⟩
      | 3, hv => cases hv; exact ⟨30, rfl, by decide, by decide⟩
      | 4, hv => cases hv; exact ⟨10 ^ 6, rfl, by decide, by decide⟩
      | n + 5, hv => simp at hv
    have hn : (2 * n + 1).natAbs < 2 ^ 100 := Nat.lt_of_le_of_lt (show (2 * n + 1).natAbs ≤ 2000001 by omega) (by decide)
    refine ⟨.ref b, rfl, _, rfl, 2, n, rfl, rfl, .inl ⟨by decide, by decide⟩, _, 1, rfl, rfl, b, sb, _, rfl, B1, (show (0 : Int) < 2 * n + 1 by omega), hn, fun z H2 z0 z1 B2 k2 => ?_⟩
    refine ⟨_, rfl, z, n, rfl, rfl, .ref b, rfl, _, rfl, 2, n, rfl, rfl, .inl ⟨by decide, by decide⟩, _, 1, rfl, rfl, b, sb, _, rfl, B2, (show (0 : Int) < 2 * n + 1 by omega), hn, fun z' H3 z0' z1' B3 k3 => ?_⟩
    refine ⟨_, rfl, z', n, rfl, rfl, (by show 2 ≤ sizeLine; decide), fun p hp => ?_⟩
    have kk : Keep b H H3 := (keep_new hl).trans (k1.trans (k2.trans k3))
    have hpn : H p = none := by
      cases e : H p with
      | none => rfl
      | some o => exact absurd (kk p o (B3.ne hp) e) (by rw [hp]; simp)
    exact q _ _ p _ (by omega) (by omega) (by omega) (by omega) hpn upd_same (B3.new hp) (kk.trans (keep_new hp))
end
/-! ### like -/
def Flat (x y : V) : Prop := (∃ i, x = .int i ∧ y = .int i) ∨ (∃ b, x = .bl b ∧ y = .bl b) ∨ (x = .non ∧ y = .non) ∨ (∃ t, x = .str t ∧ y = .str t)
def Two (H : Hp) (p q : Addr) (xs ys : List V) : Prop := (H p = some (.tup xs) ∧ H q = some (.tup ys)) ∨ (H p = some (.lst xs) ∧ H q = some (.lst ys))
def Lk (H : Hp) : Nat → V → V → Prop
  | 0, x, y => Flat x y
  | n + 1, x, y => Flat x y ∨ ∃ (p q : Addr) (xs ys : List V), x = .ref p ∧ y = .ref q ∧ Two H p q xs ys ∧ xs.length = ys.length ∧ xs.length ≤ 1000 ∧ ∀ (i : Nat) (x y : V), xs[i]? = some x → ys[i]? = some y → Lk H n x y
theorem Two.same {H H' : Hp} {p q : Addr} {xs ys : List V} (h : Two H p q xs ys) (s : Same H H') : Two H' p q xs ys := by
  rcases h with ⟨a, b⟩ | ⟨a, b⟩
  · exact .inl ⟨s _ _ a, s _ _ b⟩
  · exact .inr ⟨s _ _ a, s _ _ b⟩
theorem Lk.same {H H' : Hp} (s : Same H H') : ∀ {n : Nat} {x y : V}, Lk H n x y → Lk H' n x y
  | 0, _, _, h => h
  | n + 1, _, _, h => by
    rcases h with h | ⟨p, q, xs, ys, e1, e2, t, l1, l2, a⟩
    · exact .inl h
    · exact .inr ⟨p, q, xs, ys, e1, e2, t.same s, l1, l2, fun i x y h1 h2 => (a i x y h1 h2).same s⟩
theorem Lk.flat {H : Hp} {n : Nat} {x y : V} (h : Flat x y) : Lk H n x y := match n with
  | 0 => h
  | _ + 1 => .inl h
section
variable {base : Heap} {K : PySem.W.Frag} {mg : Str → Option Value} {P : Program} {w : World}
def spLL (L : V → V → Hp → Prop) : Sp := fun vs H Q _ => ∃ x y : V, vs = [x, y] ∧ L x y H ∧ ∀ H', Same H H' → Q (.bl true) H'
theorem kit2 {a : String} {r1 r2 : Bool} (h1 : kitB a "tuple" = some r1) (h2 : kitB a "list" = some r2) : PySem.W.kitAny K (.type a) [.type "tuple", .type "list"] = some (r1 || r2) := by
  refine kitAny_cons (kit_ty h1) (fun e => ?_) (fun e => by rw [e]; rfl)
  subst e
  exact kitAny_cons (kit_ty h2) (fun e => by rw [e]; exact kitAny_nil) (fun e => by rw [e]; rfl)
theorem lk_core (T : Txt K mg) {k : Nat} {L L' : V → V → Hp → Prop} (G : FnOk P w K mg base CX0 k T.f_like T.d_like ["_law_found", "_law_due"] (spLL L')) (hs : ∀ x y H H', Same H H' → L' x y H → L' x y H')
    (hne : ∀ x y H, L x y H → Flat x y ∨ ∃ (p q : Addr) (xs ys : List V), x = .ref p ∧ y = .ref q ∧ Two H p q xs ys ∧ xs.length = ys.length ∧ xs.length ≤ 1000 ∧ ∀ (i : Nat) (x y : V), xs[i]? = some x → ys[i]? = some y → L' x y H) :
    FnOk P w K mg base CX0 (k + 1) T.f_like T.d_like ["_law_found", "_law_due"] (spLL L) := by
  refine T.F_like.ok sc_like (fun vs H Q E h => ?_) (fun cdv A outer s H vs Q E hr h => ?_)
  · obtain ⟨x, y, rfl, _⟩ := h
    rfl
  · obtain ⟨x, y, rfl, hl, qq⟩ := h
    refine ⟨_, (pss_cons (ps_if (pt_val (pe_callB call_isiT (by rfl) T.n_isinstance (by decide +kernel) (pa_cons (pv 1) (pa_cons (pe_tup (pa_cons (pe_bltn (v := .ty "tuple") (by rfl) T.n_tuple (by decide +kernel) rfl) (pa_cons (pe_bltn (v := .ty "list") (by rfl) T.n_list (by decide +kernel) rfl) pa_nil))) pa_nil)))) (pss_cons (ps_if (PW.pt (pw_or (pt_cmpR op_ne (pe_callB call_isi (by rfl) T.n_isinstance (by decide +kernel) (pa_cons (pv 0) (pa_cons (pe_bltn (v := .ty "tuple") (by rfl) T.n_tuple (by decide +kernel) rfl) pa_nil))) (pe_callB call_isi (by rfl) T.n_isinstance (by decide +kernel) (pa_cons (pv 1) (pa_cons (pe_bltn (v := .ty "tuple") (by rfl) T.n_tuple (by decide +kernel) rfl) pa_nil))) (nomark _)) (pw_or1 (pt_cmpR op_ne (pe_callB call_isi (by rfl) T.n_isinstance (by decide +kernel) (pa_cons (pv 0) (pa_cons (pe_bltn (v := .ty "list") (by rfl) T.n_list (by decide +kernel) rfl) pa_nil))) (pe_callB call_isi (by rfl) T.n_isinstance (by decide +kernel) (pa_cons (pv 1) (pa_cons (pe_bltn (v := .ty "list") (by rfl) T.n_list (by decide +kernel) rfl) pa_nil))) (nomark _))))) (pss_one (ps_ret pe_bl)) pss_nil)
      (pss_one (ps_ret (pe_and (pe_cmpR op_eq (pe_callB call_len_seq (by rfl) T.n_len (by decide +kernel) (pa_cons (pv 0) pa_nil)) (pe_callB call_len_seq (by rfl) T.n_len (by decide +kernel) (pa_cons (pv 1) pa_nil)) (nomark _)) (pe_one (pe_callB (cr_all rfl) (by rfl) T.n_all (by decide +kernel) (pa_cons (pe_lc (own := [("_law_k", 2)]) (g := (gName 2)) (tt := tYes) (te := tCall (spLL L') [] E0 (tCons (tOp (rIx K) _ _) (tCons (tOp (rIx K) _ _) _))) (by rfl) sc_like.nd (pi_range1 (by rfl) T.n_range (pa_cons (pe_callB call_len_seq (by rfl) T.n_len (by decide +kernel) (pa_cons (pv 1) pa_nil)) pa_nil)) (blkOk_by (own := [("_law_k", 2)]) (N := ["_law_found", "_law_due", "_law_k"]) (sc := defScope s_like) (by decide +kernel)) (fun _ _ _ _ _ => (pg_name (i := 2) sc_like.nd rfl (Or.inl rfl))) (fun _ _ _ _ _ => pts_nil) (fun _ _ _ _ _ => (pe_call G hr (by rfl) T.g_like T.F_like.kp T.b_like .nil pass0 (pa_cons (pe_ix ix_seq (pv 0) (pv 2) (fun _ _ => rfl)) (pa_cons (pe_ix ix_seq (pv 1) (pv 2) (fun _ _ => rfl)) pa_nil))))) pa_nil))))))) pss_nil)
      (pss_cons (ps_if (PW.pt (pw_or (pt_cmpR op_isN (pv 1) pe_non (nomark _)) (pw_or1 (pt_cmpR op_isN (pv 0) pe_non (nomark _))))) (pss_one (ps_ret (pe_and (pe_cmpR op_isN (pv 1) pe_non (nomark _)) (pe_one (pe_cmpR op_isN (pv 0) pe_non (nomark _)))))) pss_nil)
      (pss_one (ps_ret (pe_and (pe_cmpR op_eq (pe_callB call_isi (by rfl) T.n_isinstance (by decide +kernel) (pa_cons (pv 0) (pa_cons (pe_bltn (v := .ty "bool") (by rfl) T.n_bool (by decide +kernel) rfl) pa_nil))) (pe_callB call_isi (by rfl) T.n_isinstance (by decide +kernel) (pa_cons (pv 1) (pa_cons (pe_bltn (v := .ty "bool") (by rfl) T.n_bool (by decide +kernel) rfl) pa_nil))) (nomark _)) (pe_one (pe_cmpR op_eq (pv 0) (pv 1) (nomark _)))))))), ?_⟩
    refine ⟨_, rfl, by show 2 ≤ sizeLine; decide, fun tp htp => ?_⟩
    have sm := same_new (o := .tup [.ty "tuple", .ty "list"]) htp
    rcases hne x y H hl with (⟨i, rfl, rfl⟩ | ⟨b, rfl, rfl⟩ | ⟨rfl, rfl⟩ | ⟨i, rfl, rfl⟩) | ⟨p, q, xs, ys, rfl, rfl, hT, l1, l2, hA⟩
    · refine ⟨.int i, tp, [.ty "tuple", .ty "list"], .type "int", [.type "tuple", .type "list"], (false || false), rfl, upd_same, .cons (ClsV.ty _) (.cons (ClsV.ty _) .nil), TyX.base (TyOf.int _), kit2 (by decide +kernel) (by decide +kernel), _, rfl, iteF ?_⟩
      refine ⟨_, rfl, rfl, _, rfl, iteF ?_⟩
      refine ⟨_, rfl, rfl, _, rfl, iteF ?_⟩
      refine ⟨_, rfl, .int i, .ty "bool", _, _, false, rfl, ClsV.ty _, TyX.base (TyOf.int _), kit_ty (by decide +kernel), _, rfl, .int i, .ty "bool", _, _, false, rfl, ClsV.ty _, TyX.base (TyOf.int _), kit_ty (by decide +kernel), rfl, true, rfl, iteT ?_⟩
      refine ⟨_, rfl, _, rfl, rfl, ?_⟩
      rw [decide_eq_true rfl]
      exact qq _ sm
    · refine ⟨.bl b, tp, [.ty "tuple", .ty "list"], .type "bool", [.type "tuple", .type "list"], (false || false), rfl, upd_same, .cons (ClsV.ty _) (.cons (ClsV.ty _) .nil), TyX.base (TyOf.bl _), kit2 (by decide +kernel) (by decide +kernel), _, rfl, iteF ?_⟩
      refine ⟨_, rfl, rfl, _, rfl, iteF ?_⟩
      refine ⟨_, rfl, rfl, _, rfl, iteF ?_⟩
      refine ⟨_, rfl, .bl b, .ty "bool", _, _, true, rfl, ClsV.ty _, TyX.base (TyOf.bl _), kit_ty (by decide +kernel), _, rfl, .bl b, .ty "bool", _, _, true, rfl, ClsV.ty _, TyX.base (TyOf.bl _), kit_ty (by decide +kernel), rfl, true, rfl, iteT ?_⟩
      refine ⟨_, rfl, _, rfl, rfl, ?_⟩
      rw [decide_eq_true rfl]
      exact qq _ sm
    · refine ⟨.non, tp, [.ty "tuple", .ty "list"], .type "NoneType", [.type "tuple", .type "list"], (false || false), rfl, upd_same, .cons (ClsV.ty _) (.cons (ClsV.ty _) .nil), TyX.base TyOf.non, kit2 (by decide +kernel) (by decide +kernel), _, rfl, iteF ?_⟩
      refine ⟨_, rfl, rfl, _, rfl, iteT ?_⟩
      exact ⟨_, rfl, rfl, true, rfl, iteT ⟨_, rfl, rfl, qq _ sm⟩⟩
    · refine ⟨.str i, tp, [.ty "tuple", .ty "list"], .type "str", [.type "tuple", .type "list"], (false || false), rfl, upd_same, .cons (ClsV.ty _) (.cons (ClsV.ty _) .nil), TyX.base (TyOf.str _), kit2 (by decide +kernel) (by decide +kernel), _, rfl, iteF ?_⟩
      refine ⟨_, rfl, rfl, _, rfl, iteF ?_⟩
      refine ⟨_, rfl, rfl, _, rfl, iteF ?_⟩
      refine ⟨_, rfl, .str i, .ty "bool", _, _, false, rfl, ClsV.ty _, TyX.base (TyOf.str _), kit_ty (by decide +kernel), _, rfl, .str i, .ty "bool", _, _, false, rfl, ClsV.ty _, TyX.base (TyOf.str _), kit_ty (by decide +kernel), rfl, true, rfl, iteT ?_⟩
      refine ⟨_, rfl, _, rfl, rfl, ?_⟩
      rw [decide_eq_true rfl]
      exact qq _ sm
    · have hT' := hT.same sm
      rcases hT' with ⟨hp, hq⟩ | ⟨hp, hq⟩
      · refine ⟨.ref q, tp, [.ty "tuple", .ty "list"], .type "tuple", [.type "tuple", .type "list"], (true || false), rfl, upd_same, .cons (ClsV.ty _) (.cons (ClsV.ty _) .nil), TyX.base (TyOf.tup hq), kit2 (by decide +kernel) (by decide +kernel), _, rfl, iteT ?_⟩
        refine ⟨_, rfl, .ref p, .ty "tuple", _, _, true, rfl, ClsV.ty _, TyX.base (TyOf.tup hp), kit_ty (by decide +kernel), _, rfl, .ref q, .ty "tuple", _, _, true, rfl, ClsV.ty _, TyX.base (TyOf.tup hq), kit_ty (by decide +kernel), rfl, _, rfl, iteF ?_⟩
        refine ⟨_, rfl, .ref p, .ty "list", _, _, false, rfl, ClsV.ty _, TyX.base (TyOf.tup hp), kit_ty (by decide +kernel), _, rfl, .ref q, .ty "list", _, _, false, rfl, ClsV.ty _, TyX.base (TyOf.tup hq), kit_ty (by decide +kernel), rfl, _, rfl, iteF ?_⟩
        refine ⟨_, rfl, p, xs, rfl, .inr (SqT.of hp), _, rfl, q, ys, rfl, .inr (SqT.of hq), rfl, true, (by rw [l1, decide_eq_true rfl]), iteT ?_⟩
        refine ⟨_, rfl, q, ys, rfl, .inr (SqT.of hq), _, rfl, (by omega), (by omega), fun D hD => ?_⟩
        refine lc_range (lo := 0) (n := ys.length) (fun i H' => Same H H' ∧ H' D = some (.lst ((List.replicate i true).map V.bl))) ⟨sm.trans (same_new hD), upd_same⟩ ?_ ?_
        · rintro i H' hi ⟨sm', hd⟩
          obtain ⟨x1, e1, f1⟩ := at_some (xs := xs) (show 0 ≤ (0 : Int) + (i : Int) by omega) (by omega)
          obtain ⟨y1, e2, f2⟩ := at_some (xs := ys) (show 0 ≤ (0 : Int) + (i : Int) by omega) (by omega)
          rcases hT with ⟨hp0, hq0⟩ | ⟨hp0, hq0⟩
          · refine ⟨rfl, ⟨_, rfl, _, rfl, .inr (.inl ⟨p, xs, _, x1, rfl, rfl, SqT.of (sm' _ _ hp0), f1, _, rfl, _, rfl, .inr (.inl ⟨q, ys, _, y1, rfl, rfl, SqT.of (sm' _ _ hq0), f2, x1, y1, rfl, hs _ _ _ _ sm' (hA _ _ _ e1 e2), fun H2 s2 => ?_⟩)⟩)⟩⟩
            refine ⟨_, s2 _ _ hd, ?_, ?_, ?_⟩
            · rw [List.length_map, List.length_replicate]
              exact small1000 (by omega)
            · exact fun a o z => (upd_ne (ne_of_none z (sm.free hD))).trans (s2 _ _ (sm' a o z))
            · rw [upd_same, List.replicate_succ', List.map_append]
              rfl
          · exact absurd (sm _ _ hp0) (by rw [hp]; simp)
        · rintro H' ⟨sm', hd⟩
          refine ⟨D, _, rfl, SqL.of hd, ?_⟩
          rw [show (List.replicate ys.length true).all id = true by simp]
          exact qq _ sm'
      · refine ⟨.ref q, tp, [.ty "tuple", .ty "list"], .type "list", [.type "tuple", .type "list"], (false || true), rfl, upd_same, .cons (ClsV.ty _) (.cons (ClsV.ty _) .nil), TyX.base (TyOf.lst hq), kit2 (by decide +kernel) (by decide +kernel), _, rfl, iteT ?_⟩
        refine ⟨_, rfl, .ref p, .ty "tuple", _, _, false, rfl, ClsV.ty _, TyX.base (TyOf.lst hp), kit_ty (by decide +kernel), _, rfl, .ref q, .ty "tuple", _, _, false, rfl, ClsV.ty _, TyX.base (TyOf.lst hq), kit_ty (by decide +kernel), rfl, _, rfl, iteF ?_⟩
        refine ⟨_, rfl, .ref p, .ty "list", _, _, true, rfl, ClsV.ty _, TyX.base (TyOf.lst hp), kit_ty (by decide +kernel), _, rfl, .ref q, .ty "list", _, _, true, rfl, ClsV.ty _, TyX.base (TyOf.lst hq), kit_ty (by decide +kernel), rfl, _, rfl, iteF ?_⟩
        refine ⟨_, rfl, p, xs, rfl, .inl (SqL.of hp), _, rfl, q, ys, rfl, .inl (SqL.of hq), rfl, true, (by rw [l1, decide_eq_true rfl]), iteT ?_⟩
        refine ⟨_, rfl, q, ys, rfl, .inl (SqL.of hq), _, rfl, (by omega), (by omega), fun D hD => ?_⟩
        refine lc_range (lo := 0) (n := ys.length) (fun i H' => Same H H' ∧ H' D = some (.lst ((List.replicate i true).map V.bl))) ⟨sm.trans (same_new hD), upd_same⟩ ?_ ?_
        · rintro i H' hi ⟨sm', hd⟩
          obtain ⟨x1, e1, f1⟩ := at_some (xs := xs) (show 0 ≤ (0 : Int) + (i : Int) by omega) (by omega)
          obtain ⟨y1, e2, f2⟩ := at_some (xs := ys) (show 0 ≤ (0 : Int) + (i : Int) by omega) (by omega)
          rcases hT with ⟨hp0, hq0⟩ | ⟨hp0, hq0⟩
          · exact absurd (sm _ _ hp0) (by rw [hp]; simp)
          · refine ⟨rfl, ⟨_, rfl, _, rfl, .inl ⟨p, xs, _, x1, rfl, rfl, SqL.of (sm' _ _ hp0), f1, _, rfl, _, rfl, .inl ⟨q, ys, _, y1, rfl, rfl, SqL.of (sm' _ _ hq0), f2, x1, y1, rfl, hs _ _ _ _ sm' (hA _ _ _ e1 e2), fun H2 s2 => ?_⟩⟩⟩⟩
            refine ⟨_, s2 _ _ hd, ?_, ?_, ?_⟩
            · rw [List.length_map, List.length_replicate]
              exact small1000 (by omega)
            · exact fun a o z => (upd_ne (ne_of_none z (sm.free hD))).trans (s2 _ _ (sm' a o z))
            · rw [upd_same, List.replicate_succ', List.map_append]
              rfl
        · rintro H' ⟨sm', hd⟩
          refine ⟨D, _, rfl, SqL.of hd, ?_⟩
          rw [show (List.replicate ys.length true).all id = true by simp]
          exact qq _ sm'
theorem ok_likeN (T : Txt K mg) : ∀ n : Nat, FnOk P w K mg base CX0 (n + 1) T.f_like T.d_like ["_law_found", "_law_due"] (spLL fun x y H => Lk H n x y)
  | 0 => lk_core T (L' := fun _ _ _ => False) ⟨fun _ _ _ _ ⟨_, _, _, h, _⟩ => h.elim, fun _ _ _ _ _ _ _ _ _ _ _ _ _ ⟨_, _, _, h, _⟩ => h.elim⟩ (fun _ _ _ _ _ h => h) fun x y H h => .inl h
  | n + 1 => lk_core T (ok_likeN T n) (fun _ _ _ _ s h => h.same s) fun x y H h => h
theorem ok_like (T : Txt K mg) : FnOk P w K mg base CX0 4 T.f_like T.d_like ["_law_found", "_law_due"] (spLL fun x y H => Lk H 3 x y) := ok_likeN T 3
end
inductive LkAll (H : Hp) (n : Nat) : List V → List V → Prop
  | nil : LkAll H n [] []
  | cons {x y : V} {xs ys : List V} : Lk H n x y → LkAll H n xs ys → LkAll H n (x :: xs) (y :: ys)
theorem LkAll.get {H : Hp} {n : Nat} : ∀ {xs ys : List V}, LkAll H n xs ys → xs.length = ys.length ∧ ∀ (i : Nat) (x y : V), xs[i]? = some x → ys[i]? = some y → Lk H n x y
  | _, _, .nil => ⟨rfl, fun i x y h => by simp at h⟩
  | _, _, .cons h t => ⟨congrArg Nat.succ t.get.1, fun i x y h1 h2 => match i, h1, h2 with
    | 0, h1, h2 => by cases h1; cases h2; exact h
    | i + 1, h1, h2 => t.get.2 i x y (by simpa using h1) (by simpa using h2)⟩
theorem Lk.lists {H : Hp} {n : Nat} {p q : Addr} {xs ys : List V} (hp : H p = some (.lst xs)) (hq : H q = some (.lst ys)) (hl : xs.length ≤ 1000) (h : LkAll H n xs ys) : Lk H (n + 1) (.ref p) (.ref q) := .inr ⟨p, q, xs, ys, rfl, rfl, .inr ⟨hp, hq⟩, h.get.1, hl, h.get.2⟩
theorem Lk.tups {H : Hp} {n : Nat} {p q : Addr} {xs ys : List V} (hp : H p = some (.tup xs)) (hq : H q = some (.tup ys)) (hl : xs.length ≤ 1000) (h : LkAll H n xs ys) : Lk H (n + 1) (.ref p) (.ref q) := .inr ⟨p, q, xs, ys, rfl, rfl, .inl ⟨hp, hq⟩, h.get.1, hl, h.get.2⟩
theorem Lk.int {H : Hp} {n : Nat} {i j : Int} (e : i = j) : Lk H n (.int i) (.int j) := Lk.flat (.inl ⟨i, rfl, by rw [e]⟩)
theorem Lk.bl {H : Hp} {n : Nat} {i j : Bool} (e : i = j) : Lk H n (.bl i) (.bl j) := Lk.flat (.inr (.inl ⟨i, rfl, by rw [e]⟩))
theorem Lk.pair {H : Hp} {n : Nat} {p q : Addr} {x y x' y' : Int} (hp : H p = some (.tup [.int x, .int y])) (hq : H q = some (.tup [.int x', .int y'])) (e1 : x = x') (e2 : y = y') : Lk H (n + 1) (.ref p) (.ref q) :=
  .tups hp hq (by simp) (.cons (.int e1) (.cons (.int e2) .nil))
/-! ### the field of a caught error -/
/-- the error of the class cls with its dict at d: its word, its other field -/
structure ErrIs (K : PySem.W.Frag) (H : Hp) (cls : Value) (d : Option Addr) (w : Str) (fs : List (Str × V)) : Prop where
  ex : ∃ C dd : Addr, cls = .ref C ∧ d = some dd ∧ XfC K C ∧ H dd = some (.xd fs) ∧ ∀ f v, fs.lookup f = some v → PySem.W.findIn K (.ref C) f = some none
  wd : fs.lookup ("word" : Str) = some (.str w)
theorem ErrIs.same {K : PySem.W.Frag} {H H' : Hp} {cls : Value} {d : Option Addr} {w : Str} {fs : List (Str × V)} (h : ErrIs K H cls d w fs) (s : Same H H') : ErrIs K H' cls d w fs := by
  obtain ⟨⟨C, dd, e1, e2, x, hd, no⟩, wd⟩ := h
  exact ⟨⟨C, dd, e1, e2, x, s _ _ hd, no⟩, wd⟩
/-- a field is read -/
theorem ErrIs.read {K : PySem.W.Frag} {H : Hp} {a : Addr} {cls : Value} {d : Option Addr} {w : Str} {fs : List (Str × V)} (h : ErrIs K H cls d w fs) {f : Str} {v : V} {R : V → Prop} (hl : fs.lookup f = some v) (q : R v) :
    (V.ref a) = .ref a ∧ ∃ (C dd : Addr) (fs : List (Str × V)) (v : V), cls = .ref C ∧ d = some dd ∧ XfC K C ∧ PySem.W.findIn K (.ref C) f = some none ∧ H dd = some (.xd fs) ∧ fs.lookup f = some v ∧ R v := by
  obtain ⟨⟨C, dd, e1, e2, x, hd, no⟩, wd⟩ := h
  exact ⟨rfl, C, dd, fs, v, e1, e2, x, no _ _ hl, hd, hl, q⟩
def fieldOf (w : Str) : Option Str :=
  if inV (.str w) [.str "BadRoot", .str "BadCount", .str "NotLinked"] = true then some "number"
  else if inV (.str w) [.str "BadLength", .str "BadRow", .str "BadStep", .str "BadText", .str "BadDeed"] = true then some "at"
  else if inV (.str w) [.str "BadName", .str "Taken"] = true then some "name"
  else if inV (.str w) [.str "TooGreat", .str "Full"] = true then some "most"
  else if decide (V.str w = .str "NoSquares") = true then some "reason" else none
theorem fo0 {w : Str}  (e : inV (.str w) [.str "BadRoot", .str "BadCount", .str "NotLinked"] = true) : fieldOf w = some ("number" : Str) := by unfold fieldOf; rw [if_pos e]
theorem fo1 {w : Str} (b0 : ¬ (inV (.str w) [.str "BadRoot", .str "BadCount", .str "NotLinked"] = true)) (e : inV (.str w) [.str "BadLength", .str "BadRow", .str "BadStep", .str "BadText", .str "BadDeed"] = true) : fieldOf w = some ("at" : Str) := by unfold fieldOf; rw [if_neg b0, if_pos e]
theorem fo2 {w : Str} (b0 : ¬ (inV (.str w) [.str "BadRoot", .str "BadCount", .str "NotLinked"] = true)) (b1 : ¬ (inV (.str w) [.str "BadLength", .str "BadRow", .str "BadStep", .str "BadText", .str "BadDeed"] = true)) (e : inV (.str w) [.str "BadName", .str "Taken"] = true) : fieldOf w = some ("name" : Str) := by unfold fieldOf; rw [if_neg b0, if_neg b1, if_pos e]
theorem fo3 {w : Str} (b0 : ¬ (inV (.str w) [.str "BadRoot", .str "BadCount", .str "NotLinked"] = true)) (b1 : ¬ (inV (.str w) [.str "BadLength", .str "BadRow", .str "BadStep", .str "BadText", .str "BadDeed"] = true)) (b2 : ¬ (inV (.str w) [.str "BadName", .str "Taken"] = true)) (e : inV (.str w) [.str "TooGreat", .str "Full"] = true) : fieldOf w = some ("most" : Str) := by unfold fieldOf; rw [if_neg b0, if_neg b1, if_neg b2, if_pos e]
theorem fo4 {w : Str} (b0 : ¬ (inV (.str w) [.str "BadRoot", .str "BadCount", .str "NotLinked"] = true)) (b1 : ¬ (inV (.str w) [.str "BadLength", .str "BadRow", .str "BadStep", .str "BadText", .str "BadDeed"] = true)) (b2 : ¬ (inV (.str w) [.str "BadName", .str "Taken"] = true)) (b3 : ¬ (inV (.str w) [.str "TooGreat", .str "Full"] = true)) (e : decide (V.str w = .str "NoSquares") = true) : fieldOf w = some ("reason" : Str) := by unfold fieldOf; rw [if_neg b0, if_neg b1, if_neg b2, if_neg b3, if_pos e]
theorem fo5 {w : Str} (b0 : ¬ (inV (.str w) [.str "BadRoot", .str "BadCount", .str "NotLinked"] = true)) (b1 : ¬ (inV (.str w) [.str "BadLength", .str "BadRow", .str "BadStep", .str "BadText", .str "BadDeed"] = true)) (b2 : ¬ (inV (.str w) [.str "BadName", .str "Taken"] = true)) (b3 : ¬ (inV (.str w) [.str "TooGreat", .str "Full"] = true)) (b4 : ¬ (decide (V.str w = .str "NoSquares") = true)) : fieldOf w = none := by unfold fieldOf; rw [if_neg b0, if_neg b1, if_neg b2, if_neg b3, if_neg b4]
def fieldVal (w : Str) (fs : List (Str × V)) : Option V := match fieldOf w with
  | some f => fs.lookup f
  | none => some .non
section
variable {base : Heap} {K : PySem.W.Frag} {mg : Str → Option Value} {P : Program} {w : World}
def spFld (K : PySem.W.Frag) : Addr → Value → Option Addr → Sp := fun a cls d vs H Q _ => ∃ (wd : Str) (fs : List (Str × V)) (v : V), vs = [.ref a] ∧ ErrIs K H cls d wd fs ∧ fieldVal wd fs = some v ∧ ∀ H', Same H H' → Q v H'
theorem ok_field_of (T : Txt K mg) : FnP P w K mg base 1 T.f_field_of T.d_field_of ["_law_e"] (spFld K) := by
  refine fn_ofP T.F_field_of sc_field_of (fun a cls d vs H Q E h => ?_) (fun cdv A outer s H vs Q E p cls d zc dat hr h => ?_)
  · obtain ⟨wd, fs, v, rfl, _⟩ := h
    rfl
  · obtain ⟨wd, fs, v, rfl, E0, hv, q⟩ := h
    refine ⟨_, (pss_cons (ps_if (pt_cmpR op_in_seq (pe_xfG (a := p.1) (oe := p.2) (cls := cls) (d := d) List.mem_cons_self zc dat (pv 0)) (pe_tup (pa_cons pe_str (pa_cons pe_str (pa_cons pe_str pa_nil)))) (by rfl)) (pss_one (ps_ret (pe_xfG (a := p.1) (oe := p.2) (cls := cls) (d := d) List.mem_cons_self zc dat (pv 0)))) pss_nil)
      (pss_cons (ps_if (pt_cmpR op_in_seq (pe_xfG (a := p.1) (oe := p.2) (cls := cls) (d := d) List.mem_cons_self zc dat (pv 0)) (pe_tup (pa_cons pe_str (pa_cons pe_str (pa_cons pe_str (pa_cons pe_str (pa_cons pe_str pa_nil)))))) (by rfl)) (pss_one (ps_ret (pe_xfG (a := p.1) (oe := p.2) (cls := cls) (d := d) List.mem_cons_self zc dat (pv 0)))) pss_nil)
      (pss_cons (ps_if (pt_cmpR op_in_seq (pe_xfG (a := p.1) (oe := p.2) (cls := cls) (d := d) List.mem_cons_self zc dat (pv 0)) (pe_tup (pa_cons pe_str (pa_cons pe_str pa_nil))) (by rfl)) (pss_one (ps_ret (pe_xfG (a := p.1) (oe := p.2) (cls := cls) (d := d) List.mem_cons_self zc dat (pv 0)))) pss_nil)
      (pss_cons (ps_if (pt_cmpR op_in_seq (pe_xfG (a := p.1) (oe := p.2) (cls := cls) (d := d) List.mem_cons_self zc dat (pv 0)) (pe_tup (pa_cons pe_str (pa_cons pe_str pa_nil))) (by rfl)) (pss_one (ps_ret (pe_xfG (a := p.1) (oe := p.2) (cls := cls) (d := d) List.mem_cons_self zc dat (pv 0)))) pss_nil)
      (pss_one (ps_ret (pe_ifExp (pt_cmpR op_eq (pe_xfG (a := p.1) (oe := p.2) (cls := cls) (d := d) List.mem_cons_self zc dat (pv 0)) pe_str (nomark _)) (pe_xfG (a := p.1) (oe := p.2) (cls := cls) (d := d) List.mem_cons_self zc dat (pv 0)) pe_non))))))), ?_⟩
    have fv : ∀ {f : Str}, fieldOf wd = some f → fs.lookup f = some v := fun {f} e => by
      unfold fieldVal at hv
      rw [e] at hv
      exact hv
    refine ⟨_, rfl, E0.read E0.wd ?_⟩
    refine ⟨by show 3 ≤ sizeLine; decide, fun t0 n0 => ?_⟩
    have S1 := same_new (o := .tup [.str "BadRoot", .str "BadCount", .str "NotLinked"]) n0
    have E1 := E0.same S1
    refine ⟨t0, _, rfl, .inr (SqT.of upd_same), rfl, rfl, _, rfl, ite2 (fun e => ?_) (fun b0 => ?_)⟩
    · exact ⟨_, rfl, E1.read (fv (fo0  e)) (q _ S1)⟩
    refine ⟨_, rfl, E1.read E1.wd ?_⟩
    refine ⟨by show 5 ≤ sizeLine; decide, fun t1 n1 => ?_⟩
    have S2 := S1.trans (same_new (o := .tup [.str "BadLength", .str "BadRow", .str "BadStep", .str "BadText", .str "BadDeed"]) n1)
    have E2 := E0.same S2
    refine ⟨t1, _, rfl, .inr (SqT.of upd_same), rfl, rfl, _, rfl, ite2 (fun e => ?_) (fun b1 => ?_)⟩
    · exact ⟨_, rfl, E2.read (fv (fo1 b0 e)) (q _ S2)⟩
    refine ⟨_, rfl, E2.read E2.wd ?_⟩
    refine ⟨by show 2 ≤ sizeLine; decide, fun t2 n2 => ?_⟩
    have S3 := S2.trans (same_new (o := .tup [.str "BadName", .str "Taken"]) n2)
    have E3 := E0.same S3
    refine ⟨t2, _, rfl, .inr (SqT.of upd_same), rfl, rfl, _, rfl, ite2 (fun e => ?_) (fun b2 => ?_)⟩
    · exact ⟨_, rfl, E3.read (fv (fo2 b0 b1 e)) (q _ S3)⟩
    refine ⟨_, rfl, E3.read E3.wd ?_⟩
    refine ⟨by show 2 ≤ sizeLine; decide, fun t3 n3 => ?_⟩
    have S4 := S3.trans (same_new (o := .tup [.str "TooGreat", .str "Full"]) n3)
    have E4 := E0.same S4
    refine ⟨t3, _, rfl, .inr (SqT.of upd_same), rfl, rfl, _, rfl, ite2 (fun e => ?_) (fun b3 => ?_)⟩
    · exact ⟨_, rfl, E4.read (fv (fo3 b0 b1 b2 e)) (q _ S4)⟩
    refine ⟨_, rfl, E4.read E4.wd ?_⟩
    refine ⟨rfl, _, rfl, ite2 (fun e => ?_) (fun b4 => ?_)⟩
    · exact ⟨_, rfl, E4.read (fv (fo4 b0 b1 b2 b3 e)) (q _ S4)⟩
    · have e : fieldOf wd = none := fo5 b0 b1 b2 b3 b4
      have ev : v = .non := by
        unfold fieldVal at hv
        rw [e] at hv
        exact (Option.some.inj hv).symm
      rw [ev] at q
      exact q _ S4
end
/-! ### the def that asks, and tells what was raised -/
section
variable {K : PySem.W.Frag} {mg : Str → Option Value}
/-- what is told of an answer, of an error of the first, of the second, of the third kind -/
def Told (Q : VK) (w : Str) (v : V) (H : Hp) : Prop := ∀ H' p, Same H H' → H' p = some (.tup [.str w, v]) → Q (.ref p) H'
def Raised (K : PySem.W.Frag) (G : Addr) (Q : VK) : XK := fun cls d H => PySem.W.exmOne K cls (.ref G) = some true ∧ ∃ (w : Str) (fs : List (Str × V)) (v : V), ErrIs K H cls d w fs ∧ fieldVal w fs = some v ∧ Told Q w v H
def TTry (K : PySem.W.Frag) (G : Addr) : (XK → Hp → VK → Prop) → Hp → VK → Prop := fun tl H Q => tl (Raised K G Q) H fun v H1 => [V.str "told", v].length ≤ sizeLine ∧ ∀ p, H1 p = none → Q (.ref p) (upd H1 p (.tup [.str "told", v]))
end
section
variable {base : Heap} {K : PySem.W.Frag} {mg : Str → Option Value} {w : World}
theorem try_gives {X : Cx} (T : Txt K mg) (hP : X.K = K) (hm : X.mg = mg) {k : Nat} (hr : Room (k + 3) X.A) {cdg : Value} {q : Str} :
    LamX.GivesTo X ["_law_ask", "_law_e"] "_law_try" (defScope s_try) T.f_try cdg (defBody s_try) "_law_ask" q (TTry K T.r_GrainError) := by
  subst hP
  subst hm
  intro f c' s H Q tl act hc h
  have hr2 : Room (k + 2) (X.A.deeper (envOfC "_law_try" (defScope s_try) s.heap.objs.size T.f_try cdg)) := hr.deeper _
  refine ⟨_, pss_one (ps_tryAs (X := (cxOf CX0 X.prog X.w X.K X.mg X.base ["_law_ask", "_law_e"] "_law_try" (defScope s_try) T.f_try cdg X.A X.stack s H E0).nox) (i := 1)
      (tb := fun W D σ H => ∃ Ech : XK, (∀ cls d σ' H', Ech cls d H' → W cls d σ' H') ∧ σ[0]? = some (some (.ref f)) ∧ H c' = some (LamX.CodeO c' q) ∧ tl Ech H fun v H1 => [V.str "told", v].length ≤ sizeLine ∧ ∀ p, H1 p = none → D.rt (.ref p) (upd H1 p (.tup [.str "told", v])))
      rfl rfl sc_try.nd rfl rfl (fun W pn xe tk _ => ?_)
      (.cons (c := .ref T.r_GrainError) (ts := fun a cls d => tRet (tTup (tCons (tXfA X.K a cls d "word" (tVar 1)) (tCons (fun σ H Q => tCons (tVar 1) tNil σ H fun vs H1 => spFld X.K a cls d vs H1 Q E0) tNil)))) ⟨by rfl, by decide, .inl T.g_GrainError⟩ (fun a oe cls d pn zc dat => pss_one (ps_ret (pe_tup (pa_cons (pe_xfG (a := a) (oe := oe) (cls := cls) (d := d) List.mem_cons_self zc dat (pv 1)) (pa_cons (pe_callP (a := a) (oe := oe) (cls := cls) (d := d) List.mem_cons_self zc dat (ok_field_of T) ?_ (by rfl) T.g_field_of T.F_field_of.kp T.b_field_of (pa_cons (pv 1) pa_nil)) pa_nil)))))
      (.cons (c := .ref T.r_GrainMissing) (ts := fun a cls d => tRet (tTup (tCons (tXfA X.K a cls d "word" (tVar 1)) (tCons (tIf (tTest (tOp rEq (tXfA X.K a cls d "word" (tVar 1)) (tC (.str "NoSheet")))) (tXfA X.K a cls d "sheet" (tVar 1)) (tXfA X.K a cls d "name" (tVar 1))) tNil)))) ⟨by rfl, by decide, .inl T.g_GrainMissing⟩ (fun a oe cls d pn zc dat => pss_one (ps_ret (pe_tup (pa_cons (pe_xfG (a := a) (oe := oe) (cls := cls) (d := d) List.mem_cons_self zc dat (pv 1)) (pa_cons (pe_ifExp (pt_cmpR op_eq (pe_xfG (a := a) (oe := oe) (cls := cls) (d := d) List.mem_cons_self zc dat (pv 1)) pe_str (nomark _)) (pe_xfG (a := a) (oe := oe) (cls := cls) (d := d) List.mem_cons_self zc dat (pv 1)) (pe_xfG (a := a) (oe := oe) (cls := cls) (d := d) List.mem_cons_self zc dat (pv 1))) pa_nil)))))
      (.cons (c := .ref T.e_NothingLeft.C) (ts := fun a cls d => tRet (tTup (tCons (tXfA X.K a cls d "word" (tVar 1)) (tCons (tC .non) tNil)))) ⟨by rfl, by decide, .inl T.e_NothingLeft.g⟩ (fun a oe cls d pn zc dat => pss_one (ps_ret (pe_tup (pa_cons (pe_xfG (a := a) (oe := oe) (cls := cls) (d := d) List.mem_cons_self zc dat (pv 1)) (pa_cons pe_non pa_nil))))) .nil)))), ?_⟩
  · constructor
    intro pins s' σ H' D I h'
    obtain ⟨Ech, hW, h1, h2, h3⟩ := h'
    have asked := fun p1 p2 => act W pn xe Ech p1 p2 tk hW
    exact (pss_one (ps_ret (pe_tup (pa_cons pe_str (pa_cons (asked _ _) pa_nil))))).run pins s' σ H' D I ⟨h1, h2, h3⟩
  · exact ⟨by have := hr.dp; show X.A.depth + 1 + 3 * 1 + 5 < _; omega, by have := hr.un; show X.A.units + 3 + 16 * 1 + 200 < _; omega⟩
  · refine ⟨Raised X.K T.r_GrainError Q, fun cls d σ' H' hR => ?_, rfl, hc, h⟩
    obtain ⟨em, wd, fs, v, er, fv, q1⟩ := hR
    refine ⟨true, em, fun _ a na hl => ?_, fun z => nomatch z⟩
    have at1 : (σ'.set 1 (some (V.ref a)))[1]? = some (some (V.ref a)) := by
      rw [List.getElem?_set_self hl]
    refine ⟨_, at1, er.read er.wd ?_⟩
    refine ⟨_, at1, wd, fs, v, rfl, er, fv, fun H2 s2 => ⟨by show 2 ≤ sizeLine; decide, fun p hp => q1 _ p (s2.trans (same_new hp)) upd_same⟩⟩
end
/-! ### calls of a def with a star parameter -/
section
variable {X : Cx}
theorem pe_callR {CX : CXT} {k : Nat} {f : Addr} {sp : Sp} {E : XK} {x : Str} {p pos : Pos} {e : Expr} {es : List Expr} {t : TA}
    (F : FnR X.prog X.w X.K X.mg X.base CX k f sp) (hr : Room k X.A) (hg : Gl X x) (hm : X.mg x = some (.ref f)) (hk : PySem.W.keepIn X.K (.ref f) = true) (hx : Passes CX X E) (ha : PA X (e :: es) t)
    (hdb : (x == ("__debug__" : Str)) = false := by decide) (he : starEach (e :: es) X.env = (false, eval e X.env) :: starEach es X.env := by rfl)
    (hpl : (backTo pos (starEach es X.env)).any (·.1) = false := by rfl) :
    PE X (.Call (.Name x p) (e :: es) [] pos) (fun σ H Q => t σ H fun vs H1 => sp vs H1 Q E) :=
  ⟨fun pins s σ H Q I h => wpAny_Call_Name_kw (ld_glob I hg hm (PySem.W.callWith_K (h₀ := X.base) I.ok.mod.kin hk
    (thn (ha.run pos pins s σ H _ I h) fun us s1 ⟨vs, H1, I1, r, q⟩ => ⟨I1.kIn, wpAny_call (run_fnR F hr hx I1 r q)⟩) he hpl) hdb)⟩
theorem pe_callR0 {CX : CXT} {k : Nat} {f : Addr} {sp : Sp} {E : XK} {x : Str} {p pos : Pos}
    (F : FnR X.prog X.w X.K X.mg X.base CX k f sp) (hr : Room k X.A) (hg : Gl X x) (hm : X.mg x = some (.ref f)) (hk : PySem.W.keepIn X.K (.ref f) = true) (hx : Passes CX X E)
    (hdb : (x == ("__debug__" : Str)) = false := by decide) : PE X (.Call (.Name x p) [] [] pos) (fun _ H Q => sp [] H Q E) :=
  ⟨fun pins s σ H Q I h => wpAny_Call_Name_kw (ld_glob I hg hm (PySem.W.callWith_K0 I.kIn hk (wpAny_call (run_fnR (us := []) F hr hx I .nil h))) hdb)⟩
end
/-! ### lists of ints that comprehensions make -/
def Pt (H : Hp) (D : Addr) (ns : List Int) (i : Nat) (H' : Hp) : Prop := Same H H' ∧ H' D = some (.lst ((ns.take i).map V.int))
theorem pt_step {H H' : Hp} {D : Addr} {ns : List Int} {i : Nat} {z : Int} (h : Pt H D ns i H') (hD : H D = none) (hz : ns[i]? = some z) : Pt H D ns (i + 1) (upd H' D (.lst ((ns.take i).map V.int ++ [.int z]))) := by
  refine ⟨fun a o e => (upd_ne (ne_of_none e hD)).trans (h.1 a o e), ?_⟩
  rw [upd_same, List.take_add_one, hz, List.map_append]
  rfl
theorem pt_size {ns : List Int} {i : Nat} (h : ns.length ≤ 1000) : ((ns.take i).map V.int).length < sizeLine := by
  rw [List.length_map, List.length_take]
  exact small1000 (by omega)
theorem pt_end {H H' : Hp} {D : Addr} {ns : List Int} {i : Nat} (h : Pt H D ns i H') (hi : ns.length ≤ i) : Same H H' ∧ H' D = some (.lst (ns.map V.int)) := by
  have := h.2
  rw [List.take_of_length_le hi] at this
  exact ⟨h.1, this⟩
/-! ### pairs -/
def PairAt (K : PySem.W.Frag) (H : Hp) (v : V) (x y : Int) : Prop := ∃ t : Addr, v = .ref t ∧ SqT K H t [.int x, .int y]
theorem PairAt.same {K : PySem.W.Frag} {H H' : Hp} {v : V} {x y : Int} (h : PairAt K H v x y) (s : Same H H') : PairAt K H' v x y := by
  obtain ⟨t, e, h⟩ := h
  exact ⟨t, e, Evl.ex_t (show Evl.Ex H H' from s) h⟩
inductive PairsAt (K : PySem.W.Frag) (H : Hp) : List V → List (Int × Int) → Prop
  | nil : PairsAt K H [] []
  | cons {v : V} {vs : List V} {x y : Int} {ps : List (Int × Int)} : PairAt K H v x y → PairsAt K H vs ps → PairsAt K H (v :: vs) ((x, y) :: ps)
theorem PairsAt.get {K : PySem.W.Frag} {H : Hp} : ∀ {vs : List V} {ps : List (Int × Int)}, PairsAt K H vs ps → ∀ {i : Nat} {v : V}, vs[i]? = some v → ∃ x y, ps[i]? = some (x, y) ∧ PairAt K H v x y
  | _, _, .nil, i, v, h => by simp at h
  | _, _, .cons p t, 0, v, h => by cases h; exact ⟨_, _, rfl, p⟩
  | _, _, .cons p t, i + 1, v, h => t.get (i := i) (by simpa using h)
theorem PairsAt.same {K : PySem.W.Frag} {H H' : Hp} (s : Same H H') : ∀ {vs : List V} {ps : List (Int × Int)}, PairsAt K H vs ps → PairsAt K H' vs ps
  | _, _, .nil => .nil
  | _, _, .cons p t => .cons (p.same s) (t.same s)
theorem PairsAt.len {K : PySem.W.Frag} {H : Hp} : ∀ {vs : List V} {ps : List (Int × Int)}, PairsAt K H vs ps → vs.length = ps.length
  | _, _, .nil => rfl
  | _, _, .cons p t => congrArg Nat.succ t.len
def s1 (ps : List (Int × Int)) : Int := (ps.map (·.1)).sum
def s2 (ps : List (Int × Int)) : Int := (ps.map (·.2)).sum
/-- a new pair -/
def NewPair (H : Hp) (x y : Int) (Q : VK) : Prop := ∀ p H', H p = none → Same H H' → H' p = some (.tup [.int x, .int y]) → Q (.ref p) H'
/-! ### added -/
section
variable {base : Heap} {K : PySem.W.Frag} {mg : Str → Option Value} {P : Program} {w : World}
def spAdded (K : PySem.W.Frag) : Sp := fun vs H Q _ => ∃ ps : List (Int × Int), PairsAt K H vs ps ∧ ps.length ≤ 1000 ∧ NewPair H (s1 ps) (s2 ps) Q
def spAddedB (K : PySem.W.Frag) : Sp := fun vs H Q _ => ∃ (t : Addr) (xs : List V) (ps : List (Int × Int)), vs = [.ref t] ∧ H t = some (.tup xs) ∧ PairsAt K H xs ps ∧ ps.length ≤ 1000 ∧ NewPair H (s1 ps) (s2 ps) Q
theorem ok_added (T : Txt K mg) : FnR P w K mg base CX0 1 T.f_added (spAdded K) := by
  obtain ⟨o1, o2, v1, v2, v3, a1, v4, v5, sl1, e1, r1, r2⟩ := T.F_added.ex
  have r1' := r1
  rw [e1] at r1'
  refine FnR.imp (StX.fn_star (ps := []) (pv := "pairs") (sp := spAddedB K) (N := ["pairs", "a", "b"]) r1' r2 sc_added StX.cxUp_none ?_ ?_) ?_
  · intro us rest hu
    match us, rest, hu with
    | [], [], _ => rfl
    | [], _ :: _, _ => rfl
  · intro A outer s H vs Q E hr h
    obtain ⟨t, xs, ps, rfl, ht, hp, hn, q⟩ := h
    refine ⟨_, PSs.nox (pss_one (ps_ret (pe_tup (pa_cons (pe_callB (cr_sum rfl) (by rfl) T.n_sum (by decide +kernel) (pa_cons (pe_lc (own := [("a", 1), ("b", 2)]) (g := (gTup K 2 (gCons (gName 1) (gCons (gName 2) gNil)))) (tt := tYes) (by rfl) sc_added.nd (pi_tup (pv 0)) (blkOk_by (own := [("a", 1), ("b", 2)]) (N := ["pairs", "a", "b"]) (sc := defScope s_added) (by decide +kernel)) (fun _ _ _ _ _ => (pg_tup (by rfl) (pgs_cons (pg_name (i := 1) sc_added.nd rfl (Or.inl rfl)) (pgs_cons (pg_name (i := 2) sc_added.nd rfl (Or.inl rfl)) pgs_nil)))) (fun _ _ _ _ _ => pts_nil) (fun _ _ _ _ _ => (pv 1))) pa_nil)) (pa_cons (pe_callB (cr_sum rfl) (by rfl) T.n_sum (by decide +kernel) (pa_cons (pe_lc (own := [("a", 1), ("b", 2)]) (g := (gTup K 2 (gCons (gName 1) (gCons (gName 2) gNil)))) (tt := tYes) (by rfl) sc_added.nd (pi_tup (pv 0)) (blkOk_by (own := [("a", 1), ("b", 2)]) (N := ["pairs", "a", "b"]) (sc := defScope s_added) (by decide +kernel)) (fun _ _ _ _ _ => (pg_tup (by rfl) (pgs_cons (pg_name (i := 1) sc_added.nd rfl (Or.inl rfl)) (pgs_cons (pg_name (i := 2) sc_added.nd rfl (Or.inl rfl)) pgs_nil)))) (fun _ _ _ _ _ => pts_nil) (fun _ _ _ _ _ => (pv 2))) pa_nil)) pa_nil))))), ?_⟩
    have hl := hp.len
    refine ⟨_, rfl, t, rfl, ⟨_, SqT.of ht⟩, fun D hD => lc_tup (K := K) (a := t) (xs := xs) (Pt H D (ps.map (·.1))) ⟨same_new hD, upd_same⟩ (fun i H' _ h => SqT.of (h.1 _ _ ht)) (fun i x H' hx hP => ?_) (fun H1 hP => ?_)⟩
    · obtain ⟨c, e, hc, u, rfl, hu⟩ := hp.get hx
      refine ⟨u, _, rfl, Evl.ex_t (show Evl.Ex H H' from hP.1) hu, rfl, .int c, [.int e], rfl, .int e, [], rfl, rfl, rfl, ⟨_, rfl, _, hP.2, pt_size (by rw [List.length_map]; exact hn), pt_step hP hD ?_⟩⟩
      rw [List.getElem?_map, hc]
      rfl
    obtain ⟨e1, f1⟩ := pt_end hP (by rw [List.length_map]; omega)
    refine ⟨D, _, rfl, SqL.of f1, ?_⟩
    refine ⟨_, rfl, t, rfl, ⟨_, SqT.of (e1 _ _ ht)⟩, fun D2 hD2 => lc_tup (K := K) (a := t) (xs := xs) (Pt H1 D2 (ps.map (·.2))) ⟨same_new hD2, upd_same⟩ (fun i H' _ h => SqT.of (h.1 _ _ (e1 _ _ ht))) (fun i x H' hx hP => ?_) (fun H2 hP => ?_)⟩
    · obtain ⟨c, e, hc, u, rfl, hu⟩ := hp.get hx
      refine ⟨u, _, rfl, Evl.ex_t (show Evl.Ex H H' from e1.trans hP.1) hu, rfl, .int c, [.int e], rfl, .int e, [], rfl, rfl, rfl, ⟨_, rfl, _, hP.2, pt_size (by rw [List.length_map]; exact hn), pt_step hP hD2 ?_⟩⟩
      rw [List.getElem?_map, hc]
      rfl
    obtain ⟨e2, f2⟩ := pt_end hP (by rw [List.length_map]; omega)
    exact ⟨D2, _, rfl, SqL.of f2, by show 2 ≤ sizeLine; decide, fun p hp => q p _ ((e1.trans e2).free hp) ((e1.trans e2).trans (same_new hp)) upd_same⟩
  · rintro vs H Q E ⟨ps, hp, hl, q⟩
    refine ⟨[], vs, rfl, rfl, Nat.le_of_lt (small1000 (by rw [hp.len]; exact hl)), fun p hpn => ⟨p, vs, ps, rfl, upd_same, hp.same (same_new hpn), hl, fun p' H' hp' sm h' => ?_⟩⟩
    exact q p' H' ((same_new hpn).free hp') ((same_new hpn).trans sm) h'
end
/-! ### scaled -/
section
variable {base : Heap} {K : PySem.W.Frag} {mg : Str → Option Value} {P : Program} {w : World}
def spScaled (K : PySem.W.Frag) : Sp := fun vs H Q _ => ∃ (v : V) (x y n : Int), vs = [v, .int n] ∧ PairAt K H v x y ∧ x.natAbs < 2 ^ 9000 ∧ y.natAbs < 2 ^ 9000 ∧ n.natAbs < 2 ^ 9000 ∧ NewPair H (x * n) (y * n) Q
theorem ok_scaled (T : Txt K mg) : FnOk P w K mg base CX0 1 T.f_scaled T.d_scaled ["pair", "number"] (spScaled K) := by
  refine T.F_scaled.ok sc_scaled (fun vs H Q E h => ?_) (fun cdv A outer s H vs Q E hr h => ?_)
  · obtain ⟨v, x, y, n, rfl, _⟩ := h
    rfl
  · obtain ⟨v, x, y, n, rfl, ⟨t, rfl, ht⟩, x1, y1, n1, q⟩ := h
    refine ⟨_, (pss_cons (ps_asg (pv 0) (pg_tup (by rfl) (pgs_cons (pg_name (i := 2) sc_scaled.nd rfl (Or.inl rfl)) (pgs_cons (pg_name (i := 3) sc_scaled.nd rfl (Or.inl rfl)) pgs_nil))))
      (pss_one (ps_ret (pe_tup (pa_cons (pe_op op_mulW (pv 2) (pv 1)) (pa_cons (pe_op op_mulW (pv 3) (pv 1)) pa_nil)))))), ?_⟩
    refine ⟨_, rfl, t, _, rfl, ht, rfl, .int x, [.int y], rfl, .int y, [], rfl, rfl, ?_⟩
    exact ⟨_, rfl, _, rfl, x, n, rfl, rfl, wide_mul x1 n1 (by decide) (by decide) (by decide), _, rfl, _, rfl, y, n, rfl, rfl, wide_mul y1 n1 (by decide) (by decide) (by decide), by show 2 ≤ sizeLine; decide, fun p hp => q p _ hp (same_new hp) upd_same⟩
end
/-! ### a <= b <= c <= d, as a test -/
section
variable {X : Cx} {a b c e : Expr} {ta tb tc te : TE} {pos : Pos}
def tChain3 (r1 r2 r3 : R2) (ta tb tc te : TE) : TT := fun σ H Q => ta σ H fun x H1 => tb σ H1 fun y H2 => r1 x y H2 fun z H3 => ∃ k, z = .bl k ∧
  (if k = true then tc σ H3 fun u H4 => r2 y u H4 fun z2 H5 => ∃ k2, z2 = .bl k2 ∧ (if k2 = true then te σ H5 fun v H6 => r3 u v H6 fun z3 H7 => ∃ k3, z3 = .bl k3 ∧ Q k3 H7 else Q false H5) else Q false H3)
theorem pt_chain3 {o1 o2 o3 : CmpOp} {r1 r2 r3 : R2} (h1 : OpR X (compareOp o1) r1) (h2 : OpR X (compareOp o2) r2) (h3 : OpR X (compareOp o3) r3) (ha : PE X a ta) (hb : PE X b tb) (hc : PE X c tc) (he : PE X e te)
    (hm : lastMarks [o1, o2, o3] [b, c, e] = false := by with_unfolding_all rfl) : PT X (.Compare a [o1, o2, o3] [b, c, e] pos) (tChain3 r1 r2 r3 ta tb tc te) := by
  refine ⟨fun pins s σ H Q I h => ?_⟩
  refine isTrue_chain (thn (ha.run pins s σ H _ I h) fun v s1 ⟨x, H1, I1, p1, q1⟩ => ?_) hm
  refine test_link (thn (hb.run pins s1 σ H1 _ I1 q1) fun u s2 ⟨y, H2, I2, p2, q2⟩ => ?_)
  refine thn (h1 pins s2 σ H2 x y v u _ I2 p1 p2 q2) fun d s3 ⟨z, H3, I3, p3, k, ek, q3⟩ => ?_
  subst ek
  cases p3
  refine wpAny_truthy_bool ?_
  cases k with
  | false => exact ite_ff ⟨H3, I3, q3⟩
  | true =>
    refine ite_tt (test_link (thn (hc.run pins s3 σ H3 _ I3 q3) fun u2 s4 ⟨y2, H4, I4, p4, q4⟩ => ?_))
    refine thn (h2 pins s4 σ H4 y y2 u u2 _ I4 p2 p4 q4) fun d2 s5 ⟨z2, H5, I5, p5, k2, ek2, q5⟩ => ?_
    subst ek2
    cases p5
    refine wpAny_truthy_bool ?_
    cases k2 with
    | false => exact ite_ff ⟨H5, I5, q5⟩
    | true =>
      refine ite_tt (test_last (thn (he.run pins s5 σ H5 _ I5 q5) fun u3 s6 ⟨y3, H6, I6, p6, q6⟩ => ?_))
      refine thn (h3 pins s6 σ H6 y2 y3 u2 u3 _ I6 p4 p6 q6) fun d3 s7 ⟨z3, H7, I7, p7, k3, ek3, q7⟩ => ?_
      subst ek3
      cases p7
      exact wpAny_truthy_bool ⟨H7, I7, q7⟩
end
/-! ### reduced -/
theorem rb_up {n m : Nat} {x : Int} (h1 : x.natAbs < 2 ^ n) (h : n ≤ m) : x.natAbs < 2 ^ m := Nat.lt_of_lt_of_le h1 (Nat.pow_le_pow_right (by decide) h)
theorem rb_2 {n : Nat} {x : Int} (h1 : x.natAbs < 2 ^ n) : (2 * x).natAbs < 2 ^ (n + 1) := by
  rw [Nat.pow_succ]
  omega
theorem rb_sub {n : Nat} {x y : Int} (h1 : x.natAbs < 2 ^ n) (h2 : y.natAbs < 2 ^ n) : (x - y).natAbs < 2 ^ (n + 1) := by
  rw [Nat.pow_succ]
  omega
theorem rb_le {n : Nat} {x y : Int} (h0 : 0 ≤ x) (h : x ≤ y) (h1 : y.natAbs < 2 ^ n) : x.natAbs < 2 ^ n := by omega
/-- the multiple that is taken away -/
theorem many_bd {a b : Int} {n : Nat} (ha : 0 < a) (a1 : a.natAbs < 2 ^ n) (b1 : b.natAbs < 2 ^ n) : ((2 * b + a) / (2 * a)).natAbs < 2 ^ (n + 2) := by
  have h := turn_b (b := b) ha
  generalize (2 * b + a) / (2 * a) = m at h
  rw [Nat.pow_succ, Nat.pow_succ]
  have h1 : (m * a).natAbs < 2 ^ n * 2 * 2 := by omega
  have h2 : m.natAbs * 1 ≤ m.natAbs * a.natAbs := Nat.mul_le_mul_left _ (by omega)
  rw [Int.natAbs_mul] at h1
  omega
/-- the loop's run, as a relation -/
inductive Runs : Int → Int → Int → Int → Int → Int → Int → List Int → Prop
  | stop {a b c x y z w k b' c' z' w' : Int} : (2 * b + a) / (2 * a) = k → b - k * a = b' → c - k * (2 * b - k * a) = c' → z + x * -k = z' → w + y * -k = w' → a ≤ c' → Runs a b c x y z w [a, b', c', x, y, z', w']
  | step {a b c x y z w k b' c' z' w' : Int} {r : List Int} : (2 * b + a) / (2 * a) = k → b - k * a = b' → c - k * (2 * b - k * a) = c' → z + x * -k = z' → w + y * -k = w' → ¬ a ≤ c' → Runs c' b' a z' w' x y r → Runs a b c x y z w r
theorem Runs.one {a b c x y z w : Int} {r r' : List Int} (h : Runs a b c x y z w r) (h' : Runs a b c x y z w r') : r = r' := by
  induction h generalizing r' with
  | stop e1 e2 e3 e4 e5 l =>
    cases h' with
    | stop f1 f2 f3 f4 f5 l' =>
      subst e1; subst f1; subst e2; subst f2; subst e3; subst f3; subst e4; subst f4; subst e5; subst f5
      rfl
    | step f1 f2 f3 f4 f5 l' t =>
      subst e1; subst f1; subst e3; subst f3
      exact absurd l l'
  | step e1 e2 e3 e4 e5 l t ih =>
    cases h' with
    | stop f1 f2 f3 f4 f5 l' =>
      subst e1; subst f1; subst e3; subst f3
      exact absurd l' l
    | step f1 f2 f3 f4 f5 l' t' =>
      subst e1; subst f1; subst e2; subst f2; subst e3; subst f3; subst e4; subst f4; subst e5; subst f5
      exact ih t'
def Gives (A B C a b c x y z w : Int) : Prop := ∃ b0 z0 w0, Runs A B C 1 0 0 1 [a, b0, c, x, y, z0, w0] ∧ ((b0 < 0 ∧ b = -b0 ∧ z = z0 * -1 ∧ w = w0 * -1) ∨ (¬ b0 < 0 ∧ b = b0 ∧ z = z0 ∧ w = w0))
theorem Gives.one {A B C a b c x y z w a' b' c' x' y' z' w' : Int} (h : Gives A B C a b c x y z w) (h' : Gives A B C a' b' c' x' y' z' w') : a = a' ∧ b = b' ∧ c = c' ∧ x = x' ∧ y = y' ∧ z = z' ∧ w = w' := by
  obtain ⟨b0, z0, w0, r, s⟩ := h
  obtain ⟨b1, z1, w1, r', s'⟩ := h'
  have e := r.one r'
  simp only [List.cons.injEq, and_true] at e
  obtain ⟨rfl, rfl, rfl, rfl, rfl, rfl, rfl⟩ := e
  rcases s with ⟨l, rfl, rfl, rfl⟩ | ⟨l, rfl, rfl, rfl⟩ <;> rcases s' with ⟨l', rfl, rfl, rfl⟩ | ⟨l', rfl, rfl, rfl⟩
  · exact ⟨rfl, rfl, rfl, rfl, rfl, rfl, rfl⟩
  · exact absurd l l'
  · exact absurd l' l
  · exact ⟨rfl, rfl, rfl, rfl, rfl, rfl, rfl⟩
section
variable {base : Heap} {K : PySem.W.Frag} {mg : Str → Option Value} {P : Program} {w : World}
structure RedAt (H : Hp) (p f o1 o2 : Addr) (a b c x y z w : Int) : Prop where
  hp : H p = some (.tup [.ref f, .ref o1, .ref o2])
  hf : H f = some (.tup [.int a, .int b, .int c])
  h1 : H o1 = some (.tup [.int x, .int y])
  h2 : H o2 = some (.tup [.int z, .int w])
structure RedOf (A B C a b c x y z w : Int) : Prop where
  red : IsRed a b c
  frm : IsForm a b c
  uni : Uni x y z w
  led : Led A B C x y z w a b c
  run : Gives A B C a b c x y z w
  bx : x.natAbs < 2 ^ 300
  bY : y.natAbs < 2 ^ 300
  bz : z.natAbs < 2 ^ 300
  bw : w.natAbs < 2 ^ 300
  ba : a.natAbs < 2 ^ 300
  bb : b.natAbs < 2 ^ 300
  bc : c.natAbs < 2 ^ 300
theorem RedOf.feq {A B C a b c x y z w : Int} (h : RedOf A B C a b c x y z w) : FEq A B C a b c := ⟨x, y, z, w, h.uni, h.led⟩
def badForm : List (Str × V) := [("word", .str "BadForm")]
def spReduced (T : Txt K mg) : Sp := fun vs H Q E => ∃ (t : Addr) (A B C : Int), vs = [.ref t] ∧ SqT K H t [.int A, .int B, .int C] ∧ A.natAbs < 2 ^ 300 ∧ B.natAbs < 2 ^ 300 ∧ C.natAbs < 2 ^ 300 ∧
  (¬ IsForm A B C → ∀ d Hf, H d = none → Same H Hf → Hf d = some (.xd badForm) → E (.ref T.e_BadForm.C) (some d) Hf) ∧ (IsForm A B C → ∀ p f o1 o2 a b c x y z w H', H p = none → Same H H' → RedAt H' p f o1 o2 a b c x y z w → RedOf A B C a b c x y z w → Q (.ref p) H')
structure WRed (t : Addr) (A B C : Int) (H : Hp) (m : Nat) (σ : L2.St) (H' : Hp) (a b c x y z w : Int) (o1 o2 : Addr) (y6 : Option V) : Prop where
  st : σ = [some (.ref t), some (.int a), some (.int b), some (.int c), some (.ref o1), some (.ref o2), y6]
  sm : Same H H'
  h1 : H' o1 = some (.tup [.int x, .int y])
  h2 : H' o2 = some (.tup [.int z, .int w])
  uni : Uni x y z w
  led : Led A B C x y z w a b c
  ba : a.natAbs < 2 ^ 300
  bb : b.natAbs < 2 ^ 300
  bc : c.natAbs < 2 ^ 300
  m : m = a.toNat
  run : ∀ r, Runs a b c x y z w r → Runs A B C 1 0 0 1 r
theorem ok_reduced (T : Txt K mg) : FnOk PySem.Challenge.pw_grainyard_k47_reduced_forms w K mg base (L2.CX PySem.Challenge.pw_grainyard_k47_reduced_forms w) 3 T.f_reduced T.d_reduced ["form"] (spReduced T) := by
  refine T.F_reduced.okX sc_reduced (fun vs H Q E h => ?_) (fun cdv A outer s H vs Q E hr h => ?_)
  · obtain ⟨t, A, B, C, rfl, _⟩ := h
    rfl
  · obtain ⟨t, A, B, C, rfl, hT, bA, bB, bC, qE, q⟩ := h
    refine ⟨_, (pss_cons (ps_asg (pv 0) (pg_tup (by rfl) (pgs_cons (pg_name (i := 1) sc_reduced.nd rfl (Or.inl rfl)) (pgs_cons (pg_name (i := 2) sc_reduced.nd rfl (Or.inl rfl)) (pgs_cons (pg_name (i := 3) sc_reduced.nd rfl (Or.inl rfl)) pgs_nil)))))
      (pss_cons (ps_if (PW.pt (pw_or (pt_cmpR op_le (pv 1) pe_int (nomark _)) (pw_or1 (pt_cmpR op_le (pe_op op_mulW (pv 1) (pv 3)) (pe_op op_mulW (pv 2) (pv 2)) (nomark _))))) (pss_one (ps_raise rfl (takes_of rfl rfl rfl rfl) (pmkE0 erb_VE T.e_BadForm.T.ox T.e_BadForm.iC T.e_BadForm.tI (ini_BadForm T) (hr.mono (by decide)) (bi_BadForm T) .nil pass0 (by rfl) T.e_BadForm.g))) pss_nil)
      (PSs.nox (pss_cons (ps_asg (pe_tup (pa_cons (pe_tup (pa_cons pe_int (pa_cons pe_int pa_nil))) (pa_cons (pe_tup (pa_cons pe_int (pa_cons pe_int pa_nil))) pa_nil))) (pg_tup (by rfl) (pgs_cons (pg_name (i := 4) sc_reduced.nd rfl (Or.inl rfl)) (pgs_cons (pg_name (i := 5) sc_reduced.nd rfl (Or.inl rfl)) pgs_nil))))
      (pss_cons (ps_while PassesOwn.never (pt_val pe_bl) (pss_cons (ps_set (i := 6) sc_reduced.nd rfl (Or.inl rfl) (pe_op op_fdivW (pe_op op_add (pe_op op_mul pe_int (pv 2)) (pv 1)) (pe_op op_mul pe_int (pv 1))))
      (pss_cons (ps_par3 (i := 2) (j := 3) (l := 5) (by rfl) sc_reduced.nd rfl rfl rfl (by decide) (by decide) (by decide) rfl rfl rfl (pa_cons (pe_op op_sub (pv 2) (pe_op op_mulW (pv 6) (pv 1))) (pa_cons (pe_op op_sub (pv 3) (pe_op op_mulW (pv 6) (pe_op op_sub (pe_op op_mul pe_int (pv 2)) (pe_op op_mulW (pv 6) (pv 1))))) (pa_cons (pe_callR (ok_added T) (hr.mono (by decide)) (by rfl) T.g_added T.F_added.kp pass0 (pa_cons (pv 5) (pa_cons (pe_call (ok_scaled T) (hr.mono (by decide)) (by rfl) T.g_scaled T.F_scaled.kp T.b_scaled .nil pass0 (pa_cons (pv 4) (pa_cons (pe_un un_neg (pv 6)) pa_nil))) pa_nil))) pa_nil))) (by rfl))
      (pss_cons (ps_if (pt_cmpR op_le (pv 1) (pv 3) (nomark _)) (pss_one ps_break) pss_nil)
      (pss_one (ps_asg (pe_tup (pa_cons (pv 3) (pa_cons (pv 1) (pa_cons (pv 5) (pa_cons (pv 4) pa_nil))))) (pg_tup (by rfl) (pgs_cons (pg_name (i := 1) sc_reduced.nd rfl (Or.inl rfl)) (pgs_cons (pg_name (i := 3) sc_reduced.nd rfl (Or.inl rfl)) (pgs_cons (pg_name (i := 4) sc_reduced.nd rfl (Or.inl rfl)) (pgs_cons (pg_name (i := 5) sc_reduced.nd rfl (Or.inl rfl)) pgs_nil)))))))))))
      (pss_cons (ps_if (pt_cmpR op_lt (pv 2) pe_int (nomark _)) (pss_one (ps_ret (pe_tup (pa_cons (pe_tup (pa_cons (pv 1) (pa_cons (pe_un un_neg (pv 2)) (pa_cons (pv 3) pa_nil)))) (pa_cons (pv 4) (pa_cons (pe_call (ok_scaled T) (hr.mono (by decide)) (by rfl) T.g_scaled T.F_scaled.kp T.b_scaled .nil pass0 (pa_cons (pv 5) (pa_cons (pe_un un_neg pe_int) pa_nil))) pa_nil)))))) pss_nil)
      (pss_one (ps_ret (pe_tup (pa_cons (pe_tup (pa_cons (pv 1) (pa_cons (pv 2) (pa_cons (pv 3) pa_nil)))) (pa_cons (pv 4) (pa_cons (pv 5) pa_nil)))))))))))), ?_⟩
    refine ⟨_, rfl, t, _, rfl, hT, rfl, .int A, _, rfl, .int B, _, rfl, .int C, _, rfl, rfl, ?_⟩
    refine ⟨_, rfl, A, 0, rfl, rfl, _, rfl, ite2 (fun e => ?_) (fun f1 => ?_)⟩
    · exact fun d Hf hd s1 g1 => qE (fun F => absurd (of_decide_eq_true e) (by have := F.1; omega)) d Hf hd s1 g1
    refine ⟨_, rfl, _, rfl, A, C, rfl, rfl, wide_mul bA bC (by decide) (by decide) (by decide), _, rfl, _, rfl, B, B, rfl, rfl, wide_mul bB bB (by decide) (by decide) (by decide), _, _, rfl, rfl, _, rfl, ite2 (fun e => ?_) (fun f2 => ?_)⟩
    · exact fun d Hf hd s1 g1 => qE (fun F => absurd (of_decide_eq_true e) (by have := F.2; omega)) d Hf hd s1 g1
    have F : IsForm A B C := ⟨by have : ¬ A ≤ 0 := fun z => f1 (decide_eq_true z)
                                 omega, by have : ¬ A * C ≤ B * B := fun z => f2 (decide_eq_true z)
                                           omega⟩
    have q := q F
    refine ⟨by show 2 ≤ sizeLine; decide, fun p1 n1 => ⟨by show 2 ≤ sizeLine; decide, fun p2 n2 => ⟨by show 2 ≤ sizeLine; decide, fun p3 n3 => ⟨p3, _, rfl, SqT.of upd_same, rfl, .ref p1, _, rfl, .ref p2, _, rfl, rfl, ?_⟩⟩⟩⟩
    have e1 := same_new (o := .tup [.int 1, .int 0]) n1
    have e2 := same_new (o := .tup [.int 0, .int 1]) n2
    have e3 := same_new (o := .tup [.ref p1, .ref p2]) n3
    refine ⟨fun m σ H' => ∃ a b c x y z w o1 o2 y6, WRed t A B C H m σ H' a b c x y z w o1 o2 y6, ⟨_, A, B, C, 1, 0, 0, 1, p1, p2, none, rfl, e1.trans (e2.trans e3), (e2.trans e3) _ _ upd_same, e3 _ _ upd_same, .inl (by decide), ⟨by unfold fval; grind, by unfold fmid; grind, by unfold fval; grind⟩, bA, bB, bC, rfl, fun _ h => h⟩, ?_⟩
    rintro m σ H1 ⟨a, b, c, x, y, z, w, o1, o2, y6, rfl, sm, h1, h2, uni, led, ba, bb, bc, rfl, run⟩
    have F1 := led_form F uni led
    have a0 := F1.1
    have tb := turn_b (b := b) a0
    have mb := many_bd a0 ba bb
    have tc := turn_c (c := c) a0 tb.1 tb.2
    have l2 := turn_led (m := (2 * b + a) / (2 * a)) led
    have u2 := turn_uni (m := (2 * b + a) / (2 * a)) uni
    have F2 := led_form F u2 l2
    have bxy := form_bd (x := x) (y := y) F bA bC (by rw [← led.1]; exact ba) (by rw [← led.1]; omega)
    refine ⟨true, rfl, iteT ⟨fun σ' H' => ∃ m', m' < a.toNat ∧ ∃ a b c x y z w o1 o2 y6, WRed t A B C H m' σ' H' a b c x y z w o1 o2 y6, fun _ _ k => k, ?_⟩⟩
    refine ⟨_, rfl, 2, b, rfl, rfl, .inl ⟨by decide, by decide⟩, _, rfl, _, a, rfl, rfl, _, rfl, 2, a, rfl, rfl, .inl ⟨by decide, by decide⟩, _, _, rfl, rfl, wide_div (show 0 < 2 * a by omega) (rb_2 ba) (by decide) (by decide), ?_⟩
    dsimp only
    generalize hk : (2 * b + a) / (2 * a) = k at tb mb tc l2 u2 F2 ⊢
    have bka : (k * a).natAbs < 2 ^ (302 + 300) := wide_lt mb ba
    refine ⟨_, rfl, _, rfl, _, rfl, k, a, rfl, rfl, wide_mul mb ba (by decide) (by decide) (by decide), b, _, rfl, rfl, ?_⟩
    refine ⟨_, rfl, _, rfl, _, rfl, 2, b, rfl, rfl, .inl ⟨by decide, by decide⟩, _, rfl, _, rfl, k, a, rfl, rfl, wide_mul mb ba (by decide) (by decide) (by decide), _, _, rfl, rfl, k, _, rfl, rfl, wide_mul mb (rb_sub (rb_up (rb_2 bb) (show 300 + 1 ≤ 302 + 300 by decide)) bka) (by decide) (by decide) (by decide), c, _, rfl, rfl, ?_⟩
    refine ⟨_, rfl, _, rfl, _, rfl, k, rfl, .ref o1, x, y, -k, rfl, ⟨o1, rfl, SqT.of h1⟩, rb_up bxy.1 (by decide), rb_up bxy.2 (by decide), by rw [Int.natAbs_neg]; exact rb_up mb (by decide), fun p4 H2 n4 e4 f4 => ?_⟩
    refine ⟨_, .cons ⟨o2, rfl, SqT.of (e4 _ _ h2)⟩ (.cons ⟨p4, rfl, SqT.of f4⟩ .nil), by simp, fun p5 H3 n5 e5 f5 => ?_⟩
    have u5 : Gy.s1 [(z, w), (x * -k, y * -k)] = z + x * -k := by simp [Gy.s1]
    have v5 : Gy.s2 [(z, w), (x * -k, y * -k)] = w + y * -k := by simp [Gy.s2]
    rw [u5, v5] at f5
    refine ⟨_, _, _, rfl, ?_⟩
    dsimp only
    have c0 := form_c F2
    have bc2 : (c - k * (2 * b - k * a)).natAbs < 2 ^ 300 := rb_le (by omega) tc bc
    have bb2 : (b - k * a).natAbs < 2 ^ 300 := by omega
    have bzw := form_bd (x := z + x * -k) (y := w + y * -k) F bA bC (by rw [← l2.2.2]; exact bc2) (by rw [← l2.2.2]; omega)
    have sm3 := sm.trans (e4.trans e5)
    have g1 := (e4.trans e5) _ _ h1
    generalize g2 : b - k * a = b' at *
    generalize g3 : c - k * (2 * b - k * a) = c' at *
    generalize g4 : z + x * -k = z' at *
    generalize g5 : w + y * -k = w' at *
    refine ⟨_, rfl, _, rfl, a, c', rfl, rfl, _, rfl, ite2 (fun e => ?_) (fun e => ?_)⟩
    · have hac : a ≤ c' := of_decide_eq_true e
      refine ⟨_, rfl, b', 0, rfl, rfl, _, rfl, ite2 (fun e6 => ?_) (fun e6 => ?_)⟩
      · have hb : b' < 0 := of_decide_eq_true e6
        refine ⟨_, rfl, _, rfl, b', rfl, _, rfl, by show 3 ≤ sizeLine; decide, fun f nf => ?_⟩
        have ef := same_new (o := .tup [.int a, .int (-b'), .int c']) nf
        refine ⟨_, rfl, _, rfl, 1, rfl, .ref p5, z', w', -1, rfl, ⟨p5, rfl, SqT.of (ef _ _ f5)⟩, rb_up bzw.1 (by decide), rb_up bzw.2 (by decide), rb_up (show (-1 : Int).natAbs < 2 ^ 10 by decide) (by decide), fun p6 H4 n6 e6' f6 => ?_⟩
        refine ⟨by show 3 ≤ sizeLine; decide, fun p np => ?_⟩
        have ep := same_new (o := .tup [.ref f, .ref o1, .ref p6]) np
        refine q p f o1 p6 a (-b') c' x y (z' * -1) (w' * -1) _ ((sm3.trans (ef.trans e6')).free np) (sm3.trans (ef.trans (e6'.trans ep))) ⟨upd_same, (e6'.trans ep) _ _ upd_same, (ef.trans (e6'.trans ep)) _ _ g1, ep _ _ f6⟩ ⟨⟨by omega, by omega, hac⟩, led_form F (neg_uni u2) (neg_led l2), neg_uni u2, neg_led l2, ⟨b', z', w', run _ (.stop hk g2 g3 g4 g5 hac), .inl ⟨hb, rfl, rfl, rfl⟩⟩, bxy.1, bxy.2, by omega, by omega, ba, by omega, bc2⟩
      · have hb : ¬ b' < 0 := fun z => e6 (decide_eq_true z)
        refine ⟨_, rfl, _, rfl, _, rfl, by show 3 ≤ sizeLine; decide, fun f nf => ?_⟩
        have ef := same_new (o := .tup [.int a, .int b', .int c']) nf
        refine ⟨_, rfl, _, rfl, by show 3 ≤ sizeLine; decide, fun p np => ?_⟩
        have ep := same_new (o := .tup [.ref f, .ref o1, .ref p5]) np
        refine q p f o1 p5 a b' c' x y z' w' _ ((sm3.trans ef).free np) (sm3.trans (ef.trans ep)) ⟨upd_same, ep _ _ upd_same, (ef.trans ep) _ _ g1, (ef.trans ep) _ _ f5⟩ ⟨⟨by omega, by omega, hac⟩, F2, u2, l2, ⟨b', z', w', run _ (.stop hk g2 g3 g4 g5 hac), .inr ⟨hb, rfl, rfl, rfl⟩⟩, bxy.1, bxy.2, bzw.1, bzw.2, ba, bb2, bc2⟩
    · have hac : ¬ a ≤ c' := fun z => e (decide_eq_true z)
      refine ⟨_, rfl, _, rfl, _, rfl, _, rfl, by show 4 ≤ sizeLine; decide, fun p np => ?_⟩
      have ep := same_new (o := .tup [.int c', .int a, .ref p5, .ref o1]) np
      refine ⟨p, _, rfl, SqT.of upd_same, rfl, .int c', _, rfl, .int a, _, rfl, .ref p5, _, rfl, .ref o1, _, rfl, rfl, ?_⟩
      exact ⟨c'.toNat, by omega, c', b', a, z', w', x, y, p5, o1, _, rfl, sm3.trans ep, ep _ _ f5, ep _ _ g1, swap_uni u2, swap_led l2, bc2, bb2, ba, rfl, fun r h => run r (.step hk g2 g3 g4 g5 hac h)⟩
end
/-! ### what is asked of the def that asks -/
section
variable {X : Cx} {k : Nat} {c P0 : Addr} {params : Arguments} {body d : Expr} {v0 : V} {scope : Scope} {t : XK → TE} {p lpos pos : Pos} {b : Str}
theorem one_tab {P0 : Addr} {q : Str} : ∀ p ∈ [(P0, q)], p.1 = P0 → p.2 = q := by
  intro p hp _
  rw [List.mem_singleton.mp hp]
theorem pe_try (T : Txt X.K X.mg) (hg : Gl X "_law_try") (TB : LamX.TabB X.base X.mg c P0) (hcode : X.env.code = .ref c) (hr : Room (k + 3) X.A) (L : LamX.LamS X.env.scope scope) (hdef : defaultsOf params X.env = ([], []))
    (hbind : ∀ (q : Str) (cl : List (Str × Addr)) (pm cv ctv : Value), bindArgs (PySem.W.kla_fn "<lambda>" q params body scope cl pm cv ctv) ⟨[], []⟩ = pure [])
    (hbody : ∀ (A : Around) (outer : List Env) (s : Shared) (H : Hp) (E : XK) (f c' : Addr), Room (k + 1) (A.deeper (LamX.lamEnv X scope s.heap.objs.size f c')) → PE (LamX.lamCx X A outer s H E scope f c') body (t E)) :
    PE X (.Call (.Name "_law_try" p) [.Lambda params body scope lpos] [] pos) (LamX.tLam [(P0, X.env.qual ++ "<lambda>")] (TTry X.K T.r_GrainError) t) := by
  obtain ⟨oc2, od2, kV2, doc2, pm2, an2, cdv2, ct2, osl2, eT, lkT, cdT⟩ := T.F_try.ex
  have bT := T.b_try
  rw [eT] at bT
  rw [eT] at lkT
  exact LamX.pe_lamcall hg T.g_try T.F_try.kp lkT cdT bT sc_try rfl (Or.inl rfl) (try_gives T rfl rfl (k := k) hr) TB hcode (List.mem_singleton.mpr rfl) one_tab hr L hdef hbind hbody
theorem pass_never {X : Cx} {P : Program} {w : World} : Passes (L2.CX P w) X (fun _ _ _ => False) := by
  intro pins σ H s e s' I z
  obtain ⟨_, _, _, _, _, _, _, _, _, _, _, _, he⟩ := z
  exact he.elim
end
/-! ### an error of the first kind, told -/
section
variable {P : Program} {K : PySem.W.Frag} {mg : Str → Option Value} {G : Addr} {st : Stmt} {nm qual : Str} {B newId initId : String} {bmB : List Value}
theorem exm_er (T : Er P K mg B newId initId bmB [.ref G] st nm qual) {cg : ClassData} (hg : PySem.W.clsIn K G = some cg) (tg : PySem.W.typeIn K (.ref G) = some (.type "type")) (sb : PySem.W.subIn K (.ref G) (.type "BaseException") = some true) : PySem.W.exmOne K (.ref T.C) (.ref G) = some true := by
  unfold PySem.W.exmOne
  rw [if_pos (by rw [sb]; rfl)]
  unfold PySem.W.kitCls
  dsimp only
  rw [hg, tg, if_pos (show ((some cg).isSome && some (Value.type "type") == some (Value.type "type")) = true from show (true && some (Value.type "type") == some (Value.type "type")) = true by decide +kernel)]
  show PySem.W.mroIn K T.C (.ref G) = _
  obtain ⟨cd, hc, _, hm⟩ := T.cl
  unfold PySem.W.mroIn
  rw [hc, Option.bind_some, hm]
  show some ((Value.ref T.C :: ([Value.ref G] ++ _)).contains (.ref G)) = some true
  congr 1
  rw [List.contains_cons, List.cons_append, List.contains_cons, beq_self_eq_true]
  simp
theorem raised_er (T : Er P K mg B newId initId bmB [.ref G] st nm qual) {cg : ClassData} (hg : PySem.W.clsIn K G = some cg) (tg : PySem.W.typeIn K (.ref G) = some (.type "type")) (sb : PySem.W.subIn K (.ref G) (.type "BaseException") = some true)
    {w : Str} {fs : List (Str × V)} {v : V} (no : ∀ f v, fs.lookup f = some v → PySem.W.findIn K (.ref T.C) f = some none) (wd : fs.lookup ("word" : Str) = some (.str w)) (fv : fieldVal w fs = some v)
    {Q : VK} {d : Addr} {Hf : Hp} (hd : Hf d = some (.xd fs)) (q : Told Q w v Hf) : Raised K G Q (.ref T.C) (some d) Hf :=
  ⟨exm_er T hg tg sb, w, fs, v, ⟨⟨_, d, rfl, rfl, xfc_of T, hd, no⟩, wd⟩, fv, q⟩
theorem no_two {C : Addr} {f1 : Str} {v1 v2 : V} (h1 : PySem.W.findIn K (.ref C) f1 = some none) (h2 : PySem.W.findIn K (.ref C) "word" = some none) : ∀ f v, List.lookup f [(f1, v1), (("word" : Str), v2)] = some v → PySem.W.findIn K (.ref C) f = some none := by
  intro f v e
  simp only [List.lookup] at e
  split at e
  · rename_i z
    rw [eq_of_beq z]
    exact h1
  · split at e
    · rename_i z
      rw [eq_of_beq z]
      exact h2
    · cases e
theorem no_one {C : Addr} {v2 : V} (h2 : PySem.W.findIn K (.ref C) "word" = some none) : ∀ f v, List.lookup f [(("word" : Str), v2)] = some v → PySem.W.findIn K (.ref C) f = some none := by
  intro f v e
  simp only [List.lookup] at e
  split at e
  · rename_i z
    rw [eq_of_beq z]
    exact h2
  · cases e
end
/-! ### what stays where lambdas are made -/
theorem Bag.extN {H H' : Hp} {b sb : Addr} (B : Bag H b sb) (e : LamX.ExtN H H') : Bag H' b sb := by
  obtain ⟨ns, i, j, m, c, h1, h2, h3, h4, h5, h6⟩ := B
  exact ⟨ns, i, j, m, c, e _ _ h1 (fun _ z => by cases z), e _ _ h2 (fun _ z => by cases z), h3, h4, h5, h6⟩
theorem lst_extN {H H' : Hp} {a : Addr} {xs : List V} (h : H a = some (.lst xs)) (e : LamX.ExtN H H') : H' a = some (.lst xs) := e _ _ h (fun _ z => by cases z)
theorem tup_extN {H H' : Hp} {a : Addr} {xs : List V} (h : H a = some (.tup xs)) (e : LamX.ExtN H H') : H' a = some (.tup xs) := e _ _ h (fun _ z => by cases z)
theorem tabs_keep {H H' : Hp} {b sb : Addr} {T : List (Addr × Str)} (t : LamX.Tabs T H) (B : Bag H b sb) (k : Keep b H H') : LamX.Tabs T H' := by
  intro p hp
  obtain ⟨ps, h1, h2, h3⟩ := t p hp
  obtain ⟨ns, i, j, m, c, B⟩ := B
  refine ⟨ps, k _ _ (ne_of h1 B.hb (by intro z; cases z)) h1, h2, fun pos cv hc => ?_⟩
  obtain ⟨c', e1, e2⟩ := h3 pos cv hc
  exact ⟨c', e1, k _ _ (ne_of e2 B.hb (by intro z; unfold LamX.CodeO at z; cases z)) e2⟩
/-! ### the law's forms -/
theorem ab_mul {x y : Int} {a b : Nat} (h1 : x.natAbs ≤ a) (h2 : y.natAbs ≤ b) : (x * y).natAbs ≤ a * b := by
  rw [Int.natAbs_mul]
  exact Nat.mul_le_mul h1 h2
theorem ab_lt {x : Int} {a n : Nat} (h1 : x.natAbs ≤ a) (h : a < 2 ^ n) : x.natAbs < 2 ^ n := Nat.lt_of_le_of_lt h1 h
section
variable {base : Heap} {K : PySem.W.Frag} {mg : Str → Option Value} {P : Program} {w : World}
def spAForm : Sp := fun vs H Q _ => ∃ b sb : Addr, vs = [.ref b] ∧ Bag H b sb ∧ ∀ p x y z H', IsForm x y z → x.natAbs < 2 ^ 60 → y.natAbs < 2 ^ 60 → z.natAbs < 2 ^ 60 → H p = none → H' p = some (.tup [.int x, .int y, .int z]) → Bag H' b sb → Keep b H H' → Q (.ref p) H'
theorem fr_keep {b : Addr} {H H' : Hp} {p : Addr} (k : Keep b H H') (n : p ≠ b) (h : H' p = none) : H p = none := by
  cases e : H p with
  | none => rfl
  | some o => exact absurd (k p o n e) (by rw [h]; simp)
theorem ok_a_form (T : Txt K mg) : FnOk P w K mg base CX0 4 T.f_a_form T.d_a_form ["_law_bag"] spAForm := by
  refine T.F_a_form.ok sc_a_form (fun vs H Q E h => ?_) (fun cdv A outer s H vs Q E hr h => ?_)
  · obtain ⟨b, sb, rfl, _⟩ := h
    rfl
  · obtain ⟨b, sb, rfl, B, q⟩ := h
    refine ⟨_, (pss_cons (ps_par (i := 1) (j := 2) (by rfl) sc_a_form.nd rfl rfl (by decide) rfl rfl (pa_cons (pe_call (ok_of T) (hr.mono (by decide)) (by rfl) T.g_of T.F_of.kp T.b_of .nil pass0 (pa_cons (pv 0) (pa_cons (pe_lst (pa_cons (pe_call (ok_any_pair T) (hr.mono (by decide)) (by rfl) T.g_any_pair T.F_any_pair.kp T.b_any_pair .nil pass0 (pa_cons (pv 0) pa_nil)) (pa_cons (pe_tup (pa_cons pe_int (pa_cons pe_int pa_nil))) pa_nil))) pa_nil))) (pa_cons (pe_call (ok_any_pair T) (hr.mono (by decide)) (by rfl) T.g_any_pair T.F_any_pair.kp T.b_any_pair .nil pass0 (pa_cons (pv 0) pa_nil)) pa_nil)) (by rfl))
      (pss_cons (ps_par (i := 3) (j := 4) (by rfl) sc_a_form.nd rfl rfl (by decide) rfl rfl (pa_cons (pe_op op_add pe_int (pe_call (ok_pull T) (hr.mono (by decide)) (by rfl) T.g_pull T.F_pull.kp T.b_pull .nil pass0 (pa_cons (pv 0) (pa_cons pe_int pa_nil)))) (pa_cons (pe_op op_add pe_int (pe_call (ok_pull T) (hr.mono (by decide)) (by rfl) T.g_pull T.F_pull.kp T.b_pull .nil pass0 (pa_cons (pv 0) (pa_cons pe_int pa_nil)))) pa_nil)) (by rfl))
      (pss_cons (ps_par3 (i := 5) (j := 6) (l := 7) (by rfl) sc_a_form.nd rfl rfl rfl (by decide) (by decide) (by decide) rfl rfl rfl (pa_cons (pe_op op_mulW (pe_op op_mulW (pv 3) (pe_ix ix_tup (pv 1) pe_int (fun _ _ => rfl))) (pe_ix ix_tup (pv 1) pe_int (fun _ _ => rfl))) (pa_cons (pe_op op_mulW (pe_op op_mulW (pv 3) (pe_ix ix_tup (pv 1) pe_int (fun _ _ => rfl))) (pe_ix ix_tup (pv 1) pe_int (fun _ _ => rfl))) (pa_cons (pe_op op_mulW (pe_op op_mulW (pv 3) (pe_ix ix_tup (pv 1) pe_int (fun _ _ => rfl))) (pe_ix ix_tup (pv 1) pe_int (fun _ _ => rfl))) pa_nil))) (by rfl))
      (pss_cons (ps_par3 (i := 5) (j := 6) (l := 7) (by rfl) sc_a_form.nd rfl rfl rfl (by decide) (by decide) (by decide) rfl rfl rfl (pa_cons (pe_op op_add (pv 5) (pe_op op_mulW (pe_op op_mulW (pv 4) (pe_ix ix_tup (pv 2) pe_int (fun _ _ => rfl))) (pe_ix ix_tup (pv 2) pe_int (fun _ _ => rfl)))) (pa_cons (pe_op op_add (pv 6) (pe_op op_mulW (pe_op op_mulW (pv 4) (pe_ix ix_tup (pv 2) pe_int (fun _ _ => rfl))) (pe_ix ix_tup (pv 2) pe_int (fun _ _ => rfl)))) (pa_cons (pe_op op_add (pv 7) (pe_op op_mulW (pe_op op_mulW (pv 4) (pe_ix ix_tup (pv 2) pe_int (fun _ _ => rfl))) (pe_ix ix_tup (pv 2) pe_int (fun _ _ => rfl)))) pa_nil))) (by rfl))
      (pss_one (ps_ret (pe_ifExp (PW.pt (pw_and (pt_cmpR op_gt (pv 5) pe_int (nomark _)) (pw_and1 (pt_cmpR op_gt (pe_op op_mulW (pv 5) (pv 7)) (pe_op op_mulW (pv 6) (pv 6)) (nomark _))))) (pe_tup (pa_cons (pv 5) (pa_cons (pv 6) (pa_cons (pv 7) pa_nil)))) (pe_tup (pa_cons (pe_op op_add pe_int (pe_call (ok_pull T) (hr.mono (by decide)) (by rfl) T.g_pull T.F_pull.kp T.b_pull .nil pass0 (pa_cons (pv 0) (pa_cons pe_int pa_nil)))) (pa_cons pe_int (pa_cons (pe_op op_add pe_int (pe_call (ok_pull T) (hr.mono (by decide)) (by rfl) T.g_pull T.F_pull.kp T.b_pull .nil pass0 (pa_cons (pv 0) (pa_cons pe_int pa_nil)))) pa_nil))))))))))), ?_⟩
    -- x
    refine ⟨_, rfl, _, rfl, b, sb, rfl, B, fun x1 y1 p1 H1 a1 a2 a3 a4 n1 h1 B1 k1 => ?_⟩
    refine ⟨by show 2 ≤ sizeLine; decide, fun p2 n2 => ⟨by show 2 ≤ sizeLine; decide, fun l nl => ?_⟩⟩
    have B2 := (B1.new (o := .tup [.int 1, .int 0]) n2)
    have B3 := B2.new (o := .lst [.ref p1, .ref p2]) nl
    refine ⟨b, sb, l, _, rfl, B3, upd_same, B2.ne nl, by simp, by simp, fun i v H3 hv B4 k4 => ?_⟩
    have kk : Keep b H1 H3 := (keep_new n2).trans ((keep_new nl).trans k4)
    obtain ⟨px, x, x', rfl, hx, bx, bx'⟩ : ∃ (px : Addr) (x x' : Int), v = .ref px ∧ H3 px = some (.tup [.int x, .int x']) ∧ x.natAbs ≤ 10 ^ 6 ∧ x'.natAbs ≤ 10 ^ 6 := by
      match i, hv with
      | 0, hv => cases hv; exact ⟨p1, x1, y1, rfl, kk _ _ (B.ne n1) h1, by omega, by omega⟩
      | 1, hv => cases hv; exact ⟨p2, 1, 0, rfl, ((keep_new nl).trans k4) _ _ (B1.ne n2) upd_same, by decide, by decide⟩
      | n + 2, hv => simp at hv
    -- y
    refine ⟨_, rfl, b, sb, rfl, B4, fun y y' p3 H4 c1 c2 c3 c4 n3 h3 B5 k5 => ⟨_, _, rfl, ?_⟩⟩
    have hx4 := k5 _ _ (B4.tup hx) hx
    have bY : y.natAbs ≤ 10 ^ 6 := by omega
    have bY' : y'.natAbs ≤ 10 ^ 6 := by omega
    -- size, more
    refine ⟨_, rfl, b, sb, 9, rfl, B5, by decide, by decide, fun s1 H5 s2 s3 B6 k6 => ⟨1, s1, rfl, rfl, ?_⟩⟩
    refine ⟨_, rfl, b, sb, 9, rfl, B6, by decide, by decide, fun m1 H6 m2 m3 B7 k7 => ⟨1, m1, rfl, rfl, _, _, rfl, ?_⟩⟩
    have k67 := k6.trans k7
    have hx6 := k67 _ _ (B5.tup hx4) hx4
    have hy6 := k67 _ _ (B5.tup h3) h3
    have bS : (1 + s1).natAbs ≤ 9 := by omega
    have bM : (1 + m1).natAbs ≤ 9 := by omega
    dsimp only
    generalize 1 + s1 = s at bS ⊢
    generalize 1 + m1 = m at bM ⊢
    have w1 := ab_mul bS bx
    have w2 := ab_mul bS bx'
    have w3 := ab_mul w1 bx
    have w4 := ab_mul w1 bx'
    have w5 := ab_mul w2 bx'
    have v1 := ab_mul bM bY
    have v2 := ab_mul bM bY'
    have v3 := ab_mul v1 bY
    have v4 := ab_mul v1 bY'
    have v5 := ab_mul v2 bY'
    refine ⟨_, rfl, _, rfl, px, _, 0, .int x, rfl, rfl, SqT.of hx6, atI_nat (j := 0) rfl, s, x, rfl, rfl, wide_mul (ab_lt (n := 64) bS (by decide)) (ab_lt (n := 64) bx (by decide)) (by decide) (by decide) (by decide), _, rfl, px, _, 0, .int x, rfl, rfl, SqT.of hx6, atI_nat (j := 0) rfl, _, x, rfl, rfl, wide_mul (ab_lt (n := 64) w1 (by decide)) (ab_lt (n := 64) bx (by decide)) (by decide) (by decide) (by decide), ?_⟩
    refine ⟨_, rfl, _, rfl, px, _, 0, .int x, rfl, rfl, SqT.of hx6, atI_nat (j := 0) rfl, s, x, rfl, rfl, wide_mul (ab_lt (n := 64) bS (by decide)) (ab_lt (n := 64) bx (by decide)) (by decide) (by decide) (by decide), _, rfl, px, _, 1, .int x', rfl, rfl, SqT.of hx6, atI_nat (j := 1) rfl, _, x', rfl, rfl, wide_mul (ab_lt (n := 64) w1 (by decide)) (ab_lt (n := 64) bx' (by decide)) (by decide) (by decide) (by decide), ?_⟩
    refine ⟨_, rfl, _, rfl, px, _, 1, .int x', rfl, rfl, SqT.of hx6, atI_nat (j := 1) rfl, s, x', rfl, rfl, wide_mul (ab_lt (n := 64) bS (by decide)) (ab_lt (n := 64) bx' (by decide)) (by decide) (by decide) (by decide), _, rfl, px, _, 1, .int x', rfl, rfl, SqT.of hx6, atI_nat (j := 1) rfl, _, x', rfl, rfl, wide_mul (ab_lt (n := 64) w2 (by decide)) (ab_lt (n := 64) bx' (by decide)) (by decide) (by decide) (by decide), _, _, _, rfl, ?_⟩
    refine ⟨_, rfl, _, rfl, _, rfl, p3, _, 0, .int y, rfl, rfl, SqT.of hy6, atI_nat (j := 0) rfl, m, y, rfl, rfl, wide_mul (ab_lt (n := 64) bM (by decide)) (ab_lt (n := 64) bY (by decide)) (by decide) (by decide) (by decide), _, rfl, p3, _, 0, .int y, rfl, rfl, SqT.of hy6, atI_nat (j := 0) rfl, _, y, rfl, rfl, wide_mul (ab_lt (n := 64) v1 (by decide)) (ab_lt (n := 64) bY (by decide)) (by decide) (by decide) (by decide), _, _, rfl, rfl, ?_⟩
    refine ⟨_, rfl, _, rfl, _, rfl, p3, _, 0, .int y, rfl, rfl, SqT.of hy6, atI_nat (j := 0) rfl, m, y, rfl, rfl, wide_mul (ab_lt (n := 64) bM (by decide)) (ab_lt (n := 64) bY (by decide)) (by decide) (by decide) (by decide), _, rfl, p3, _, 1, .int y', rfl, rfl, SqT.of hy6, atI_nat (j := 1) rfl, _, y', rfl, rfl, wide_mul (ab_lt (n := 64) v1 (by decide)) (ab_lt (n := 64) bY' (by decide)) (by decide) (by decide) (by decide), _, _, rfl, rfl, ?_⟩
    refine ⟨_, rfl, _, rfl, _, rfl, p3, _, 1, .int y', rfl, rfl, SqT.of hy6, atI_nat (j := 1) rfl, m, y', rfl, rfl, wide_mul (ab_lt (n := 64) bM (by decide)) (ab_lt (n := 64) bY' (by decide)) (by decide) (by decide) (by decide), _, rfl, p3, _, 1, .int y', rfl, rfl, SqT.of hy6, atI_nat (j := 1) rfl, _, y', rfl, rfl, wide_mul (ab_lt (n := 64) v2 (by decide)) (ab_lt (n := 64) bY' (by decide)) (by decide) (by decide) (by decide), _, _, rfl, rfl, _, _, _, rfl, ?_⟩
    have z1 : (s * x * x + m * y * y).natAbs < 2 ^ 60 := by omega
    have z2 : (s * x * x' + m * y * y').natAbs < 2 ^ 60 := by omega
    have z3 : (s * x' * x' + m * y' * y').natAbs < 2 ^ 60 := by omega
    dsimp only
    generalize s * x * x + m * y * y = f1 at z1 ⊢
    generalize s * x * x' + m * y * y' = f2 at z2 ⊢
    generalize s * x' * x' + m * y' * y' = f3 at z3 ⊢
    have kk6 : Keep b H H6 := k1.trans (kk.trans (k5.trans k67))
    have other : ∀ {Q' : V → Hp → Prop}, (∀ v H', (∃ p x y z, v = .ref p ∧ IsForm x y z ∧ x.natAbs < 2 ^ 60 ∧ y.natAbs < 2 ^ 60 ∧ z.natAbs < 2 ^ 60 ∧ H p = none ∧ H' p = some (.tup [.int x, .int y, .int z]) ∧ Bag H' b sb ∧ Keep b H H') → Q' v H') →
      ∀ (g1 g2 : Int) (H8 : Hp) (B9 : Bag H8 b sb) (k8 : Keep b H6 H8) (a1 : 0 ≤ g1) (a2 : g1 < 99) (a3 : 0 ≤ g2) (a4 : g2 < 99) (p : Addr) (np : H8 p = none), Q' (.ref p) (upd H8 p (.tup [.int (1 + g1), .int 0, .int (1 + g2)])) := by
      intro Q' hq g1 g2 H8 B9 k8 a1 a2 a3 a4 p np
      refine hq _ _ ⟨p, 1 + g1, 0, 1 + g2, rfl, ⟨by omega, ?_⟩, by omega, by decide, by omega, fr_keep (kk6.trans k8) (B9.ne np) np, upd_same, B9.new np, (kk6.trans k8).trans (keep_new np)⟩
      have := Int.mul_pos (show 0 < 1 + g1 by omega) (show 0 < 1 + g2 by omega)
      omega
    have fin : ∀ v H', (∃ p x y z, v = .ref p ∧ IsForm x y z ∧ x.natAbs < 2 ^ 60 ∧ y.natAbs < 2 ^ 60 ∧ z.natAbs < 2 ^ 60 ∧ H p = none ∧ H' p = some (.tup [.int x, .int y, .int z]) ∧ Bag H' b sb ∧ Keep b H H') → Q v H' := by
      rintro v H' ⟨p, x, y, z, rfl, f, b1, b2, b3, n, h, B, k⟩
      exact q p x y z H' f b1 b2 b3 n h B k
    refine ⟨_, rfl, f1, 0, rfl, rfl, _, rfl, ite2 (fun e => ?_) (fun _ => ?_)⟩
    · refine ⟨_, rfl, _, rfl, f1, f3, rfl, rfl, wide_mul z1 z3 (by decide) (by decide) (by decide), _, rfl, _, rfl, f2, f2, rfl, rfl, wide_mul z2 z2 (by decide) (by decide) (by decide), _, _, rfl, rfl, _, rfl, ite2 (fun e2 => ?_) (fun _ => ?_)⟩
      · refine ⟨_, rfl, _, rfl, _, rfl, by show 3 ≤ sizeLine; decide, fun p np => ?_⟩
        exact fin _ _ ⟨p, f1, f2, f3, rfl, ⟨of_decide_eq_true e, of_decide_eq_true e2⟩, z1, z2, z3, fr_keep kk6 (B7.ne np) np, upd_same, B7.new np, kk6.trans (keep_new np)⟩
      · refine ⟨_, rfl, b, sb, 99, rfl, B7, by decide, by decide, fun g1 H7 g2 g3 B8 k8 => ⟨1, g1, rfl, rfl, ?_⟩⟩
        refine ⟨_, rfl, b, sb, 99, rfl, B8, by decide, by decide, fun g4 H8 g5 g6 B9 k9 => ⟨1, g4, rfl, rfl, by show 3 ≤ sizeLine; decide, fun p np => ?_⟩⟩
        exact other fin g1 g4 H8 B9 (k8.trans k9) g2 g3 g5 g6 p np
    · refine ⟨_, rfl, b, sb, 99, rfl, B7, by decide, by decide, fun g1 H7 g2 g3 B8 k8 => ⟨1, g1, rfl, rfl, ?_⟩⟩
      refine ⟨_, rfl, b, sb, 99, rfl, B8, by decide, by decide, fun g4 H8 g5 g6 B9 k9 => ⟨1, g4, rfl, rfl, by show 3 ≤ sizeLine; decide, fun p np => ?_⟩⟩
      exact other fin g1 g4 H8 B9 (k8.trans k9) g2 g3 g5 g6 p np
end
/-! ### values of forms -/
theorem fb_a {n : Nat} {x y : Int} (h1 : x.natAbs < 2 ^ n) (h2 : y.natAbs < 2 ^ n) : (x + y).natAbs < 2 ^ (n + 1) := by
  rw [Nat.pow_succ]
  omega
theorem fval_bd {a b c x y : Int} (ha : a.natAbs < 2 ^ 64) (hb : b.natAbs < 2 ^ 64) (hc : c.natAbs < 2 ^ 64) (hx : x.natAbs < 2 ^ 64) (hy : y.natAbs < 2 ^ 64) : (fval a b c x y).natAbs < 2 ^ 195 :=
  fb_a (n := 194) (fb_a (n := 193) (rb_up (wide_lt (wide_lt ha hx) hx) (by decide)) (rb_up (wide_lt (wide_lt (rb_2 hb) hx) hy) (by decide))) (rb_up (wide_lt (wide_lt hc hy) hy) (by decide))
theorem fmid_bd {a b c x y z w : Int} (ha : a.natAbs < 2 ^ 64) (hb : b.natAbs < 2 ^ 64) (hc : c.natAbs < 2 ^ 64) (hx : x.natAbs < 2 ^ 64) (hy : y.natAbs < 2 ^ 64) (hz : z.natAbs < 2 ^ 64) (hw : w.natAbs < 2 ^ 64) : (fmid a b c x y z w).natAbs < 2 ^ 195 :=
  fb_a (n := 194) (fb_a (n := 193) (rb_up (wide_lt (wide_lt ha hx) hz) (by decide)) (rb_up (wide_lt hb (fb_a (wide_lt hx hw) (wide_lt hy hz))) (by decide))) (rb_up (wide_lt (wide_lt hc hy) hw) (by decide))
section
variable {base : Heap} {K : PySem.W.Frag} {mg : Str → Option Value} {P : Program} {w : World}
def spValueAt : Sp := fun vs H Q _ => ∃ (t u : Addr) (a b c x y : Int), vs = [.ref t, .ref u] ∧ H t = some (.tup [.int a, .int b, .int c]) ∧ H u = some (.tup [.int x, .int y]) ∧ a.natAbs < 2 ^ 300 ∧ b.natAbs < 2 ^ 300 ∧ c.natAbs < 2 ^ 300 ∧ x.natAbs < 2 ^ 300 ∧ y.natAbs < 2 ^ 300 ∧ Q (.int (fval a b c x y)) H
theorem ok_value_at (T : Txt K mg) : FnOk P w K mg base CX0 1 T.f_value_at T.d_value_at ["_law_form_z", "_law_pair"] spValueAt := by
  refine T.F_value_at.ok sc_value_at (fun vs H Q E h => ?_) (fun cdv A outer s H vs Q E hr h => ?_)
  · obtain ⟨t, u, a, b, c, x, y, rfl, _⟩ := h
    rfl
  · obtain ⟨t, u, a, b, c, x, y, rfl, ht, hu, ba, bb, bc, bx, bY, q⟩ := h
    refine ⟨_, (pss_cons (ps_asg (pv 0) (pg_tup (by rfl) (pgs_cons (pg_name (i := 2) sc_value_at.nd rfl (Or.inl rfl)) (pgs_cons (pg_name (i := 3) sc_value_at.nd rfl (Or.inl rfl)) (pgs_cons (pg_name (i := 4) sc_value_at.nd rfl (Or.inl rfl)) pgs_nil)))))
      (pss_one (ps_ret (pe_op op_add (pe_op op_add (pe_op op_mulW (pe_op op_mulW (pv 2) (pe_ix ix_tup (pv 1) pe_int (fun _ _ => rfl))) (pe_ix ix_tup (pv 1) pe_int (fun _ _ => rfl))) (pe_op op_mulW (pe_op op_mulW (pe_op op_mul pe_int (pv 3)) (pe_ix ix_tup (pv 1) pe_int (fun _ _ => rfl))) (pe_ix ix_tup (pv 1) pe_int (fun _ _ => rfl)))) (pe_op op_mulW (pe_op op_mulW (pv 4) (pe_ix ix_tup (pv 1) pe_int (fun _ _ => rfl))) (pe_ix ix_tup (pv 1) pe_int (fun _ _ => rfl))))))), ?_⟩
    refine ⟨_, rfl, t, _, rfl, SqT.of ht, rfl, .int a, _, rfl, .int b, _, rfl, .int c, _, rfl, rfl, ?_⟩
    refine ⟨_, rfl, _, rfl, u, _, 0, .int x, rfl, rfl, SqT.of hu, atI_nat (j := 0) rfl, a, x, rfl, rfl, wide_mul ba bx (by decide) (by decide) (by decide), _, rfl, u, _, 0, .int x, rfl, rfl, SqT.of hu, atI_nat (j := 0) rfl, _, x, rfl, rfl, wide_mul (wide_lt ba bx) bx (by decide) (by decide) (by decide), ?_⟩
    refine ⟨_, rfl, 2, b, rfl, rfl, .inl ⟨by decide, by decide⟩, _, rfl, u, _, 0, .int x, rfl, rfl, SqT.of hu, atI_nat (j := 0) rfl, _, x, rfl, rfl, wide_mul (rb_2 bb) bx (by decide) (by decide) (by decide), _, rfl, u, _, 1, .int y, rfl, rfl, SqT.of hu, atI_nat (j := 1) rfl, _, y, rfl, rfl, wide_mul (wide_lt (rb_2 bb) bx) bY (by decide) (by decide) (by decide), _, _, rfl, rfl, ?_⟩
    exact ⟨_, rfl, _, rfl, u, _, 1, .int y, rfl, rfl, SqT.of hu, atI_nat (j := 1) rfl, c, y, rfl, rfl, wide_mul bc bY (by decide) (by decide) (by decide), _, rfl, u, _, 1, .int y, rfl, rfl, SqT.of hu, atI_nat (j := 1) rfl, _, y, rfl, rfl, wide_mul (wide_lt bc bY) bY (by decide) (by decide) (by decide), _, _, rfl, rfl, q⟩
def spLed : Sp := fun vs H Q _ => ∃ (t u v : Addr) (a b c x y z w : Int), vs = [.ref t, .ref u, .ref v] ∧ H t = some (.tup [.int a, .int b, .int c]) ∧ H u = some (.tup [.int x, .int y]) ∧ H v = some (.tup [.int z, .int w]) ∧ a.natAbs < 2 ^ 300 ∧ b.natAbs < 2 ^ 300 ∧ c.natAbs < 2 ^ 300 ∧ x.natAbs < 2 ^ 300 ∧ y.natAbs < 2 ^ 300 ∧ z.natAbs < 2 ^ 300 ∧ w.natAbs < 2 ^ 300 ∧
  ∀ p H', H p = none → Same H H' → H' p = some (.tup [.int (fval a b c x y), .int (fmid a b c x y z w), .int (fval a b c z w)]) → Q (.ref p) H'
theorem ok_led (T : Txt K mg) : FnOk P w K mg base CX0 2 T.f_led T.d_led ["_law_form_z", "_law_x", "_law_y"] spLed := by
  refine T.F_led.ok sc_led (fun vs H Q E h => ?_) (fun cdv A outer s H vs Q E hr h => ?_)
  · obtain ⟨t, u, v, a, b, c, x, y, z, w, rfl, _⟩ := h
    rfl
  · obtain ⟨t, u, v, a, b, c, x, y, z, w, rfl, ht, hu, hv, ba, bb, bc, bx, bY, bz, bw, q⟩ := h
    refine ⟨_, (pss_cons (ps_asg (pv 0) (pg_tup (by rfl) (pgs_cons (pg_name (i := 4) sc_led.nd rfl (Or.inl rfl)) (pgs_cons (pg_name (i := 5) sc_led.nd rfl (Or.inl rfl)) (pgs_cons (pg_name (i := 6) sc_led.nd rfl (Or.inl rfl)) pgs_nil)))))
      (pss_cons (ps_set (i := 3) sc_led.nd rfl (Or.inl rfl) (pe_op op_add (pe_op op_add (pe_op op_mulW (pe_op op_mulW (pv 4) (pe_ix ix_tup (pv 1) pe_int (fun _ _ => rfl))) (pe_ix ix_tup (pv 2) pe_int (fun _ _ => rfl))) (pe_op op_mulW (pv 5) (pe_op op_add (pe_op op_mulW (pe_ix ix_tup (pv 1) pe_int (fun _ _ => rfl)) (pe_ix ix_tup (pv 2) pe_int (fun _ _ => rfl))) (pe_op op_mulW (pe_ix ix_tup (pv 1) pe_int (fun _ _ => rfl)) (pe_ix ix_tup (pv 2) pe_int (fun _ _ => rfl)))))) (pe_op op_mulW (pe_op op_mulW (pv 6) (pe_ix ix_tup (pv 1) pe_int (fun _ _ => rfl))) (pe_ix ix_tup (pv 2) pe_int (fun _ _ => rfl)))))
      (pss_one (ps_ret (pe_tup (pa_cons (pe_call (ok_value_at T) (hr.mono (by decide)) (by rfl) T.g_value_at T.F_value_at.kp T.b_value_at .nil pass0 (pa_cons (pv 0) (pa_cons (pv 1) pa_nil))) (pa_cons (pv 3) (pa_cons (pe_call (ok_value_at T) (hr.mono (by decide)) (by rfl) T.g_value_at T.F_value_at.kp T.b_value_at .nil pass0 (pa_cons (pv 0) (pa_cons (pv 2) pa_nil))) pa_nil)))))))), ?_⟩
    refine ⟨_, rfl, t, _, rfl, SqT.of ht, rfl, .int a, _, rfl, .int b, _, rfl, .int c, _, rfl, rfl, ?_⟩
    refine ⟨_, rfl, _, rfl, u, _, 0, .int x, rfl, rfl, SqT.of hu, atI_nat (j := 0) rfl, a, x, rfl, rfl, wide_mul ba bx (by decide) (by decide) (by decide), _, rfl, v, _, 0, .int z, rfl, rfl, SqT.of hv, atI_nat (j := 0) rfl, _, z, rfl, rfl, wide_mul (wide_lt ba bx) bz (by decide) (by decide) (by decide), ?_⟩
    refine ⟨_, rfl, _, rfl, u, _, 0, .int x, rfl, rfl, SqT.of hu, atI_nat (j := 0) rfl, _, rfl, v, _, 1, .int w, rfl, rfl, SqT.of hv, atI_nat (j := 1) rfl, x, w, rfl, rfl, wide_mul bx bw (by decide) (by decide) (by decide), _, rfl, u, _, 1, .int y, rfl, rfl, SqT.of hu, atI_nat (j := 1) rfl, _, rfl, v, _, 0, .int z, rfl, rfl, SqT.of hv, atI_nat (j := 0) rfl, y, z, rfl, rfl, wide_mul bY bz (by decide) (by decide) (by decide), _, _, rfl, rfl, b, _, rfl, rfl, wide_mul bb (fb_a (wide_lt bx bw) (wide_lt bY bz)) (by decide) (by decide) (by decide), _, _, rfl, rfl, ?_⟩
    refine ⟨_, rfl, _, rfl, u, _, 1, .int y, rfl, rfl, SqT.of hu, atI_nat (j := 1) rfl, c, y, rfl, rfl, wide_mul bc bY (by decide) (by decide) (by decide), _, rfl, v, _, 1, .int w, rfl, rfl, SqT.of hv, atI_nat (j := 1) rfl, _, w, rfl, rfl, wide_mul (wide_lt bc bY) bw (by decide) (by decide) (by decide), _, _, rfl, rfl, ?_⟩
    refine ⟨_, rfl, _, rfl, t, u, a, b, c, x, y, rfl, ht, hu, ba, bb, bc, bx, bY, _, rfl, _, rfl, _, rfl, t, v, a, b, c, z, w, rfl, ht, hv, ba, bb, bc, bz, bw, by show 3 ≤ sizeLine; decide, fun p np => ?_⟩
    exact q p _ np (same_new np) upd_same
end
/-! ### forms at the edges, pairs -/
section
variable {base : Heap} {K : PySem.W.Frag} {mg : Str → Option Value} {P : Program} {w : World}
def spForm : Sp := fun vs H Q _ => ∃ b sb : Addr, vs = [.ref b] ∧ Bag H b sb ∧ ∀ p x y z H', IsForm x y z → x.natAbs < 2 ^ 60 → y.natAbs < 2 ^ 60 → z.natAbs < 2 ^ 60 → H' p = some (.tup [.int x, .int y, .int z]) → Bag H' b sb → Keep b H H' → Q (.ref p) H'
theorem edge_form {a m : Int} (h : 1 ≤ a) (h0 : 0 ≤ m) : IsForm (2 * a) a (2 * a + m) ∧ IsForm (2 * a) (0 - a) (2 * a + m) ∧ IsForm (2 * a) 1 (2 * a) ∧ IsForm (2 * a) (-1) (2 * a) ∧ IsForm (2 * a + m) 0 (2 * a) := by
  have h1 : 1 ≤ a * a := by have := qsq_le (show (0 : Int) ≤ 1 by omega) h; omega
  have h2 : 0 ≤ a * m := Int.mul_nonneg (by omega) h0
  refine ⟨⟨by omega, ?_⟩, ⟨by omega, ?_⟩, ⟨by omega, ?_⟩, ⟨by omega, ?_⟩, ⟨by omega, ?_⟩⟩
  · have : 2 * a * (2 * a + m) = 4 * (a * a) + 2 * (a * m) := by grind
    omega
  · have : 2 * a * (2 * a + m) = 4 * (a * a) + 2 * (a * m) := by grind
    have : (0 - a) * (0 - a) = a * a := by grind
    omega
  · have : 2 * a * (2 * a) = 4 * (a * a) := by grind
    omega
  · have : 2 * a * (2 * a) = 4 * (a * a) := by grind
    omega
  · have : (2 * a + m) * (2 * a) = 4 * (a * a) + 2 * (a * m) := by grind
    omega
theorem ok_edge (T : Txt K mg) : FnOk P w K mg base CX0 3 T.f_edge T.d_edge ["_law_bag"] spForm := by
  refine T.F_edge.ok sc_edge (fun vs H Q E h => ?_) (fun cdv A outer s H vs Q E hr h => ?_)
  · obtain ⟨b, sb, rfl, _⟩ := h
    rfl
  · obtain ⟨b, sb, rfl, B, q⟩ := h
    refine ⟨_, (pss_cons (ps_par (i := 1) (j := 2) (by rfl) sc_edge.nd rfl rfl (by decide) rfl rfl (pa_cons (pe_op op_add pe_int (pe_op op_mul pe_int (pe_call (ok_pull T) (hr.mono (by decide)) (by rfl) T.g_pull T.F_pull.kp T.b_pull .nil pass0 (pa_cons (pv 0) (pa_cons pe_int pa_nil))))) (pa_cons (pe_call (ok_pull T) (hr.mono (by decide)) (by rfl) T.g_pull T.F_pull.kp T.b_pull .nil pass0 (pa_cons (pv 0) (pa_cons pe_int pa_nil))) pa_nil)) (by rfl))
      (pss_one (ps_ret (pe_call (ok_of T) (hr.mono (by decide)) (by rfl) T.g_of T.F_of.kp T.b_of .nil pass0 (pa_cons (pv 0) (pa_cons (pe_lst (pa_cons (pe_tup (pa_cons (pv 1) (pa_cons (pe_op op_fdiv (pv 1) pe_int) (pa_cons (pe_op op_add (pv 1) (pv 2)) pa_nil)))) (pa_cons (pe_tup (pa_cons (pv 1) (pa_cons (pe_op op_sub pe_int (pe_op op_fdiv (pv 1) pe_int)) (pa_cons (pe_op op_add (pv 1) (pv 2)) pa_nil)))) (pa_cons (pe_tup (pa_cons (pv 1) (pa_cons pe_int (pa_cons (pv 1) pa_nil)))) (pa_cons (pe_tup (pa_cons (pv 1) (pa_cons (pe_un un_neg pe_int) (pa_cons (pv 1) pa_nil)))) (pa_cons (pe_tup (pa_cons (pe_op op_add (pv 1) (pv 2)) (pa_cons pe_int (pa_cons (pv 1) pa_nil)))) pa_nil)))))) pa_nil)))))), ?_⟩
    refine ⟨_, rfl, b, sb, 50, rfl, B, by decide, by decide, fun z H1 z0 z1 B1 k1 => ⟨2, z, rfl, rfl, .inl ⟨by decide, by decide⟩, 2, _, rfl, rfl, ?_⟩⟩
    refine ⟨_, rfl, b, sb, 50, rfl, B1, by decide, by decide, fun m H2 m0 m1 B2 k2 => ⟨_, _, rfl, ?_⟩⟩
    have ea : 2 + 2 * z = 2 * (z + 1) := by omega
    dsimp only
    rw [ea]
    obtain ⟨f1, f2, f3, f4, f5⟩ := edge_form (a := z + 1) (m := m) (by omega) m0
    have eh : 2 * (z + 1) / 2 = z + 1 := by omega
    refine ⟨_, rfl, _, rfl, _, rfl, _, 2, rfl, rfl, ⟨by decide, by decide⟩, _, rfl, _, rfl, _, m, rfl, rfl, by show 3 ≤ sizeLine; decide, fun t1 n1 => ?_⟩
    refine ⟨_, rfl, _, rfl, _, 2, rfl, rfl, ⟨by decide, by decide⟩, 0, _, rfl, rfl, _, rfl, _, rfl, _, m, rfl, rfl, by show 3 ≤ sizeLine; decide, fun t2 n2 => ?_⟩
    refine ⟨_, rfl, _, rfl, by show 3 ≤ sizeLine; decide, fun t3 n3 => ?_⟩
    refine ⟨_, rfl, 1, rfl, _, rfl, by show 3 ≤ sizeLine; decide, fun t4 n4 => ?_⟩
    refine ⟨_, rfl, _, rfl, _, m, rfl, rfl, _, rfl, by show 3 ≤ sizeLine; decide, fun t5 n5 => ⟨by show 5 ≤ sizeLine; decide, fun l nl => ?_⟩⟩
    dsimp only at n1 n2 n3 n4 n5 nl ⊢
    rw [eh] at n2 n3 n4 n5 nl ⊢
    have B3 := ((((B2.new n1).new n2).new n3).new n4).new (o := .tup [.int (2 * (z + 1) + m), .int 0, .int (2 * (z + 1))]) n5
    refine ⟨b, sb, l, _, rfl, B3.new nl, upd_same, B3.ne nl, by simp, by simp, fun i v H3 hv B4 k4 => ?_⟩
    have kk : Keep b H H3 := k1.trans (k2.trans ((keep_new n1).trans ((keep_new n2).trans ((keep_new n3).trans ((keep_new n4).trans ((keep_new n5).trans ((keep_new nl).trans k4)))))))
    match i, hv with
    | 0, hv => cases hv; exact q t1 _ _ _ H3 f1 (by omega) (by omega) (by omega) (((keep_new n2).trans ((keep_new n3).trans ((keep_new n4).trans ((keep_new n5).trans ((keep_new nl).trans k4))))) _ _ (B2.ne n1) upd_same) B4 kk
    | 1, hv => cases hv; exact q t2 _ _ _ H3 f2 (by omega) (by omega) (by omega) (((keep_new n3).trans ((keep_new n4).trans ((keep_new n5).trans ((keep_new nl).trans k4)))) _ _ ((B2.new n1).ne n2) upd_same) B4 kk
    | 2, hv => cases hv; exact q t3 _ _ _ H3 f3 (by omega) (by omega) (by omega) (((keep_new n4).trans ((keep_new n5).trans ((keep_new nl).trans k4))) _ _ (((B2.new n1).new n2).ne n3) upd_same) B4 kk
    | 3, hv => cases hv; exact q t4 _ _ _ H3 f4 (by omega) (by omega) (by omega) (((keep_new n5).trans ((keep_new nl).trans k4)) _ _ ((((B2.new n1).new n2).new n3).ne n4) upd_same) B4 kk
    | 4, hv => cases hv; exact q t5 _ _ _ H3 f5 (by omega) (by omega) (by omega) (((keep_new nl).trans k4) _ _ (((((B2.new n1).new n2).new n3).new n4).ne n5) upd_same) B4 kk
    | n + 5, hv => simp at hv
def spIsPair : Sp := fun vs H Q _ => ∃ (t : Addr) (x y : Int), vs = [.ref t] ∧ H t = some (.tup [.int x, .int y]) ∧ Q (.bl true) H
theorem ok_is_pair (T : Txt K mg) : FnOk P w K mg base CX0 1 T.f_is_pair T.d_is_pair ["_law_x"] spIsPair := by
  refine T.F_is_pair.ok sc_is_pair (fun vs H Q E h => ?_) (fun cdv A outer s H vs Q E hr h => ?_)
  · obtain ⟨t, x, y, rfl, _⟩ := h
    rfl
  · obtain ⟨t, x, y, rfl, ht, q⟩ := h
    refine ⟨_, (pss_one (ps_ret (pe_and (pe_callB call_isi (by rfl) T.n_isinstance (by decide +kernel) (pa_cons (pv 0) (pa_cons (pe_bltn (v := .ty "tuple") (by rfl) T.n_tuple (by decide +kernel) rfl) pa_nil))) (pe_and (pe_cmpR op_eq (pe_callB call_len_seq (by rfl) T.n_len (by decide +kernel) (pa_cons (pv 0) pa_nil)) pe_int (nomark _)) (pe_and (pe_callB call_isi (by rfl) T.n_isinstance (by decide +kernel) (pa_cons (pe_ix ix_tup (pv 0) pe_int (fun _ _ => rfl)) (pa_cons (pe_bltn (v := .ty "int") (by rfl) T.n_int (by decide +kernel) rfl) pa_nil))) (pe_one (pe_callB call_isi (by rfl) T.n_isinstance (by decide +kernel) (pa_cons (pe_ix ix_tup (pv 0) pe_int (fun _ _ => rfl)) (pa_cons (pe_bltn (v := .ty "int") (by rfl) T.n_int (by decide +kernel) rfl) pa_nil))))))))), ?_⟩
    refine ⟨_, rfl, .ref t, .ty "tuple", _, _, true, rfl, ClsV.ty _, TyX.base (TyOf.tup ht), kit_ty (by decide +kernel), true, rfl, iteT ?_⟩
    refine ⟨_, rfl, t, _, rfl, .inr (SqT.of ht), rfl, true, rfl, iteT ?_⟩
    refine ⟨_, rfl, t, _, 0, .int x, rfl, rfl, SqT.of ht, atI_nat (j := 0) rfl, .int x, .ty "int", _, _, true, rfl, ClsV.ty _, TyX.base (TyOf.int _), kit_ty (by decide +kernel), true, rfl, iteT ?_⟩
    exact ⟨_, rfl, t, _, 1, .int y, rfl, rfl, SqT.of ht, atI_nat (j := 1) rfl, .int y, .ty "int", _, _, true, rfl, ClsV.ty _, TyX.base (TyOf.int _), kit_ty (by decide +kernel), q⟩
end
/-! ### the law -/
theorem eqv3 (a b c a' b' c' : Int) : PyData.eqv (.tuple [.int a, .int b, .int c]) (.tuple [.int a', .int b', .int c']) = (decide (a = a') && (decide (b = b') && decide (c = c'))) := by
  simp [PyData.eqv, PyData.eqvAll]
  first | rfl | (by_cases h1 : a = a' <;> by_cases h2 : b = b' <;> by_cases h3 : c = c' <;> simp [h1, h2, h3])
theorem eqv3_t {a b c a' b' c' : Int} (h : a = a' ∧ b = b' ∧ c = c') : PyData.eqv (.tuple [.int a, .int b, .int c]) (.tuple [.int a', .int b', .int c']) = true := by
  rw [eqv3, decide_eq_true h.1, decide_eq_true h.2.1, decide_eq_true h.2.2]
  rfl
theorem ne3_f {a b c a' b' c' : Int} (h : a = a' ∧ b = b' ∧ c = c') : (!PyData.eqv (.tuple [.int a, .int b, .int c]) (.tuple [.int a', .int b', .int c'])) = false := by
  rw [eqv3_t h]
  rfl
theorem dpair {K : PySem.W.Frag} {H : Hp} {p : Addr} {x y : Int} (h : H p = some (.tup [.int x, .int y])) : Dp K H (.ref p) (.tuple [.int x, .int y]) := .tup (SqT.of h) (.cons (.int x) (.cons (.int y) .nil))
theorem dtrip {K : PySem.W.Frag} {H : Hp} {p : Addr} {x y z : Int} (h : H p = some (.tup [.int x, .int y, .int z])) : Dp K H (.ref p) (.tuple [.int x, .int y, .int z]) := .tup (SqT.of h) (.cons (.int x) (.cons (.int y) (.cons (.int z) .nil)))
theorem dred {K : PySem.W.Frag} {H : Hp} {p f o1 o2 : Addr} {a b c x y z w : Int} (R : RedAt H p f o1 o2 a b c x y z w) : Dp K H (.ref p) (.tuple [.tuple [.int a, .int b, .int c], .tuple [.int x, .int y], .tuple [.int z, .int w]]) := .tup (SqT.of R.hp) (.cons (dtrip R.hf) (.cons (dpair R.h1) (.cons (dpair R.h2) .nil)))
theorem ered (a b c x y z w : Int) : PyData.eqv (.tuple [.tuple [.int a, .int b, .int c], .tuple [.int x, .int y], .tuple [.int z, .int w]]) (.tuple [.tuple [.int a, .int b, .int c], .tuple [.int x, .int y], .tuple [.int z, .int w]]) = true := by
  simp [PyData.eqv, PyData.eqvAll]
theorem sbadf : SeqAt.shaped (.tuple [.str "BadForm", .none]) = true := by kernel_rfl
theorem ebadf : PyData.eqv (.tuple [.str "BadForm", .none]) (.tuple [.str "BadForm", .none]) = true := by
  simp [PyData.eqv, PyData.eqvAll]
theorem RedAt.same {H H' : Hp} {p f o1 o2 : Addr} {a b c x y z w : Int} (R : RedAt H p f o1 o2 a b c x y z w) (s : Same H H') : RedAt H' p f o1 o2 a b c x y z w := ⟨s _ _ R.hp, s _ _ R.hf, s _ _ R.h1, s _ _ R.h2⟩
theorem tk {H H' : Hp} {b sb : Addr} (B : Bag H b sb) (k : Keep b H H') {p : Addr} {xs : List V} (h : H p = some (.tup xs)) : H' p = some (.tup xs) := k _ _ (B.tup h) h
theorem uni_abs {x y z w : Int} (u : Uni x y z w) : (x * w - y * z).natAbs = 1 := by
  rcases u with u | u <;> rw [u] <;> rfl
theorem bad_forms {f : Int} (h : 1 ≤ f) : ¬ IsForm 0 0 f ∧ ¬ IsForm (0 - f) 0 f ∧ ¬ IsForm f f f ∧ ¬ IsForm f 0 0 ∧ ¬ IsForm (-1) 0 (0 - f) ∧ ¬ IsForm 1 f (f * f) := by
  refine ⟨fun z => ?_, fun z => ?_, fun z => ?_, fun z => ?_, fun z => ?_, fun z => ?_⟩
  · exact absurd z.1 (by decide)
  · have := z.1
    omega
  · exact absurd z.2 (Int.lt_irrefl _)
  · have := z.2
    omega
  · exact absurd z.1 (by decide)
  · have := z.2
    omega
abbrev qn : Str := "law" ++ ".<locals>." ++ "<lambda>"
section
variable {base : Heap} {K : PySem.W.Frag} {mg : Str → Option Value} {w : World}
def spLaw (K : PySem.W.Frag) (P0 : Addr) : Sp := fun vs H Q _ => ∃ (a : Addr) (ns : List Int), vs = [.ref a] ∧ SqL K H a (ns.map V.int) ∧ ns.length ≤ 63 ∧ H P0 = some (.tbl #[]) ∧ ∀ H', Q (.bl true) H'
theorem raised_bad (T : Txt K mg) {Q : VK} {d : Addr} {Hf : Hp} (hd : Hf d = some (.xd badForm)) (q : Told Q "BadForm" .non Hf) : Raised K T.r_GrainError Q (.ref T.e_BadForm.C) (some d) Hf := by
  obtain ⟨cg, hg, _⟩ := T.c_GrainError
  exact raised_er T.e_BadForm hg T.t_GrainError T.sb_GrainError (no_one T.x_BadForm_word) rfl rfl hd q
theorem ok_law {f c P0 : Addr} {oc kV doc pm ct : Value} {od an : Option Addr} {osl : Array (Option Value)} (lk : K.lookup f = some ⟨oc, od, .func (PySem.W.fnOf "law" "law" (defArgs s_law) (defBody s_law) (defScope s_law) .none kV doc pm an (.ref c) ct), osl⟩) (hcd : PySem.W.codeIn K (.ref c) "law" = true)
    (TB : LamX.TabB base mg c P0) (T : Txt K mg) : FnOk PySem.Challenge.pw_grainyard_k47_reduced_forms w K mg base CX0 12 f (PySem.W.fnOf "law" "law" (defArgs s_law) (defBody s_law) (defScope s_law) .none kV doc pm an (.ref c) ct) ["_law_script"] (spLaw K P0) := by
  refine fn_of lk hcd sc_law (fun vs H Q E h => ?_) (fun A outer s H vs Q E hr h => ?_)
  · obtain ⟨a, ns, rfl, _⟩ := h
    rfl
  · obtain ⟨a, ns, rfl, hS, hlen, hP, q⟩ := h
    refine ⟨_, PSs.nox (pss_cons (ps_set (i := 1) sc_law.nd rfl (Or.inl rfl) (pe_call (ok_source T) (hr.mono (by decide)) (by rfl) T.g_source T.F_source.kp T.b_source .nil pass0 (pa_cons (pv 0) pa_nil)))
      (pss_cons (ps_for PassesOwn.never rfl (pi_range1 (by rfl) T.n_range (pa_cons pe_int pa_nil)) (pg_name (i := 2) sc_law.nd rfl (Or.inl rfl)) (pss_cons (ps_set (i := 3) sc_law.nd rfl (Or.inl rfl) (pe_call (ok_of T) (hr.mono (by decide)) (by rfl) T.g_of T.F_of.kp T.b_of .nil pass0 (pa_cons (pv 1) (pa_cons (pe_lst (pa_cons (pe_call (ok_a_form T) (hr.mono (by decide)) (by rfl) T.g_a_form T.F_a_form.kp T.b_a_form .nil pass0 (pa_cons (pv 1) pa_nil)) (pa_cons (pe_call (ok_edge T) (hr.mono (by decide)) (by rfl) T.g_edge T.F_edge.kp T.b_edge .nil pass0 (pa_cons (pv 1) pa_nil)) pa_nil))) pa_nil))))
      (pss_cons (ps_set (i := 4) sc_law.nd rfl (Or.inl rfl) (pe_call (ok_reduced T) (hr.mono (by decide)) (by rfl) T.g_reduced T.F_reduced.kp T.b_reduced .nil pass_never (pa_cons (pv 3) pa_nil)))
      (pss_cons (ps_if (PW.pt (pw_or (pt_not (pt_val (pe_callB call_isi (by rfl) T.n_isinstance (by decide +kernel) (pa_cons (pv 4) (pa_cons (pe_bltn (v := .ty "tuple") (by rfl) T.n_tuple (by decide +kernel) rfl) pa_nil))))) (pw_or1 (pt_cmpR op_ne (pe_callB call_len_seq (by rfl) T.n_len (by decide +kernel) (pa_cons (pv 4) pa_nil)) pe_int (nomark _))))) (pss_one (ps_ret pe_bl)) pss_nil)
      (pss_cons (ps_asg (pv 4) (pg_tup (by rfl) (pgs_cons (pg_tup (by rfl) (pgs_cons (pg_name (i := 9) sc_law.nd rfl (Or.inl rfl)) (pgs_cons (pg_name (i := 10) sc_law.nd rfl (Or.inl rfl)) (pgs_cons (pg_name (i := 11) sc_law.nd rfl (Or.inl rfl)) pgs_nil)))) (pgs_cons (pg_name (i := 7) sc_law.nd rfl (Or.inl rfl)) (pgs_cons (pg_name (i := 8) sc_law.nd rfl (Or.inl rfl)) pgs_nil)))))
      (pss_cons (ps_if (PW.pt (pw_or (pt_not (pt_chain3 op_le op_le op_le pe_int (pe_op op_mul pe_int (pv 10)) (pv 9) (pv 11))) (pw_or1 (pt_cmpR op_ne (pe_callB call_abs (by rfl) T.n_abs (by decide +kernel) (pa_cons (pe_op op_sub (pe_op op_mulW (pe_ix ix_tup (pv 7) pe_int (fun _ _ => rfl)) (pe_ix ix_tup (pv 8) pe_int (fun _ _ => rfl))) (pe_op op_mulW (pe_ix ix_tup (pv 7) pe_int (fun _ _ => rfl)) (pe_ix ix_tup (pv 8) pe_int (fun _ _ => rfl)))) pa_nil)) pe_int (nomark _))))) (pss_one (ps_ret pe_bl)) pss_nil)
      (pss_cons (ps_if (PW.pt (pw_or (pt_not (pt_val (pe_call (ok_like T) (hr.mono (by decide)) (by rfl) T.g_like T.F_like.kp T.b_like .nil pass0 (pa_cons (pe_ix ix_tup (pv 4) pe_int (fun _ _ => rfl)) (pa_cons (pe_call (ok_led T) (hr.mono (by decide)) (by rfl) T.g_led T.F_led.kp T.b_led .nil pass0 (pa_cons (pv 3) (pa_cons (pv 7) (pa_cons (pv 8) pa_nil)))) pa_nil))))) (pw_or (pt_not (pt_val (pe_call (ok_is_pair T) (hr.mono (by decide)) (by rfl) T.g_is_pair T.F_is_pair.kp T.b_is_pair .nil pass0 (pa_cons (pv 7) pa_nil)))) (pw_or1 (pt_not (pt_val (pe_call (ok_is_pair T) (hr.mono (by decide)) (by rfl) T.g_is_pair T.F_is_pair.kp T.b_is_pair .nil pass0 (pa_cons (pv 8) pa_nil)))))))) (pss_one (ps_ret pe_bl)) pss_nil)
      (pss_cons (ps_if (PW.pt (pw_or (pt_cmpR (op_neD hr.units) (pe_kwOnly (ok_reduced T) (hr.mono (by decide)) (by rfl) T.g_reduced T.F_reduced.kp T.kb_reduced_form pass_never (pk_cons (pv 3) pk_nil)) (pv 4) (nomark _)) (pw_or1 (pt_cmpR (op_neD hr.units) (pe_ix ix_tup (pe_call (ok_reduced T) (hr.mono (by decide)) (by rfl) T.g_reduced T.F_reduced.kp T.b_reduced .nil pass_never (pa_cons (pe_ix ix_tup (pv 4) pe_int (fun _ _ => rfl)) pa_nil)) pe_int (fun _ _ => rfl)) (pe_ix ix_tup (pv 4) pe_int (fun _ _ => rfl)) (nomark _))))) (pss_one (ps_ret pe_bl)) pss_nil)
      (pss_cons (ps_set (i := 5) sc_law.nd rfl (Or.inl rfl) (pe_op op_add pe_int (pe_call (ok_pull T) (hr.mono (by decide)) (by rfl) T.g_pull T.F_pull.kp T.b_pull .nil pass0 (pa_cons (pv 1) (pa_cons pe_int pa_nil)))))
      (pss_cons (ps_set (i := 6) sc_law.nd rfl (Or.inr rfl) (pe_call (ok_of T) (hr.mono (by decide)) (by rfl) T.g_of T.F_of.kp T.b_of .nil pass0 (pa_cons (pv 1) (pa_cons (pe_lst (pa_cons (pe_tup (pa_cons pe_int (pa_cons pe_int (pa_cons (pv 5) pa_nil)))) (pa_cons (pe_tup (pa_cons (pe_op op_sub pe_int (pv 5)) (pa_cons pe_int (pa_cons (pv 5) pa_nil)))) (pa_cons (pe_tup (pa_cons (pv 5) (pa_cons (pv 5) (pa_cons (pv 5) pa_nil)))) (pa_cons (pe_tup (pa_cons (pv 5) (pa_cons pe_int (pa_cons pe_int pa_nil)))) (pa_cons (pe_tup (pa_cons (pe_un un_neg pe_int) (pa_cons pe_int (pa_cons (pe_op op_sub pe_int (pv 5)) pa_nil)))) (pa_cons (pe_tup (pa_cons pe_int (pa_cons (pv 5) (pa_cons (pe_op op_mul (pv 5) (pv 5)) pa_nil)))) pa_nil))))))) pa_nil))))
      (pss_one (ps_if (pt_cmpR (op_neD hr.units) (pe_try (k := 7) T (by rfl) TB rfl (hr.mono (by decide)) (LamX.lamS_by (sc := defScope s_law) (by decide +kernel)) rfl (fun _ _ _ _ _ => rfl) (fun A outer s H E f c' hr2 => pe_call (ok_reduced T) (hr2.mono (by decide)) (by rfl) T.g_reduced T.F_reduced.kp T.b_reduced .nil (passes_call (takes_of rfl rfl rfl rfl) (fun _ _ _ _ h => h)) (pa_cons (pv 6) pa_nil))) (pe_tup (pa_cons pe_str (pa_cons pe_non pa_nil))) (nomark _)) (pss_one (ps_ret pe_bl)) pss_nil))))))))))))
      (pss_one (ps_ret (pe_and (pe_cmpR (op_eqD hr.units) (pe_ix ix_tup (pe_call (ok_reduced T) (hr.mono (by decide)) (by rfl) T.g_reduced T.F_reduced.kp T.b_reduced .nil pass_never (pa_cons (pe_tup (pa_cons pe_int (pa_cons pe_int (pa_cons pe_int pa_nil)))) pa_nil)) pe_int (fun _ _ => rfl)) (pe_tup (pa_cons pe_int (pa_cons pe_int (pa_cons pe_int pa_nil)))) (nomark _)) (pe_one (pe_cmpR (op_eqD hr.units) (pe_ix ix_tup (pe_call (ok_reduced T) (hr.mono (by decide)) (by rfl) T.g_reduced T.F_reduced.kp T.b_reduced .nil pass_never (pa_cons (pe_tup (pa_cons pe_int (pa_cons pe_int (pa_cons pe_int pa_nil)))) pa_nil)) pe_int (fun _ _ => rfl)) (pe_tup (pa_cons pe_int (pa_cons pe_int (pa_cons pe_int pa_nil)))) (nomark _)))))))), ?_⟩
    refine ⟨_, rfl, a, ns, rfl, hS, hlen, fun b sb H1 nb s1 B1 => ?_⟩
    have tb1 : LamX.Tabs [(P0, qn)] H1 := fun p hp => by
      rw [List.mem_singleton.mp hp]
      exact LamX.TabS.nil (s1 _ _ hP)
    refine ⟨8, rfl, by decide, by decide, for_range (lo := 0) (n := 8) (fun i σ H' => ∃ y2 y3 y4 y5 y6 y7 y8 y9 y10 y11, σ = [some (.ref a), some (.ref b), y2, y3, y4, y5, y6, y7, y8, y9, y10, y11] ∧ Bag H' b sb ∧ LamX.Tabs [(P0, qn)] H') ⟨none, none, none, none, none, none, none, none, none, none, rfl, B1, tb1⟩ ?_ ?_⟩
    · rintro i σ H2 hi ⟨y2, y3, y4, y5, y6, y7, y8, y9, y10, y11, rfl, B2, tb2⟩
      -- the form
      refine ⟨_, rfl, _, rfl, b, sb, rfl, B2, fun p1 u1 u2 u3 H3 F1 c1 c2 c3 n1 h1 B3 k3 => ?_⟩
      refine ⟨_, rfl, b, sb, rfl, B3, fun p2 v1 v2 v3 H4 F2 e1 e2 e3 h2 B4 k4 => ⟨by show 2 ≤ sizeLine; decide, fun l nl => ?_⟩⟩
      refine ⟨b, sb, l, _, rfl, B4.new nl, upd_same, B4.ne nl, by simp, by simp, fun j v H5 hv B5 k5 => ?_⟩
      have kl : Keep b H4 H5 := (keep_new nl).trans k5
      have tb5 := tabs_keep (tabs_keep (tabs_keep tb2 B2 k3) B3 k4) B4 kl
      obtain ⟨pf, fa, fb, fc, rfl, Fm, ba, bb, bc, hf⟩ : ∃ (pf : Addr) (fa fb fc : Int), v = .ref pf ∧ IsForm fa fb fc ∧ fa.natAbs < 2 ^ 60 ∧ fb.natAbs < 2 ^ 60 ∧ fc.natAbs < 2 ^ 60 ∧ H5 pf = some (.tup [.int fa, .int fb, .int fc]) := by
        match j, hv with
        | 0, hv => cases hv; exact ⟨p1, u1, u2, u3, rfl, F1, c1, c2, c3, tk B4 kl (tk B3 k4 h1)⟩
        | 1, hv => cases hv; exact ⟨p2, v1, v2, v3, rfl, F2, e1, e2, e3, tk B4 kl h2⟩
        | j + 2, hv => simp at hv
      clear k3 k4 k5 kl h1 h2 F1 F2 c1 c2 c3 e1 e2 e3 hv nl B4 B3 tb2
      -- found
      refine ⟨_, rfl, pf, fa, fb, fc, rfl, SqT.of hf, rb_up ba (by decide), rb_up bb (by decide), rb_up bc (by decide), fun z => absurd Fm z, fun _ p0 pd o1 o2 ra rb rc rx ry rz rw' H6 n0 s6 R r => ?_⟩
      have B6 := B5.same s6
      have tb6 := tb5.ext s6
      have hf6 := s6 _ _ hf
      refine ⟨_, rfl, .ref p0, .ty "tuple", _, _, true, rfl, ClsV.ty _, TyX.base (TyOf.tup R.hp), kit_ty (by decide +kernel), true, rfl, iteF ?_⟩
      refine ⟨_, rfl, p0, _, rfl, .inr (SqT.of R.hp), rfl, false, rfl, iteF ?_⟩
      refine ⟨_, rfl, p0, _, rfl, SqT.of R.hp, rfl, .ref pd, _, rfl, pd, _, rfl, SqT.of R.hf, rfl, .int ra, _, rfl, .int rb, _, rfl, .int rc, _, rfl, rfl, .ref o1, _, rfl, .ref o2, _, rfl, rfl, ?_⟩
      -- reduced, and one or minus one
      refine ⟨_, rfl, 2, rb, rfl, rfl, .inl ⟨by decide, by decide⟩, 0, _, rfl, rfl, true, (by show V.bl (decide (0 ≤ 2 * rb)) = V.bl true; rw [decide_eq_true r.red.1]), iteT ?_⟩
      refine ⟨_, rfl, _, ra, rfl, rfl, true, (by show V.bl (decide (2 * rb ≤ ra)) = V.bl true; rw [decide_eq_true r.red.2.1]), iteT ?_⟩
      refine ⟨_, rfl, ra, rc, rfl, rfl, true, (by show V.bl (decide (ra ≤ rc)) = V.bl true; rw [decide_eq_true r.red.2.2]), iteF ?_⟩
      refine ⟨_, rfl, o1, _, 0, .int rx, rfl, rfl, SqT.of R.h1, atI_nat (j := 0) rfl, _, rfl, o2, _, 1, .int rw', rfl, rfl, SqT.of R.h2, atI_nat (j := 1) rfl, rx, rw', rfl, rfl, wide_mul r.bx r.bw (by decide) (by decide) (by decide), ?_⟩
      refine ⟨_, rfl, o1, _, 1, .int ry, rfl, rfl, SqT.of R.h1, atI_nat (j := 1) rfl, _, rfl, o2, _, 0, .int rz, rfl, rfl, SqT.of R.h2, atI_nat (j := 0) rfl, ry, rz, rfl, rfl, wide_mul r.bY r.bz (by decide) (by decide) (by decide), _, _, rfl, rfl, _, rfl, rfl, false, ?_, iteF ?_⟩
      · show V.bl (!decide (V.int (if rx * rw' - ry * rz < 0 then -(rx * rw' - ry * rz) else rx * rw' - ry * rz) = V.int 1)) = V.bl false
        rcases r.uni with u | u <;> rw [u] <;> rfl
      -- like
      refine ⟨_, rfl, p0, _, 0, .ref pd, rfl, rfl, SqT.of R.hp, atI_nat (j := 0) rfl, ?_⟩
      refine ⟨_, rfl, _, rfl, _, rfl, pf, o1, o2, fa, fb, fc, rx, ry, rz, rw', rfl, hf6, R.h1, R.h2, rb_up ba (by decide), rb_up bb (by decide), rb_up bc (by decide), r.bx, r.bY, r.bz, r.bw, fun pl H7 n7 s7 h7 => ?_⟩
      refine ⟨_, _, rfl, Lk.tups (s7 _ _ R.hf) h7 (by simp) (.cons (Lk.int r.led.1) (.cons (Lk.int r.led.2.1) (.cons (Lk.int r.led.2.2) .nil))), fun H8 s8 => ⟨true, rfl, iteF ?_⟩⟩
      have s78 := s7.trans s8
      have R8 := R.same s78
      refine ⟨_, rfl, o1, rx, ry, rfl, R8.h1, true, rfl, iteF ?_⟩
      refine ⟨_, rfl, o2, rz, rw', rfl, R8.h2, true, rfl, iteF ?_⟩
      -- once more, by name
      refine ⟨_, rfl, rfl, pf, fa, fb, fc, rfl, SqT.of (s78 _ _ hf6), rb_up ba (by decide), rb_up bb (by decide), rb_up bc (by decide), fun z => absurd Fm z, fun _ p3 pe o3 o4 ra' rb' rc' rx' ry' rz' rw'' H9 n9 s9 R9 r9 => ?_⟩
      obtain ⟨rfl, rfl, rfl, rfl, rfl, rfl, rfl⟩ := r9.run.one r.run
      refine ⟨_, rfl, _, _, dred R9, dred (R8.same s9), rfl, rfl, false, (by rw [ered]; rfl), iteF ?_⟩
      have R10 := R8.same s9
      -- the reduced form of a reduced form
      refine ⟨_, rfl, p0, _, 0, .ref pd, rfl, rfl, SqT.of R10.hp, atI_nat (j := 0) rfl, pd, _, _, _, rfl, SqT.of R10.hf, r.ba, r.bb, r.bc, fun z => absurd r.frm z, fun _ p5 pg o5 o6 xa xb xc x1 x2 x3 x4 H11 n11 s11 R11 r11 => ?_⟩
      have q11 := red_one r11.red r11.frm.1 r.red r.frm.1 r11.feq.symm
      refine ⟨p5, _, 0, .ref pg, rfl, rfl, SqT.of R11.hp, atI_nat (j := 0) rfl, _, rfl, p0, _, 0, .ref pd, rfl, rfl, SqT.of (s11 _ _ R10.hp), atI_nat (j := 0) rfl, _, _, dtrip R11.hf, dtrip (s11 _ _ R10.hf), rfl, rfl, false, (by rw [ne3_f q11]), iteF ?_⟩
      have sB := s78.trans (s9.trans s11)
      have B11 := B6.same sB
      have tb11 := tb6.ext sB
      -- what is no form
      refine ⟨_, rfl, b, sb, 9, rfl, B11, by decide, by decide, fun z H12 z0 z1 B12 k12 => ⟨1, z, rfl, rfl, ?_⟩⟩
      have tb12 := tabs_keep tb11 B11 k12
      obtain ⟨g1, g2, g3, g4, g5, g6⟩ := bad_forms (f := 1 + z) (by omega)
      have bz : (1 + z).natAbs ≤ 9 := by omega
      have bz2 : ((1 + z) * (1 + z)).natAbs ≤ 9 * 9 := by
        rw [Int.natAbs_mul]
        exact Nat.mul_le_mul bz bz
      dsimp only
      generalize 1 + z = fz at g1 g2 g3 g4 g5 g6 bz bz2 ⊢
      refine ⟨_, rfl, _, rfl, by show 3 ≤ sizeLine; decide, fun t1 m1 => ?_⟩
      refine ⟨_, rfl, 0, fz, rfl, rfl, _, rfl, by show 3 ≤ sizeLine; decide, fun t2 m2 => ?_⟩
      refine ⟨_, rfl, _, rfl, _, rfl, by show 3 ≤ sizeLine; decide, fun t3 m3 => ?_⟩
      refine ⟨_, rfl, by show 3 ≤ sizeLine; decide, fun t4 m4 => ?_⟩
      refine ⟨1, rfl, _, rfl, 0, fz, rfl, rfl, by show 3 ≤ sizeLine; decide, fun t5 m5 => ?_⟩
      refine ⟨_, rfl, _, rfl, _, rfl, fz, fz, rfl, rfl, .inl (by omega), by show 3 ≤ sizeLine; decide, fun t6 m6 => ⟨by show 6 ≤ sizeLine; decide, fun l nl => ?_⟩⟩
      dsimp only at m1 m2 m3 m4 m5 m6 nl ⊢
      have E1 := same_new (o := .tup [.int 0, .int 0, .int fz]) m1
      have E2 := same_new (o := .tup [.int (0 - fz), .int 0, .int fz]) m2
      have E3 := same_new (o := .tup [.int fz, .int fz, .int fz]) m3
      have E4 := same_new (o := .tup [.int fz, .int 0, .int 0]) m4
      have E5 := same_new (o := .tup [.int (-1), .int 0, .int (0 - fz)]) m5
      have E6 := same_new (o := .tup [.int 1, .int fz, .int (fz * fz)]) m6
      have E7 := same_new (o := .lst [.ref t1, .ref t2, .ref t3, .ref t4, .ref t5, .ref t6]) nl
      have EE := E1.trans (E2.trans (E3.trans (E4.trans (E5.trans (E6.trans E7)))))
      have B13 := B12.same EE
      have tb13 := tb12.ext EE
      have nlb : l ≠ b := (B12.same (E1.trans (E2.trans (E3.trans (E4.trans (E5.trans E6)))))).ne nl
      refine ⟨b, sb, l, _, rfl, B13, upd_same, nlb, by simp, by simp, fun j v H14 hv B14 k14 => ?_⟩
      have tb14 := tabs_keep tb13 B13 k14
      obtain ⟨pb, xa', xb', xc', rfl, nF, w1, w2, w3, hb⟩ : ∃ (pb : Addr) (xa xb xc : Int), v = .ref pb ∧ ¬ IsForm xa xb xc ∧ xa.natAbs ≤ 81 ∧ xb.natAbs ≤ 81 ∧ xc.natAbs ≤ 81 ∧ H14 pb = some (.tup [.int xa, .int xb, .int xc]) := by
        match j, hv with
        | 0, hv => cases hv; exact ⟨t1, _, _, _, rfl, g1, by omega, by omega, by omega, tk B13 k14 ((E2.trans (E3.trans (E4.trans (E5.trans (E6.trans E7))))) _ _ upd_same)⟩
        | 1, hv => cases hv; exact ⟨t2, _, _, _, rfl, g2, by omega, by omega, by omega, tk B13 k14 ((E3.trans (E4.trans (E5.trans (E6.trans E7)))) _ _ upd_same)⟩
        | 2, hv => cases hv; exact ⟨t3, _, _, _, rfl, g3, by omega, by omega, by omega, tk B13 k14 ((E4.trans (E5.trans (E6.trans E7))) _ _ upd_same)⟩
        | 3, hv => cases hv; exact ⟨t4, _, _, _, rfl, g4, by omega, by omega, by omega, tk B13 k14 ((E5.trans (E6.trans E7)) _ _ upd_same)⟩
        | 4, hv => cases hv; exact ⟨t5, _, _, _, rfl, g5, by omega, by omega, by omega, tk B13 k14 ((E6.trans E7) _ _ upd_same)⟩
        | 5, hv => cases hv; exact ⟨t6, _, _, _, rfl, g6, by omega, by omega, by omega, tk B13 k14 (E7 _ _ upd_same)⟩
        | j + 6, hv => simp at hv
      have w4 : ∀ {x : Int}, x.natAbs ≤ 81 → x.natAbs < 2 ^ 300 := fun h => Nat.lt_of_le_of_lt h (Nat.lt_of_lt_of_le (show 81 < 2 ^ 7 by decide) (Nat.pow_le_pow_right (by decide) (by decide)))
      refine ⟨tb14, fun H15 e15 t15 => ?_⟩
      refine ⟨_, rfl, pb, xa', xb', xc', rfl, SqT.of (tup_extN hb e15), w4 w1, w4 w2, w4 w3, fun _ d Hf nd sf hd => raised_bad T hd fun H16 p s16 hp => ?_, fun z => absurd z nF⟩
      refine ⟨by show 2 ≤ sizeLine; decide, fun td ntd => ?_⟩
      have e16 := same_new (o := .tup [.str "BadForm", .non]) ntd
      refine ⟨.tuple [.str "BadForm", .none], .tuple [.str "BadForm", .none], .tup (SqT.of (e16 _ _ hp)) (.cons (.str _) (.cons .non .nil)), .tup (SqT.of upd_same) (.cons (.str _) (.cons .non .nil)), sbadf, sbadf, false, (by rw [ebadf]; rfl), iteF ?_⟩
      exact ⟨_, _, _, _, _, _, _, _, _, _, rfl, (B14.extN e15).same (sf.trans (s16.trans e16)), t15.ext (sf.trans (s16.trans e16))⟩
    · rintro σ H2 ⟨y2, y3, y4, y5, y6, y7, y8, y9, y10, y11, rfl, B2, tb2⟩
      have w5 : ∀ {x : Int}, x.natAbs ≤ 81 → x.natAbs < 2 ^ 300 := fun h => Nat.lt_of_le_of_lt h (Nat.lt_of_lt_of_le (show 81 < 2 ^ 7 by decide) (Nat.pow_le_pow_right (by decide) (by decide)))
      refine ⟨by show 3 ≤ sizeLine; decide, fun t1 n1 => ?_⟩
      have F1 : IsForm 5 7 10 := ⟨by decide, by decide⟩
      refine ⟨t1, 5, 7, 10, rfl, SqT.of upd_same, w5 (by decide), w5 (by decide), w5 (by decide), fun z => absurd F1 z, fun _ p0 pd o1 o2 ra rb rc rx ry rz rw' H6 n0 s6 R r => ?_⟩
      have q1 := red_one r.red r.frm.1 (show IsRed 1 0 1 from ⟨by decide, by decide, by decide⟩) (by decide) (r.feq.symm.trans ⟨3, -2, -1, 1, .inl (by decide), by decide, by decide, by decide⟩)
      refine ⟨p0, _, 0, .ref pd, rfl, rfl, SqT.of R.hp, atI_nat (j := 0) rfl, by show 3 ≤ sizeLine; decide, fun t2 n2 => ?_⟩
      refine ⟨_, _, dtrip (same_new n2 _ _ R.hf), dtrip upd_same, rfl, rfl, true, (by rw [eqv3_t q1]), iteT ?_⟩
      refine ⟨by show 3 ≤ sizeLine; decide, fun t3 n3 => ?_⟩
      have F2 : IsForm 2 1 2 := ⟨by decide, by decide⟩
      refine ⟨t3, 2, 1, 2, rfl, SqT.of upd_same, w5 (by decide), w5 (by decide), w5 (by decide), fun z => absurd F2 z, fun _ p1 pe o3 o4 xa xb xc x1 x2 x3 x4 H7 n7 s7 R7 r7 => ?_⟩
      have q2 := red_one r7.red r7.frm.1 (show IsRed 2 1 2 from ⟨by decide, by decide, by decide⟩) (by decide) r7.feq.symm
      refine ⟨p1, _, 0, .ref pe, rfl, rfl, SqT.of R7.hp, atI_nat (j := 0) rfl, by show 3 ≤ sizeLine; decide, fun t4 n4 => ?_⟩
      refine ⟨_, _, dtrip (same_new n4 _ _ R7.hf), dtrip upd_same, rfl, rfl, ?_⟩
      rw [eqv3_t q2]
      exact q _
end
theorem all_mk {w : World} {K : PySem.W.Frag} {h : Heap} {mg : Str → Option Value} {fa : Addr} (X : K.In h) (G : h.Ns mainGlobals mg) (hfa : mg "law" = some (.ref fa)) {l : PySem.W.OpenLaw} (hprog : l.prog = PySem.Challenge.pw_grainyard_k47_reduced_forms) {cL PL : Addr}
    {od0 an0 : Option Addr} {sl0 : Array (Option Value)} {kV0 oc0 dc0 pm0 cd0 ct0 : Value} {f0 : Addr}
    (a0 : PySem.W.nsIn K mainGlobals "added" = some (some (.ref f0))) (l0 : K.lookup f0 = some ⟨oc0, od0, .func (PySem.W.fnOf "added" "added" (defArgs s_added) (defBody s_added) (defScope s_added) .none kV0 dc0 pm0 an0 cd0 ct0), sl0⟩) (c0 : PySem.W.codeIn K cd0 "added" = true) (k0 : PySem.W.keepIn K (.ref f0) = true)
    {od1 an1 : Option Addr} {sl1 : Array (Option Value)} {kV1 oc1 dc1 pm1 cd1 ct1 : Value} {f1 : Addr}
    (a1 : PySem.W.nsIn K mainGlobals "scaled" = some (some (.ref f1))) (l1 : K.lookup f1 = some ⟨oc1, od1, .func (PySem.W.fnOf "scaled" "scaled" (defArgs s_scaled) (defBody s_scaled) (defScope s_scaled) .none kV1 dc1 pm1 an1 cd1 ct1), sl1⟩) (c1 : PySem.W.codeIn K cd1 "scaled" = true) (k1 : PySem.W.keepIn K (.ref f1) = true)
    {od2 an2 : Option Addr} {sl2 : Array (Option Value)} {kV2 oc2 dc2 pm2 cd2 ct2 : Value} {f2 : Addr}
    (a2 : PySem.W.nsIn K mainGlobals "reduced" = some (some (.ref f2))) (l2 : K.lookup f2 = some ⟨oc2, od2, .func (PySem.W.fnOf "reduced" "reduced" (defArgs s_reduced) (defBody s_reduced) (defScope s_reduced) .none kV2 dc2 pm2 an2 cd2 ct2), sl2⟩) (c2 : PySem.W.codeIn K cd2 "reduced" = true) (k2 : PySem.W.keepIn K (.ref f2) = true)
    {od3 an3 : Option Addr} {sl3 : Array (Option Value)} {kV3 oc3 dc3 pm3 cd3 ct3 : Value} {f3 : Addr}
    (a3 : PySem.W.nsIn K mainGlobals "_law_source" = some (some (.ref f3))) (l3 : K.lookup f3 = some ⟨oc3, od3, .func (PySem.W.fnOf "_law_source" "_law_source" (defArgs s_source) (defBody s_source) (defScope s_source) .none kV3 dc3 pm3 an3 cd3 ct3), sl3⟩) (c3 : PySem.W.codeIn K cd3 "_law_source" = true) (k3 : PySem.W.keepIn K (.ref f3) = true)
    {od4 an4 : Option Addr} {sl4 : Array (Option Value)} {kV4 oc4 dc4 pm4 cd4 ct4 : Value} {f4 : Addr}
    (a4 : PySem.W.nsIn K mainGlobals "_law_pull" = some (some (.ref f4))) (l4 : K.lookup f4 = some ⟨oc4, od4, .func (PySem.W.fnOf "_law_pull" "_law_pull" (defArgs s_pull) (defBody s_pull) (defScope s_pull) .none kV4 dc4 pm4 an4 cd4 ct4), sl4⟩) (c4 : PySem.W.codeIn K cd4 "_law_pull" = true) (k4 : PySem.W.keepIn K (.ref f4) = true)
    {od5 an5 : Option Addr} {sl5 : Array (Option Value)} {kV5 oc5 dc5 pm5 cd5 ct5 : Value} {f5 : Addr}
    (a5 : PySem.W.nsIn K mainGlobals "_law_of" = some (some (.ref f5))) (l5 : K.lookup f5 = some ⟨oc5, od5, .func (PySem.W.fnOf "_law_of" "_law_of" (defArgs s_of) (defBody s_of) (defScope s_of) .none kV5 dc5 pm5 an5 cd5 ct5), sl5⟩) (c5 : PySem.W.codeIn K cd5 "_law_of" = true) (k5 : PySem.W.keepIn K (.ref f5) = true)
    {od6 an6 : Option Addr} {sl6 : Array (Option Value)} {kV6 oc6 dc6 pm6 cd6 ct6 : Value} {f6 : Addr}
    (a6 : PySem.W.nsIn K mainGlobals "_law_any_pair" = some (some (.ref f6))) (l6 : K.lookup f6 = some ⟨oc6, od6, .func (PySem.W.fnOf "_law_any_pair" "_law_any_pair" (defArgs s_any_pair) (defBody s_any_pair) (defScope s_any_pair) .none kV6 dc6 pm6 an6 cd6 ct6), sl6⟩) (c6 : PySem.W.codeIn K cd6 "_law_any_pair" = true) (k6 : PySem.W.keepIn K (.ref f6) = true)
    {od7 an7 : Option Addr} {sl7 : Array (Option Value)} {kV7 oc7 dc7 pm7 cd7 ct7 : Value} {f7 : Addr}
    (a7 : PySem.W.nsIn K mainGlobals "_law_a_form" = some (some (.ref f7))) (l7 : K.lookup f7 = some ⟨oc7, od7, .func (PySem.W.fnOf "_law_a_form" "_law_a_form" (defArgs s_a_form) (defBody s_a_form) (defScope s_a_form) .none kV7 dc7 pm7 an7 cd7 ct7), sl7⟩) (c7 : PySem.W.codeIn K cd7 "_law_a_form" = true) (k7 : PySem.W.keepIn K (.ref f7) = true)
    {od8 an8 : Option Addr} {sl8 : Array (Option Value)} {kV8 oc8 dc8 pm8 cd8 ct8 : Value} {f8 : Addr}
    (a8 : PySem.W.nsIn K mainGlobals "_law_edge" = some (some (.ref f8))) (l8 : K.lookup f8 = some ⟨oc8, od8, .func (PySem.W.fnOf "_law_edge" "_law_edge" (defArgs s_edge) (defBody s_edge) (defScope s_edge) .none kV8 dc8 pm8 an8 cd8 ct8), sl8⟩) (c8 : PySem.W.codeIn K cd8 "_law_edge" = true) (k8 : PySem.W.keepIn K (.ref f8) = true)
    {od9 an9 : Option Addr} {sl9 : Array (Option Value)} {kV9 oc9 dc9 pm9 cd9 ct9 : Value} {f9 : Addr}
    (a9 : PySem.W.nsIn K mainGlobals "_law_like" = some (some (.ref f9))) (l9 : K.lookup f9 = some ⟨oc9, od9, .func (PySem.W.fnOf "_law_like" "_law_like" (defArgs s_like) (defBody s_like) (defScope s_like) .none kV9 dc9 pm9 an9 cd9 ct9), sl9⟩) (c9 : PySem.W.codeIn K cd9 "_law_like" = true) (k9 : PySem.W.keepIn K (.ref f9) = true)
    {od10 an10 : Option Addr} {sl10 : Array (Option Value)} {kV10 oc10 dc10 pm10 cd10 ct10 : Value} {f10 : Addr}
    (a10 : PySem.W.nsIn K mainGlobals "_law_value_at" = some (some (.ref f10))) (l10 : K.lookup f10 = some ⟨oc10, od10, .func (PySem.W.fnOf "_law_value_at" "_law_value_at" (defArgs s_value_at) (defBody s_value_at) (defScope s_value_at) .none kV10 dc10 pm10 an10 cd10 ct10), sl10⟩) (c10 : PySem.W.codeIn K cd10 "_law_value_at" = true) (k10 : PySem.W.keepIn K (.ref f10) = true)
    {od11 an11 : Option Addr} {sl11 : Array (Option Value)} {kV11 oc11 dc11 pm11 cd11 ct11 : Value} {f11 : Addr}
    (a11 : PySem.W.nsIn K mainGlobals "_law_led" = some (some (.ref f11))) (l11 : K.lookup f11 = some ⟨oc11, od11, .func (PySem.W.fnOf "_law_led" "_law_led" (defArgs s_led) (defBody s_led) (defScope s_led) .none kV11 dc11 pm11 an11 cd11 ct11), sl11⟩) (c11 : PySem.W.codeIn K cd11 "_law_led" = true) (k11 : PySem.W.keepIn K (.ref f11) = true)
    {od12 an12 : Option Addr} {sl12 : Array (Option Value)} {kV12 oc12 dc12 pm12 cd12 ct12 : Value} {f12 : Addr}
    (a12 : PySem.W.nsIn K mainGlobals "_law_is_pair" = some (some (.ref f12))) (l12 : K.lookup f12 = some ⟨oc12, od12, .func (PySem.W.fnOf "_law_is_pair" "_law_is_pair" (defArgs s_is_pair) (defBody s_is_pair) (defScope s_is_pair) .none kV12 dc12 pm12 an12 cd12 ct12), sl12⟩) (c12 : PySem.W.codeIn K cd12 "_law_is_pair" = true) (k12 : PySem.W.keepIn K (.ref f12) = true)
    {od13 an13 : Option Addr} {sl13 : Array (Option Value)} {kV13 oc13 dc13 pm13 cd13 ct13 : Value} {f13 : Addr}
    (a13 : PySem.W.nsIn K mainGlobals "_law_field_of" = some (some (.ref f13))) (l13 : K.lookup f13 = some ⟨oc13, od13, .func (PySem.W.fnOf "_law_field_of" "_law_field_of" (defArgs s_field_of) (defBody s_field_of) (defScope s_field_of) .none kV13 dc13 pm13 an13 cd13 ct13), sl13⟩) (c13 : PySem.W.codeIn K cd13 "_law_field_of" = true) (k13 : PySem.W.keepIn K (.ref f13) = true)
    {od14 an14 : Option Addr} {sl14 : Array (Option Value)} {kV14 oc14 dc14 pm14 cd14 ct14 : Value} {f14 : Addr}
    (a14 : PySem.W.nsIn K mainGlobals "_law_try" = some (some (.ref f14))) (l14 : K.lookup f14 = some ⟨oc14, od14, .func (PySem.W.fnOf "_law_try" "_law_try" (defArgs s_try) (defBody s_try) (defScope s_try) .none kV14 dc14 pm14 an14 cd14 ct14), sl14⟩) (c14 : PySem.W.codeIn K cd14 "_law_try" = true) (k14 : PySem.W.keepIn K (.ref f14) = true)
    {od15 an15 : Option Addr} {sl15 : Array (Option Value)} {kV15 oc15 dc15 pm15 ct15 : Value} {f15 : Addr}
    (a15 : PySem.W.nsIn K mainGlobals "law" = some (some (.ref f15))) (l15 : K.lookup f15 = some ⟨oc15, od15, .func (PySem.W.fnOf "law" "law" (defArgs s_law) (defBody s_law) (defScope s_law) .none kV15 dc15 pm15 an15 (.ref cL) ct15), sl15⟩) (c15 : PySem.W.codeIn K (.ref cL) "law" = true) (k15 : PySem.W.keepIn K (.ref f15) = true)
    (z0 : PySem.W.nsIn K mainGlobals "ValueError" = some none)
    (z1 : PySem.W.nsIn K mainGlobals "LookupError" = some none)
    (z2 : PySem.W.nsIn K mainGlobals "IndexError" = some none)
    (z3 : PySem.W.nsIn K mainGlobals "isinstance" = some none)
    (z4 : PySem.W.nsIn K mainGlobals "range" = some none)
    (z5 : PySem.W.nsIn K mainGlobals "sum" = some none)
    (z6 : PySem.W.nsIn K mainGlobals "list" = some none)
    (z7 : PySem.W.nsIn K mainGlobals "tuple" = some none)
    (z8 : PySem.W.nsIn K mainGlobals "int" = some none)
    (z9 : PySem.W.nsIn K mainGlobals "len" = some none)
    (z10 : PySem.W.nsIn K mainGlobals "all" = some none)
    (z11 : PySem.W.nsIn K mainGlobals "bool" = some none)
    (z12 : PySem.W.nsIn K mainGlobals "abs" = some none)
    (hn : PySem.W.specialIn K (.builtin "object.__class__") "__get__" = some (some (.builtin "getset_descriptor.__get__"))) (ht : PySem.W.takesIn K (.builtin "object.__class__") = some true)
    {CGrainError : Addr} {DGrainError : ClassData} (aGrainError : PySem.W.nsIn K mainGlobals "GrainError" = some (some (.ref CGrainError))) (cGrainError : PySem.W.clsIn K CGrainError = some DGrainError) (nGrainError : DGrainError.name = "GrainError") (tGrainError : PySem.W.typeIn K (.ref CGrainError) = some (.type "type")) (sbGrainError : PySem.W.subIn K (.ref CGrainError) (.type "BaseException") = some true)
    {CGrainMissing : Addr} {DGrainMissing : ClassData} (aGrainMissing : PySem.W.nsIn K mainGlobals "GrainMissing" = some (some (.ref CGrainMissing))) (cGrainMissing : PySem.W.clsIn K CGrainMissing = some DGrainMissing) (nGrainMissing : DGrainMissing.name = "GrainMissing") (tGrainMissing : PySem.W.typeIn K (.ref CGrainMissing) = some (.type "type")) (sbGrainMissing : PySem.W.subIn K (.ref CGrainMissing) (.type "BaseException") = some true)
    (E_BadForm : ErW PySem.Challenge.pw_grainyard_k47_reduced_forms K mg "ValueError" "ValueError.__new__" "ValueError.__init__" [.type "ValueError", .type "Exception", .type "BaseException", .type "object"] [.ref CGrainError] i_BadForm "BadForm" "BadForm.__init__" ["word"])
    (E_NothingLeft : ErW PySem.Challenge.pw_grainyard_k47_reduced_forms K mg "IndexError" "IndexError.__new__" "IndexError.__init__" [.type "IndexError", .type "LookupError", .type "Exception", .type "BaseException", .type "object"] [] i_NothingLeft "NothingLeft" "NothingLeft.__init__" ["word"])
    (tabL : h.get? PL = some { cls := .none, data := .fields #[] }) (noL : K.lookup PL = none) (hdL : PySem.W.codeHdIn K cL PL = true) : LamX.LawAtS l w K CX0 12 63 "_law_script" mg fa h := by
  have e := hfa.symm.trans (PySem.W.mg_of X G a15)
  cases e
  have F0 := fun_mk (st := s_added) l0 c0 k0
  have F1 := fun_mk (st := s_scaled) l1 c1 k1
  have b1 := F1.binds (ps := ["pair", "number"]) fun _ _ _ _ _ _ us hl => match us, hl with | [_, _], _ => rfl
  have F2 := fun_mk (st := s_reduced) l2 c2 k2
  have b2 := F2.binds (ps := ["form"]) fun _ _ _ _ _ _ us hl => match us, hl with | [_], _ => rfl
  have F3 := fun_mk (st := s_source) l3 c3 k3
  have b3 := F3.binds (ps := ["_law_script"]) fun _ _ _ _ _ _ us hl => match us, hl with | [_], _ => rfl
  have F4 := fun_mk (st := s_pull) l4 c4 k4
  have b4 := F4.binds (ps := ["_law_bag", "_law_size"]) fun _ _ _ _ _ _ us hl => match us, hl with | [_, _], _ => rfl
  have F5 := fun_mk (st := s_of) l5 c5 k5
  have b5 := F5.binds (ps := ["_law_bag", "_law_some"]) fun _ _ _ _ _ _ us hl => match us, hl with | [_, _], _ => rfl
  have F6 := fun_mk (st := s_any_pair) l6 c6 k6
  have b6 := F6.binds (ps := ["_law_bag"]) fun _ _ _ _ _ _ us hl => match us, hl with | [_], _ => rfl
  have F7 := fun_mk (st := s_a_form) l7 c7 k7
  have b7 := F7.binds (ps := ["_law_bag"]) fun _ _ _ _ _ _ us hl => match us, hl with | [_], _ => rfl
  have F8 := fun_mk (st := s_edge) l8 c8 k8
  have b8 := F8.binds (ps := ["_law_bag"]) fun _ _ _ _ _ _ us hl => match us, hl with | [_], _ => rfl
  have F9 := fun_mk (st := s_like) l9 c9 k9
  have b9 := F9.binds (ps := ["_law_found", "_law_due"]) fun _ _ _ _ _ _ us hl => match us, hl with | [_, _], _ => rfl
  have F10 := fun_mk (st := s_value_at) l10 c10 k10
  have b10 := F10.binds (ps := ["_law_form_z", "_law_pair"]) fun _ _ _ _ _ _ us hl => match us, hl with | [_, _], _ => rfl
  have F11 := fun_mk (st := s_led) l11 c11 k11
  have b11 := F11.binds (ps := ["_law_form_z", "_law_x", "_law_y"]) fun _ _ _ _ _ _ us hl => match us, hl with | [_, _, _], _ => rfl
  have F12 := fun_mk (st := s_is_pair) l12 c12 k12
  have b12 := F12.binds (ps := ["_law_x"]) fun _ _ _ _ _ _ us hl => match us, hl with | [_], _ => rfl
  have F13 := fun_mk (st := s_field_of) l13 c13 k13
  have b13 := F13.binds (ps := ["_law_e"]) fun _ _ _ _ _ _ us hl => match us, hl with | [_], _ => rfl
  have F14 := fun_mk (st := s_try) l14 c14 k14
  have b14 := F14.binds (ps := ["_law_ask"]) fun _ _ _ _ _ _ us hl => match us, hl with | [_], _ => rfl
  have F15 := fun_mk (st := s_law) l15 c15 k15
  have T : Txt K mg := {
    f_added := f0
    d_added := _
    F_added := F0
    g_added := PySem.W.mg_of X G a0
    f_scaled := f1
    d_scaled := _
    F_scaled := F1
    g_scaled := PySem.W.mg_of X G a1
    b_scaled := b1
    f_reduced := f2
    d_reduced := _
    F_reduced := F2
    g_reduced := PySem.W.mg_of X G a2
    b_reduced := b2
    f_source := f3
    d_source := _
    F_source := F3
    g_source := PySem.W.mg_of X G a3
    b_source := b3
    f_pull := f4
    d_pull := _
    F_pull := F4
    g_pull := PySem.W.mg_of X G a4
    b_pull := b4
    f_of := f5
    d_of := _
    F_of := F5
    g_of := PySem.W.mg_of X G a5
    b_of := b5
    f_any_pair := f6
    d_any_pair := _
    F_any_pair := F6
    g_any_pair := PySem.W.mg_of X G a6
    b_any_pair := b6
    f_a_form := f7
    d_a_form := _
    F_a_form := F7
    g_a_form := PySem.W.mg_of X G a7
    b_a_form := b7
    f_edge := f8
    d_edge := _
    F_edge := F8
    g_edge := PySem.W.mg_of X G a8
    b_edge := b8
    f_like := f9
    d_like := _
    F_like := F9
    g_like := PySem.W.mg_of X G a9
    b_like := b9
    f_value_at := f10
    d_value_at := _
    F_value_at := F10
    g_value_at := PySem.W.mg_of X G a10
    b_value_at := b10
    f_led := f11
    d_led := _
    F_led := F11
    g_led := PySem.W.mg_of X G a11
    b_led := b11
    f_is_pair := f12
    d_is_pair := _
    F_is_pair := F12
    g_is_pair := PySem.W.mg_of X G a12
    b_is_pair := b12
    f_field_of := f13
    d_field_of := _
    F_field_of := F13
    g_field_of := PySem.W.mg_of X G a13
    b_field_of := b13
    f_try := f14
    d_try := _
    F_try := F14
    g_try := PySem.W.mg_of X G a14
    b_try := b14
    n_ValueError := PySem.W.mg_none_of X G z0
    n_LookupError := PySem.W.mg_none_of X G z1
    n_IndexError := PySem.W.mg_none_of X G z2
    n_isinstance := PySem.W.mg_none_of X G z3
    n_range := PySem.W.mg_none_of X G z4
    n_sum := PySem.W.mg_none_of X G z5
    n_list := PySem.W.mg_none_of X G z6
    n_tuple := PySem.W.mg_none_of X G z7
    n_int := PySem.W.mg_none_of X G z8
    n_len := PySem.W.mg_none_of X G z9
    n_all := PySem.W.mg_none_of X G z10
    n_bool := PySem.W.mg_none_of X G z11
    n_abs := PySem.W.mg_none_of X G z12
    kb_reduced_form := kbn_reduced_form F2
    r_GrainError := CGrainError
    g_GrainError := PySem.W.mg_of X G aGrainError
    c_GrainError := .intro _ ⟨cGrainError,nGrainError⟩
    t_GrainError := tGrainError
    sb_GrainError := sbGrainError
    r_GrainMissing := CGrainMissing
    g_GrainMissing := PySem.W.mg_of X G aGrainMissing
    c_GrainMissing := .intro _ ⟨cGrainMissing,nGrainMissing⟩
    t_GrainMissing := tGrainMissing
    sb_GrainMissing := sbGrainMissing
    e_BadForm := E_BadForm.e
    x_BadForm_word := E_BadForm.no _ (by simp)
    e_NothingLeft := E_NothingLeft.e
    x_NothingLeft_word := E_NothingLeft.no _ (by simp)
    hn := hn
    ht := ht }
  refine ⟨PySem.W.fnOf "law" "law" (defArgs s_law) (defBody s_law) (defScope s_law) .none kV15 dc15 pm15 an15 (.ref cL) ct15, [(cL, PL)], spLaw K PL, fun p hp => ?_, fun p hp => ?_, fun p hp => ?_, fun s v => .of_eq rfl, fun H a ns hl _ hP hS => ⟨a, ns, rfl, hS, hl, hP _ (List.mem_singleton.mpr rfl), fun _ => rfl⟩, fun base _ _ TB => ?_⟩
  · rw [List.mem_singleton.mp hp]
    exact tabL
  · rw [List.mem_singleton.mp hp]
    exact noL
  · rw [List.mem_singleton.mp hp]
    exact PySem.W.codeHd_of_K X hdL
  · rw [hprog]
    exact ok_law l15 c15 (TB _ (List.mem_singleton.mpr rfl)) T
end Gy
open PySem PySem.W PyProof.Rows
set_option maxRecDepth 100000 in
set_option maxHeartbeats 0 in
theorem PySem.Challenge.cw_grainyard_k47_reduced_forms_holds : PySem.Challenge.rw_grainyard_k47_reduced_forms.Holds := by
  w_on; o_law; k_head; (case hw => w_witness2)
  k_fill
  refine LamX.walk_ofTs (l := PySem.Challenge.rw_grainyard_k47_reduced_forms) (n := 63) (k := 12) (x := "_law_script") (CX := fun _ => L2.CX0) rfl (by decide) rfl ⟨rfl, by decide, by decide⟩ (fun w h Y => PySem.W.km_in_of Y) ?F (fun _ _ _ _ _ h => h)
  case F =>
    intro w mg fa h Y KX G hmg
    have hT := PySem.W.km_tabs_of Y
    refine' Gy.all_mk KX G hmg rfl ?a0 ?l0 ?c0 ?k0 ?a1 ?l1 ?c1 ?k1 ?a2 ?l2 ?c2 ?k2 ?a3 ?l3 ?c3 ?k3 ?a4 ?l4 ?c4 ?k4 ?a5 ?l5 ?c5 ?k5 ?a6 ?l6 ?c6 ?k6 ?a7 ?l7 ?c7 ?k7 ?a8 ?l8 ?c8 ?k8 ?a9 ?l9 ?c9 ?k9 ?a10 ?l10 ?c10 ?k10 ?a11 ?l11 ?c11 ?k11 ?a12 ?l12 ?c12 ?k12 ?a13 ?l13 ?c13 ?k13 ?a14 ?l14 ?c14 ?k14 ?a15 ?l15 ?c15 ?k15 ?z0 ?z1 ?z2 ?z3 ?z4 ?z5 ?z6 ?z7 ?z8 ?z9 ?z10 ?z11 ?z12 ?hn ?ht ?aGrainError ?cGrainError ?nGrainError ?tGrainError ?sbGrainError ?aGrainMissing ?cGrainMissing ?nGrainMissing ?tGrainMissing ?sbGrainMissing ?E_BadForm ?E_NothingLeft ?tabL ?noL ?hdL
    (case a0 => k_is); (case l0 => k_is); (case c0 => k_is); (case k0 => k_is); (case a1 => k_is); (case l1 => k_is); (case c1 => k_is); (case k1 => k_is); (case a2 => k_is); (case l2 => k_is); (case c2 => k_is); (case k2 => k_is); (case a3 => k_is); (case l3 => k_is); (case c3 => k_is); (case k3 => k_is); (case a4 => k_is); (case l4 => k_is); (case c4 => k_is); (case k4 => k_is); (case a5 => k_is); (case l5 => k_is); (case c5 => k_is); (case k5 => k_is); (case a6 => k_is); (case l6 => k_is); (case c6 => k_is); (case k6 => k_is); (case a7 => k_is); (case l7 => k_is); (case c7 => k_is); (case k7 => k_is); (case a8 => k_is); (case l8 => k_is); (case c8 => k_is); (case k8 => k_is); (case a9 => k_is); (case l9 => k_is); (case c9 => k_is); (case k9 => k_is); (case a10 => k_is); (case l10 => k_is); (case c10 => k_is); (case k10 => k_is); (case a11 => k_is); (case l11 => k_is); (case c11 => k_is); (case k11 => k_is); (case a12 => k_is); (case l12 => k_is); (case c12 => k_is); (case k12 => k_is); (case a13 => k_is); (case l13 => k_is); (case c13 => k_is); (case k13 => k_is); (case a14 => k_is); (case l14 => k_is); (case c14 => k_is); (case k14 => k_is); (case a15 => k_is); (case l15 => k_is); (case c15 => k_is); (case k15 => k_is); (case z0 => k_is); (case z1 => k_is); (case z2 => k_is); (case z3 => k_is); (case z4 => k_is); (case z5 => k_is); (case z6 => k_is); (case z7 => k_is); (case z8 => k_is); (case z9 => k_is); (case z10 => k_is); (case z11 => k_is); (case z12 => k_is); (case hn => k_is); (case ht => k_is); (case aGrainError => k_is); (case cGrainError => k_is); (case nGrainError => rfl); (case tGrainError => k_is); (case sbGrainError => k_is); (case aGrainMissing => k_is); (case cGrainMissing => k_is); (case nGrainMissing => rfl); (case tGrainMissing => k_is); (case sbGrainMissing => k_is); (case E_BadForm => refine' Gy.erw1 (P := PySem.Challenge.pw_grainyard_k47_reduced_forms) KX G ?op ?nsu (by decide +kernel) (by decide +kernel) (by decide +kernel) ?ht rfl rfl (by decide +kernel) (by decide +kernel) (by decide +kernel) (by decide +kernel) ?aC ?lC ?aI ?lI ?cI ?lc ?lco ?sa ?ga ?gt ?kp ?cl ?su ?hvs ?hfi ?x0; (case op => k_is); (case nsu => k_is); (case aC => k_is); (case lC => k_is); (case ht => decide +kernel); (case aI => k_is); (case lI => k_is); (case cI => k_is); (case lc => k_is); (case lco => k_is); (case sa => k_is); (case ga => k_is); (case gt => k_is); (case kp => k_is); (case cl => k_is); (case su => first | k_is | ks_is); (case hvs => rfl); (case hfi => decide +kernel); (case x0 => k_is)); (case E_NothingLeft => refine' Gy.erw1 (P := PySem.Challenge.pw_grainyard_k47_reduced_forms) KX G ?op ?nsu (by decide +kernel) (by decide +kernel) (by decide +kernel) ?ht rfl rfl (by decide +kernel) (by decide +kernel) (by decide +kernel) (by decide +kernel) ?aC ?lC ?aI ?lI ?cI ?lc ?lco ?sa ?ga ?gt ?kp ?cl ?su ?hvs ?hfi ?x0; (case op => k_is); (case nsu => k_is); (case aC => k_is); (case lC => k_is); (case ht => decide +kernel); (case aI => k_is); (case lI => k_is); (case cI => k_is); (case lc => k_is); (case lco => k_is); (case sa => k_is); (case ga => k_is); (case gt => k_is); (case kp => k_is); (case cl => k_is); (case su => first | k_is | ks_is); (case hvs => rfl); (case hfi => decide +kernel); (case x0 => k_is)); (case tabL => exact hT _ List.mem_cons_self); (case noL => kernel_rfl); (case hdL => kernel_rfl)

