import PyProof.Rows.All
import Wide.All
import OpenK.AllK
import Wide.FinOn
import HandS.ForMost
import HandS.Wide
import HandS.WideBits
import HandS.IsInst
import HandS.Defaults
import HandS.Star
import HandS.Evl
import HandS.NoneIn
import HandS.Style
import HandS.SlotsOwn
import HandS.MakeKwOnly
import HandS.ForExc
import HandS.ExcInit
import HandS.MapJoin
import HandS.NestedK
import HandS.Lambda
import HandS.EndTab
import HandS.TryMany
import HandS.HotCalls
import HandS.ExcField
import HandS.ClsMeth
import KE.KExcSuper
import KE.KExcIs
import KE.KOpsOwn
import KE.KNestM
import HandS.Property
import KE.DataEq
import HandS.Deep
import HandS.TupAny
import HandS.Zip
import HandS.Dict
import HandS.More
import HandS.FStr
import HandS.Text
import HandS.RaiseMore
import HandS.DictComp
import HandS.DictTup
import HandS.Conv
import HandS.Comp
import KE.KDictKeyed
import KE.KeyNested
import KE.SortData
import KE.KDictItemsList
import KE.GoesMore
import PySem.Challenge.RW_grainyard_k21_reverse_steps
set_option genInjectivity false
set_option genSizeOf false
set_option Elab.async false
set_option linter.all false
set_option maxRecDepth 100000
set_option maxHeartbeats 4000000
namespace Gy
open PySem PySem.Spec PyProof.Rows L2
/-! ### an error's fields, wherever its object is pinned -/
section
variable {X : Cx} {a : Addr} {oe : Obj} {cls : Value} {d : Option Addr} {e : Expr} {te : TE} {pos : Pos} {n : Str}
/-- a.f of the error at a whose class is cls and whose dict stands at d -/
def tXfA (K : PySem.W.Frag) (a : Addr) (cls : Value) (d : Option Addr) (f : Str) (te : TE) : TE := fun σ H Q => te σ H fun x H1 => x = .ref a ∧
  ∃ (C dd : Addr) (fs : List (Str × V)) (v : V), cls = .ref C ∧ d = some dd ∧ XfC K C ∧ PySem.W.findIn K (.ref C) f = some none ∧ H1 dd = some (.xd fs) ∧ fs.lookup f = some v ∧ Q v H1
theorem pe_xfG (hp : (a, oe) ∈ X.pn) (hz : Zc cls d oe) (hf : ∃ vs, oe.data = .fields vs) (he : PE X e te) (hb : attributeBase e n X.env (eval e X.env) = eval e X.env := by rfl) : PE X (.Attribute e n pos) (tXfA X.K a cls d n te) := by
  constructor
  intro pins s σ H Q I h
  apply attr_of hb
  refine thn (he.run pins s σ H _ I h) ?_
  rintro u s1 ⟨x, H1, I1, rx, rfl, C, dd, fs, v, rfl, rfl, XC, no, hd, hl, q⟩
  cases (show u = Value.ref a from rx)
  have at_a := (I1.pin (a, oe) (List.mem_append_left _ hp)).1
  obtain ⟨ws, dat⟩ := hf
  obtain ⟨mA, nsA, rel⟩ := (show ObjOk X.prog X.w H1 s1.heap dd (.xd fs) from I1.hok dd _ hd)
  obtain ⟨od, at_d, look⟩ := lookIn_ns nsA
  have rn := rel n
  rw [hl] at rn
  obtain ⟨u', hu', ru'⟩ := RelO.some_of rn
  have inst : PySem.W.InstAt s1.heap a oe C (some od) := by
    refine ⟨at_a, hz.1, ?_, ?_⟩
    · unfold PySem.W.notCls
      rw [dat] <;> rfl
    · rw [hz.2]
      exact at_d
  have found : PySem.W.lookIn n od = some (some u') := by rw [look, hu']
  exact HandSPX.exc_get I1.kIn inst XC.ga XC.gg XC.exC (PySem.W.findObj_own XC.hdC no rfl found) (handed_of ru') ⟨v, H1, I1.tok _, ru', q⟩
end
/-! ### try: .. except x as n: .., several clauses, one of which takes -/
/-- behind a suite its name is gone -/
def Dn (D : Ends) (i : Nat) : Ends := { nx := fun σ H => D.nx (σ.set i none) H, rt := D.rt, bk := fun σ H => D.bk (σ.set i none) H, ct := fun σ H => D.ct (σ.set i none) H }
def wAll (K : PySem.W.Frag) (D : Ends) (i : Nat) : List (Value × (Addr → Value → Option Addr → TS)) → WX
  | [] => fun _ _ _ _ => False
  | (c, ts) :: r => fun cls d σ H => ∃ b, PySem.W.exmOne K cls c = some b ∧ (b = true → ∀ a, H a = none → i < σ.length → ts a cls d (Dn D i) (σ.set i (some (.ref a))) H) ∧ (b = false → wAll K D i r cls d σ H)
inductive AsOk (X : Cx) (n : Str) : List ExceptHandler → List (Value × (Addr → Value → Option Addr → TS)) → Prop
  | nil : AsOk X n [] []
  | cons {x : Str} {c : Value} {ts : Addr → Value → Option Addr → TS} {b0 : Stmt} {su : List Stmt} {np p' : Pos} {hds : List ExceptHandler} {l : List (Value × (Addr → Value → Option Addr → TS))} (nm : Names X x c)
      (ok : ∀ (a : Addr) (oe : Obj) (cls : Value) (d : Option Addr) (pn : List (Addr × Obj)), Zc cls d oe → (∃ vs, oe.data = .fields vs) → PSs (X.suite a ((a, oe) :: pn)) (b0 :: su) (ts a cls d)) (r : AsOk X n hds l) :
      AsOk X n (.ExceptHandler (some (.Name x np)) (some n) (b0 :: su) p' :: hds) ((c, ts) :: l)
theorem not_frame {B h : Heap} {l : List Env} {a : Addr} {o : Obj} {vs : Array Value} (F : h.FunFrames B l) (at_a : h.get? a = some o) (dat : o.data = .fields vs) : a ∉ frs l := by
  intro m
  obtain ⟨_, o2, at2, nf⟩ := F.mem m
  cases at_a.symm.trans at2
  exact nf _ dat
section
variable {X : Cx} {n : Str} {i : Nat} {body : List Stmt} {h0 : ExceptHandler} {hds : List ExceptHandler} {l : List (Value × (Addr → Value → Option Addr → TS))} {pos : Pos} {tb : WX → TS}
theorem ps_tryAs (hs : X.stack = X.env :: X.outer) (hf : X.env.frame = some X.env.locals) (hN : X.N.Nodup) (hi : X.N[i]? = some n) (hln : X.env.kindOf n = some .local)
    (hb : ∀ (W : WX) (pn : List (Addr × Obj)) (xe : Value → Shared → Prop), Takes (X.tr pn xe) W → PassesOwn (model X.prog X.w) X.A X.env xe → PSs (X.tr pn xe) body (tb W))
    (hh : AsOk X n (h0 :: hds) l) : PS X (.Try body (h0 :: hds) [] [] pos) (fun D σ H => tb (wAll X.K D i l) D σ H) := by
  constructor
  intro pins s σ H D I h
  have ok := I.ok
  have frs_ : X.A.frames = some (X.env :: X.outer) := hs ▸ ok.frames
  have run := hb (wAll X.K D i l) (X.pn ++ pins) (fun e t1 => wpAny (model X.prog X.w) X.A (noteFrame e X.env) (fun _ t2 => wpAny (model X.prog X.w) X.A (setFlight e none) (fun _ t3 =>
    wpAny (model X.prog X.w) X.A (handleBy e X.env (h0 :: hds)) (SP X pins D) X.xe t3) X.xe t2) X.xe t1) ?air PassesOwn.looking
  case air =>
    rintro u t ⟨a, B, t0, pins0, σ1, H1, cls, d, rfl, I0, gr, up, sky, na, hos, bare, wish⟩
    have I1 : Inv X pins σ1 H1 t0 := I0.ofTry ok
    rw [show (X.tr (X.pn ++ pins) _).stack = X.env :: X.outer from hs] at sky
    show wpAny (model X.prog X.w) X.A (noteFrame (.ref a) X.env) _ _ _
    apply Sky.land Zc.steady frs_ hf sky
    intro g fly upg
    have Ig : Inv X pins σ1 H1 { t with heap := g } := I1.landed gr fly.1 (up.trans upg) hos bare
    obtain ⟨og, vg, at_g, zg, dg⟩ := fly.there
    have away := not_frame fly.2.2.1 at_g dg
    have awL : a ≠ X.env.locals := by
      intro z
      exact away (List.mem_filterMap.mpr ⟨X.env, List.mem_cons_self, by rw [hf, z]⟩)
    have awF : a ∉ X.fs := by
      intro m
      obtain ⟨en, men, q⟩ := List.mem_filterMap.mp m
      exact away (List.mem_filterMap.mpr ⟨en, List.mem_cons_of_mem _ men, q⟩)
    have Sg := Ig.suite at_g dg na awL awF
    have types : PySem.W.Looks (model X.prog X.w) g (typeOf (.ref a)) cls := by
      intro A' Q' E' t' k q
      apply wpAny_typeOf_ref (k _ _ at_g)
      rw [zg.1]
      exact q
    clear h
    have inside : i < σ1.length := by
      rw [I1.len]
      exact (List.getElem?_eq_some_iff.mp hi).1
    have clauses : ∀ {hs' : List ExceptHandler} {l' : List (Value × (Addr → Value → Option Addr → TS))}, AsOk X n hs' l' → wAll X.K D i l' cls d σ1 H1 → wpAny (model X.prog X.w) X.A (handleBy (.ref a) X.env hs') (SP X pins D) X.xe { t with heap := g } := by
      intro hs' l' A
      induction A with
      | nil => exact fun z => z.elim
      | @cons x c ts b0 su np p' hs2 l2 nm okS rest ih =>
        rintro ⟨b, mt, yes, no⟩
        refine wpAny_handleBy_cons (codeAny_handlers_test ?_) (by intro z; cases z)
        have meets := PySem.W.exm_one (M := model X.prog X.w) Ig.kIn types mt
        have name_ : ∀ {Q' : Value → Shared → Prop} {E' : Value → Shared → Prop}, Q' c { t with heap := g } → wpAny (model X.prog X.w) (X.A.mark (some (.ref a))) (eval (.Name x np) X.env) Q' E' { t with heap := g } := by
          intro Q' E' q
          rcases nm with ⟨gl, ndb, hm | ⟨hm, hv, nn⟩⟩
          · exact ld_glob (X := X.suite a ((a, og) :: (X.pn ++ pins))) Sg gl hm q ndb
          · exact ld_blt (X := X.suite a ((a, og) :: (X.pn ++ pins))) Sg gl hm hv q nn ndb
        apply name_
        apply meets.here
        cases b with
        | false => exact ih (no rfl)
        | true =>
          apply codeAny_handlers_suite_as
          apply HandSPX.lands_againZ fly
          intro k flk upk
          have Ik : Inv X pins σ1 H1 { t with heap := k } := I1.landed gr flk.1 ((up.trans upg).trans upk) hos bare
          obtain ⟨ok_, vk, at_k, zk, dk⟩ := flk.there
          have Sk := Ik.suite at_k dk na awL awF
          apply store_ok (X := X.suite a ((a, ok_) :: (X.pn ++ pins))) (v := .ref a) Sk hN hi (.inl hln) rfl _ (.inr hln)
          intro t5 S5
          have suite := (okS a ok_ cls d (X.pn ++ pins) zk ⟨_, dk⟩).run [] t5 _ H1 _ S5 (yes rfl a na inside)
          refine wpAny_mono suite (fun f t6 out => ?_) (fun _ _ z => z.elim)
          have away_ : ∀ {σ6 : L2.St} {H6 : Hp} {Q' : Shared → Prop}, Inv (X.suite a ((a, ok_) :: (X.pn ++ pins))) [] σ6 H6 t6 → (∀ t7, Inv X pins (σ6.set i none) H6 t7 → Q' t7) →
              wpAny (model X.prog X.w) X.A (do bindName X.env n .none; unbindBehindTheSuite X.env n p') (fun _ t7 => Q' t7) X.xe t6 := by
            intro σ6 H6 Q' S6 q
            exact gone_ok (S6.unsuite ok) hN hi hln q
          cases f with
          | next => obtain ⟨_, _, S6, q6⟩ := out; exact away_ S6 fun _ I7 => ⟨_, _, I7, q6⟩
          | brk => obtain ⟨_, _, S6, q6⟩ := out; exact away_ S6 fun _ I7 => ⟨_, _, I7, q6⟩
          | cont => obtain ⟨_, _, S6, q6⟩ := out; exact away_ S6 fun _ I7 => ⟨_, _, I7, q6⟩
          | ret u => obtain ⟨_, _, _, S6, r6, q6⟩ := out; exact away_ S6 fun _ I7 => ⟨_, _, _, I7, r6, q6⟩
    exact clauses hh wish
  apply wpAny_Try_except
  refine wpAny_mono (run.run [] s σ H D (I.toTry _) h) (fun f t1 out => ?_) (fun _ _ z => z)
  cases f with
  | next => obtain ⟨_, _, I1, q⟩ := out; exact wpAny_execs_nil ⟨_, _, I1.ofTry ok, q⟩
  | brk => obtain ⟨_, _, I1, q⟩ := out; exact ⟨_, _, I1.ofTry ok, q⟩
  | cont => obtain ⟨_, _, I1, q⟩ := out; exact ⟨_, _, I1.ofTry ok, q⟩
  | ret u => obtain ⟨_, _, _, I1, r, q⟩ := out; exact ⟨_, _, _, I1.ofTry ok, r, q⟩
end
/-! ### a def that is called while an error is handled: it raises nothing -/
structure FnP (P : Program) (w : World) (K : PySem.W.Frag) (mg : Str → Option Value) (base : Heap) (k : Nat) (f : Addr) (fd : FuncData) (ps : List Str) (sp : Addr → Value → Option Addr → Sp) : Prop where
  len : ∀ a cls d vs H Q E, sp a cls d vs H Q E → vs.length = ps.length
  run : ∀ (A : Around) (outer : List Env) (s : Shared) (H : Hp) (args : Args) (us : List Value) (vs : List V) (Q : VK) (E : XK) (p : Addr × Obj) (cls : Value) (d : Option Addr), L2H.RoomH k A → L2H.PinOk outer H s p → Zc cls d p.2 → (∃ vs, p.2.data = .fields vs) →
    Env0 P w K mg base A outer s H → BindsTo s fd args (ps.zip us) → Vals vs us → sp p.1 cls d vs H Q E → codeAny (model P w) A (.call (.ref f) args) (CR CX0 outer P w H s Q E) s
theorem fn_ofP {P : Program} {w : World} {K : PySem.W.Frag} {mg : Str → Option Value} {base : Heap} {k : Nat} {f : Addr} {x qual : Str} {st : Stmt} {fd : FuncData} {N ps : List Str} {sp : Addr → Value → Option Addr → Sp} (F : Fun K x qual st f fd) (S : FnScope N ps (defScope st))
    (len : ∀ a cls d vs H Q E, sp a cls d vs H Q E → vs.length = ps.length)
    (body : ∀ (cdv : Value) (A : Around) (outer : List Env) (s : Shared) (H : Hp) (vs : List V) (Q : VK) (E : XK) (p : Addr × Obj) (cls : Value) (d : Option Addr), Zc cls d p.2 → (∃ vs, p.2.data = .fields vs) → L2H.RoomH k (A.deeper (envOfC qual (defScope st) s.heap.objs.size f cdv)) → sp p.1 cls d vs H Q E →
      ∃ t, PSs (L2H.cxH CX0 P w K mg base N qual (defScope st) f cdv A outer s H E p) (defBody st) t ∧ t { nx := fun _ H' => Q .non H', rt := Q } (L2.start N vs) H) : FnP P w K mg base (k + 1) f fd ps sp := by
  obtain ⟨oc, od, kV, doc, pm, an, cdv, ct, osl, rfl, lk, hcd⟩ := F.ex
  constructor
  · exact len
  intro A outer s H args us vs Q E p cls d room pin zc dat e0 bd rv hsp
  have inK : K.In s.heap := e0.mod.kin.keeps fun b o z => (e0.bs b o z).1
  have free_ : s.heap.NoLimit := e0.mod.nolimit.keeps fun b o z => (e0.bs b o z).1
  have kinds : ∀ y ∈ ps.zip us, (defScope st).names.lookup y.1 = some .local ∨ ((defScope st).names.lookup y.1 = some .cell ∧ ((cellsFrom (s.heap.objs.size + 1) (defScope st).names []).lookup y.1).isSome = true) := by
    rintro ⟨y, v⟩ hy
    rcases S.par y (List.of_mem_zip hy).1 with z | z
    · exact .inl z
    · exact .inr ⟨z, PySem.W.cellsFrom_some _ _ _ (.inl z)⟩
  apply codeAny_call_function room.depth (inK _ _ lk) rfl S.co S.gen rfl (PySem.W.codeRec_of inK hcd)
  apply bd
  apply wpAny_newFunctionEnv_cells S.kind kinds
  rintro env rfl s1 inside
  refine ⟨free_.keeps inside.toInCall.keep, codeAny_func ?_⟩
  obtain ⟨t, term, reading⟩ := body cdv A outer s H vs Q E p cls d zc dat (room.deeper _) hsp
  have I := L2H.inv_startH (CX := CX0) (E := E) S pin e0 (len _ _ _ _ _ _ _ hsp) rv inside
  refine wpAny_mono (term.run [] s1 (L2.start N vs) H _ I reading) (fun fl s' out => ?_) fun _ _ z => z
  cases fl with
  | ret u => obtain ⟨v, _, H', J, r, q⟩ := out; exact ⟨v, H', J.os, J.bare, J.base, J.hok, r, q⟩
  | next => obtain ⟨_, H', J, q⟩ := out; exact ⟨.non, H', J.os, J.bare, J.base, J.hok, rfl, q⟩
  | brk => obtain ⟨_, _, _, q⟩ := out; exact q.elim
  | cont => obtain ⟨_, _, _, q⟩ := out; exact q.elim
section
variable {X : Cx} {k : Nat} {f a : Addr} {oe : Obj} {cls : Value} {d : Option Addr} {fd : FuncData} {ps : List Str} {sp : Addr → Value → Option Addr → Sp} {x : Str} {q pos : Pos} {e : Expr} {es : List Expr} {t : TA}
theorem pe_callP (hp : (a, oe) ∈ X.pn) (hz : Zc cls d oe) (hf : ∃ vs, oe.data = .fields vs) (F : FnP X.prog X.w X.K X.mg X.base k f fd ps sp) (hr : L2H.RoomH k X.A) (hg : Gl X x) (hm : X.mg x = some (.ref f)) (hk : PySem.W.keepIn X.K (.ref f) = true) (hb : Binds X.K fd ps [])
    (ha : PA X (e :: es) t) (hdb : (x == ("__debug__" : Str)) = false := by decide) (he : starEach (e :: es) X.env = (false, eval e X.env) :: starEach es X.env := by rfl) (hpl : (backTo pos (starEach es X.env)).any (·.1) = false := by rfl) :
    PE X (.Call (.Name x q) (e :: es) [] pos) (fun σ H Q => t σ H fun vs H1 => sp a cls d vs H1 Q E0) := by
  constructor
  intro pins s σ H Q I h
  apply wpAny_Call_Name_kw
  refine ld_glob I hg hm ?_ hdb
  refine PySem.W.callWith_K (h₀ := X.base) I.ok.mod.kin hk (thn (ha.run pos pins s σ H _ I h) ?_) he hpl
  rintro us s1 ⟨vs, H1, I1, r1, q1⟩
  refine ⟨I1.kIn, ?_⟩
  have ln : (us ++ ([] : List Value)).length = ps.length := by
    rw [List.append_nil, ← r1.length]
    exact F.len _ _ _ _ _ _ _ q1
  have bd := hb s1 us I1.kIn ln
  rw [List.append_nil] at bd
  have P1 := I1.pin (a, oe) (List.mem_append_left _ hp)
  have pin : L2H.PinOk X.stack H1 s1 (a, oe) := by
    refine ⟨P1.1, P1.2.1, fun m => ?_, P1.2.2.2.2⟩
    rcases List.mem_cons.mp (I1.stkSub a m) with z | z
    · exact P1.2.2.1 z
    · exact P1.2.2.2.1 z
  refine wpAny_call (codeAny_mono (F.run X.A X.stack s1 H1 ⟨us, []⟩ us vs Q E0 (a, oe) cls d hr pin hz hf I1.env0 bd r1 q1) fun r s' out => ?_)
  cases r with
  | error z => exact (show False from out).elim
  | ok fl =>
    cases fl with
    | ret u => exact I1.after out
    | next => exact False.elim out
    | brk => exact False.elim out
    | cont => exact False.elim out
end
open NdefX
/-! ### own error classes over a built-in one -/
/-- the built-in base B, its __new__, its __init__, its mro -/
structure ErB (B newId initId : String) (bmB : List Value) : Prop where
  fb : ExcBaseFacts B newId initId bmB
  kx : PySem.W.KxsFacts B initId
  sf : StoreFacts B bmB "object.__setattr__" "object"
theorem erb_VE : ErB "ValueError" "ValueError.__new__" "ValueError.__init__" [.type "ValueError", .type "Exception", .type "BaseException", .type "object"] := ⟨PySem.F.excBase_ValueError, PySem.W.kxs_ValueError, PySem.F.store_ValueError⟩
/-- what stands written of an own error class at C -/
structure ErC (K : PySem.W.Frag) (C : Addr) (newId : String) (bmB : List Value) : Prop where
  cls : ∃ nm q N bs bm sn sub ab col dd k0 k1 k2 k3 k5, K.lookup C = some (excClassObj nm q C N bs bm true sn sub ab col dd k0 k1 k2 k3 k5 newId) ∧ PySem.W.excTail bmB bm = true
  ov : PySem.W.excOver K C bmB = true
  sa : PySem.W.findIn K (.ref C) "__setattr__" = some (some (.builtin "object.__setattr__"))
  ga : PySem.W.findIn K (.ref C) "__getattribute__" = some (some (.builtin "BaseException.__getattribute__"))
  gt : PySem.W.findIn K (.ref C) "__getattr__" = some none
  ex : PySem.W.subIn K (.ref C) (.type "BaseException") = some true
  ty : PySem.W.typeIn K (.ref C) = some (.type "type")
  kp : PySem.W.keepIn K (.ref C) = true
  cl : PySem.W.findIn K (.ref C) "__class__" = some (some (.builtin "object.__class__"))
  ob : PySem.W.mroIn K C (.type "object") = some true
section
variable {pr : Program} {wo : World} {A : Around} {Ex : Value → Shared → Prop} {hh : Heap} {gg : Array GenState} {dr : Drawn} {tt : Nat} {oo : OsState}
variable {nm qn : Str} {C N : Addr} {bs bm bmB : List Value} {hdct : Bool} {sn : List Str} {sub : List Value} {ab : Bool} {col : Option Bool} {dd : Option Addr} {k0 k1 k2 k3 k5 : Option Value} {B newId initId : String}
theorem mw_call (FB : ExcBaseFacts B newId initId bmB) {u e t0 : Addr} {rest : List Value} {Qv : Value → Shared → Prop}
    (hC : hh.get? C = some (excClassObj nm qn C N bs bm hdct sn sub ab col dd k0 k1 k2 k3 k5 newId)) (he : hh.get? e = some (PySem.HandSPX.excO C t0)) (hu : hh.get? u = some (PySem.W.kxs_mw initId e)) (hrest : rest.length ≤ sizeLine)
    (hq : ∀ h' t1, (∀ b o, b ≠ e → hh.get? b = some o → h'.get? b = some o) → h'.get? e = some (PySem.HandSPX.excO C t1) → Qv .none ⟨h', gg, dr, tt, oo⟩) :
    wpAny (model pr wo) A (call (.ref u) rest) Qv Ex ⟨hh, gg, dr, tt, oo⟩ := by
  refine wpAny_call (codeAny_of_tree ?_)
  show wpAny _ A.in1 (callAny (.ref u) ⟨rest, []⟩) _ _ _
  simp only [callAny]
  refine wpAny_bind (wpAny_load hu ?_)
  refine PySem.W.KFB.if_so (show ((Value.type "method-wrapper" == .type "method") || (Value.type "method-wrapper" == .type "builtin_function_or_method") || (Value.type "method-wrapper" == .type "method-wrapper")) = true by decide) ?_
  refine wpAny_bind (PySem.W.check_bound_init FB.toExcCallFacts hC he rfl ?_)
  refine wpAny_bind (wpAny_pure (wpAny_pure ⟨plainId_quiet FB.init.plain _, codeAny_builtin FB.initEntry ?_⟩))
  refine PySem.W.exc_init_tree (cls := .ref C) (t0 := t0) (dv := none) (c2 := .none) (c3 := .none) (b4 := .bool false) he hrest fun h' k e' _ => hq h' _ k e'
end
section
variable {X : Cx} {pins : List (Addr × Obj)} {σ : L2.St} {H : Hp} {s : Shared} {B newId initId : String} {bmB : List Value}
/-! ### self.f = y -/
theorem taker0 {K : PySem.W.Frag} {C : Addr} {f : Str} (h : PySem.W.findIn K (.ref C) f = some none) : PySem.W.takerIn K C f = some none := by
  unfold PySem.W.takerIn
  rw [h]
  rfl
theorem gst_new {a C : Addr} {f : Str} {y : V} {u : Value} {Qu : Unit → Shared → Prop} {Ex : Value → Shared → Prop} {A : Around} (E : ErB B newId initId bmB) (T : ErC X.K C newId bmB) (I : Inv X pins σ H s) (e : H a = some (exo a C none)) (hno : PySem.W.findIn X.K (.ref C) f = some none) (ry : RelV y u)
    (h : ∀ dx s', H dx = none → dx ≠ a → Inv X pins σ (upd (upd H dx (exd dx [(f, y)])) a (exo a C (some dx))) s' → Qu () s') : wpAny (model X.prog X.w) A (setAttr (.ref a) f u) Qu Ex s := by
  obtain ⟨nm, q, N, bs, bm, sn, sub, ab, col, dd, k0, k1, k2, k3, k5, hC, hbm⟩ := T.cls
  have hcl : PySem.W.clsIn X.K C = some { name := nm, bases := bs, mro := .ref C :: bm, ns := N, qualname := q, hasDict := true, slotNames := sn, subclasses := sub, abstract := ab, collection := col, hasDel := false } := by unfold PySem.W.clsIn; rw [hC] <;> rfl
  obtain ⟨t1, ho⟩ := exo_at I.hok e
  obtain ⟨hp, g, d, t, os⟩ := s
  have IA : PySem.W.InstAt hp a (PySem.HandSPX.excO C t1) C none := ⟨ho, rfl, rfl, trivial⟩
  refine PySem.W.set_plain I.kIn IA T.sa ?_
  refine PySem.W.osa_openX E.sf (s := ⟨hp, g, d, _, os⟩) I.kIn IA T.ov (taker0 hno) fun b => ?_
  have hcls : PySem.W.Looks (model X.prog X.w) hp (classData C) _ := PySem.W.looks_clsIn I.kIn hcl
  have hxs : a ≠ hp.objs.size := Nat.ne_of_lt (Heap.lt_size ho)
  show wpAny _ _ (Builtin.ObjectAttr.storeInOwnDict (.ref a) (.ref C) (.str f _) f u b) _ _ _
  unfold Builtin.ObjectAttr.storeInOwnDict Builtin.ObjectAttr.ownDictForStores
  repeat (first | with_reducible refine PySem.HandSPX.store_in_new ?_ ?_ | with_reducible refine wpAny_loadPart_at ho ?_ | with_reducible refine hcls.at ?_ | wp_step)
  · exact ⟨_, #[], _, (Heap.get?_update_ne _ _ _ _ hxs.symm).trans (Heap.get?_push_at rfl rfl), rfl, fun e he => absurd he (by simp), fun _ => rfl⟩
  · intro h' tk' hn' hs
    have hx1 : (hp.push { cls := .type "dict", data := .dict #[] }).get? a = some (PySem.HandSPX.excO C t1) := Heap.get?_push_of_some _ ho
    have k : ∀ b o, b ≠ a → hp.get? b = some o → h'.get? b = some o := fun b o hb ho' => (hs.2 b (Nat.ne_of_lt (Heap.lt_size ho'))).trans ((Heap.get?_update_ne _ _ _ _ hb).trans (Heap.get?_push_of_some _ ho'))
    have hx := (hs.2 a hxs).trans (Heap.get?_update_self _ hx1 rfl)
    have dn := Nat.le_refl hp.objs.size
    have hnd : H hp.objs.size = none := I.hok.fresh dn
    have nd : ∀ {b : Addr} {o : Obj}, hp.get? b = some o → b ≠ hp.objs.size := fun q => Nat.ne_of_lt (Heap.lt_size q)
    have na : ∀ {b : Addr}, H b = none → b ≠ a := fun {b} n z => by
      rw [z, e] at n
      cases n
    have U1 : Un X.fs [] H (upd (upd H hp.objs.size (exd hp.objs.size [(f, y)])) a (exo a C (some hp.objs.size))) hp h' := {
      keep := fun b o q n _ _ => k b o (na n) q
      slot := fun b o q n _ _ => ⟨o.slots, k b o (na n) q⟩
      free := fun b o q n _ => (upd_ne (na n)).trans ((upd_ne (nd q)).trans n)
      there := fun b o q _ => by
        by_cases hb : b = a
        · exact ⟨_, hb ▸ hx⟩
        · exact ⟨o, k b o hb q⟩
      tups := fun b xs q => (upd_ne (at_ne e q exo_tup)).trans ((upd_ne (ne_of_none q hnd)).trans q)
      frzs := fun b o v q => (upd_ne (at_ne e q exo_frz)).trans ((upd_ne (ne_of_none q hnd)).trans q)
      tbls := fun b ps q => ⟨#[], by rw [upd_ne (at_ne e q exo_tbl), upd_ne (ne_of_none q hnd), q]; simp⟩ }
    refine h hp.objs.size _ hnd hxs.symm (I.un (t' := tk') U1 fun b o q => ?_)
    by_cases hb : b = a
    · subst hb
      rw [upd_same] at q
      cases q
      exact exo_ok hx
    · rw [upd_ne hb] at q
      by_cases hd : b = hp.objs.size
      · subst hd
        rw [upd_same] at q
        cases q
        exact exd_ok hn' (relO_put (fs := []) ry fun g => True.intro)
      · rw [upd_ne hd] at q
        refine (I.hok b o q).stay (fun c v hc z => k c v ?_ z) (fun c hc => (upd_ne (at_ne e hc exo_own)).trans ((upd_ne (ne_of_none hc hnd)).trans hc)) fun c xs hc => (upd_ne (at_ne e hc exo_tup)).trans ((upd_ne (ne_of_none hc hnd)).trans hc)
        rcases hc with hc | hc
        · rw [hc]
          exact hb
        · exact at_ne e hc exo_own
theorem gst_old {a C dx : Addr} {f : Str} {y : V} {u : Value} {fs : List (Str × V)} {Qu : Unit → Shared → Prop} {Ex : Value → Shared → Prop} {A : Around} (E : ErB B newId initId bmB) (T : ErC X.K C newId bmB) (I : Inv X pins σ H s) (e : H a = some (exo a C (some dx))) (ed : H dx = some (exd dx fs)) (hl : fs.length ≤ 900)
    (hno : PySem.W.findIn X.K (.ref C) f = some none) (ry : RelV y u) (h : ∀ s', Inv X pins σ (upd H dx (exd dx ((f, y) :: fs))) s' → Qu () s') : wpAny (model X.prog X.w) A (setAttr (.ref a) f u) Qu Ex s := by
  obtain ⟨nm, q, N, bs, bm, sn, sub, ab, col, dd, k0, k1, k2, k3, k5, hC, hbm⟩ := T.cls
  have hcl : PySem.W.clsIn X.K C = some { name := nm, bases := bs, mro := .ref C :: bm, ns := N, qualname := q, hasDict := true, slotNames := sn, subclasses := sub, abstract := ab, collection := col, hasDel := false } := by unfold PySem.W.clsIn; rw [hC] <;> rfl
  obtain ⟨t1, ho⟩ := exo_at I.hok e
  obtain ⟨mA, hns, rel⟩ := exd_at I.hok ed
  have hw := within_of rel
  obtain ⟨hp, g, d, t, os⟩ := s
  obtain ⟨oD, _, _, hoD, _, _⟩ := hns.count hw
  have IA : PySem.W.InstAt hp a { cls := .ref C, dict := some dx, data := .fields #[.ref t1, .none, .none, .none, .bool false, .none] } C (some oD) := ⟨ho, rfl, rfl, hoD⟩
  refine PySem.W.set_plain I.kIn IA T.sa ?_
  refine PySem.W.osa_openX E.sf (s := ⟨hp, g, d, _, os⟩) I.kIn IA T.ov (taker0 hno) fun b => ?_
  have hcls : PySem.W.Looks (model X.prog X.w) hp (classData C) _ := PySem.W.looks_clsIn I.kIn hcl
  show wpAny _ _ (Builtin.ObjectAttr.storeInOwnDict (.ref a) (.ref C) (.str f _) f u b) _ _ _
  unfold Builtin.ObjectAttr.storeInOwnDict Builtin.ObjectAttr.ownDictForStores
  repeat (first | with_reducible refine PySem.OEX.store_in_old hns hw (by rw [List.length_map]; omega) ?_ | with_reducible refine wpAny_loadPart_at ho ?_ | with_reducible refine hcls.at ?_ | wp_step)
  intro h' tk' hn hs
  have k : ∀ b o, b ≠ dx → hp.get? b = some o → h'.get? b = some o := fun b o hb ho' => (hs.2 b hb).trans ho'
  have hd : ∃ o, h'.get? dx = some o := by
    obtain ⟨o, _, _, e', _⟩ := hn
    exact ⟨o, e'⟩
  exact h _ (I.write (t' := tk') (x := dx) (e := dx) (o := exd dx ((f, y) :: fs)) (by rw [ed]; exact True.intro) (.inl rfl) k hd (exd_ok hn (relO_put ry rel)))
def tGst (K : PySem.W.Frag) (newId : String) (bmB : List Value) (f : Str) (to te : TE) : TS := fun D σ H => te σ H fun y H1 => to σ H1 fun x H2 => ∃ a C : Addr, x = .ref a ∧ ErC K C newId bmB ∧ PySem.W.findIn K (.ref C) f = some none ∧
  ((H2 a = some (exo a C none) ∧ ∀ dx, H2 dx = none → dx ≠ a → D.nx σ (upd (upd H2 dx (exd dx [(f, y)])) a (exo a C (some dx)))) ∨
    ∃ (dx : Addr) (fs : List (Str × V)), H2 a = some (exo a C (some dx)) ∧ H2 dx = some (exd dx fs) ∧ fs.length ≤ 900 ∧ D.nx σ (upd H2 dx (exd dx ((f, y) :: fs))))
theorem ps_gst {o e : Expr} {to te : TE} {f : Str} {p' pos : Pos} (E : ErB B newId initId bmB) (ho : PE X o to) (he : PE X e te) (hs : swapsWith e (some (.Attribute o f p')) pos.line X.env = pure false := by rfl) : PS X (.Assign [.Attribute o f p'] e pos) (tGst X.K newId bmB f to te) := by
  refine ⟨fun pins s σ H D I h => ?_⟩
  refine plainObj_wpAny_Assign_Attribute (thn (he.run pins s σ H _ I h) fun v s1 ⟨y, H1, I1, r1, q1⟩ => thn (ho.run pins s1 σ H1 _ I1 q1) fun u s2 ⟨x, H2, I2, r2, a, C, ex, T, hno, q⟩ => ?_) hs
  subst ex
  obtain rfl : u = Value.ref a := r2
  rcases q with ⟨ea, q⟩ | ⟨dx, fs, ea, ed, hl, q⟩
  · exact gst_new E T I2 ea hno r1 fun dx s' n ne J => ⟨σ, _, J, q dx n ne⟩
  · exact gst_old E T I2 ea ed hl hno r1 fun s' J => ⟨σ, _, J, q⟩
end
section
variable {X : Cx} {pins : List (Addr × Obj)} {σ : L2.St} {H : Hp} {s : Shared} {B newId initId : String} {bmB : List Value}
/-! ### super().__init__(text), the first statement of an own error's __init__ -/
/-- a method with super(): its def at f, its code object at c -/
structure SupM (X : Cx) (f c : Addr) (ar : Arg) : Prop where
  fu : X.env.func = some f
  co : X.env.code = .ref c
  fd : ∃ (o : Obj) (fd : FuncData), X.K.lookup f = some o ∧ o.data = .func fd ∧ (fd.params.posonlyargs ++ fd.params.args).head? = some ar
  cd : ∃ (o : Obj) (vs : Array Value) (file : Str) (tk : Tok), X.K.lookup c = some o ∧ o.data = .fields vs ∧ vs[2]? = some (.str file tk) ∧ ((X.prog.main.file : Str) == file) = true
  ks : X.env.kindOf "super" = some .globalImplicit
  kc : X.env.kindOf "__class__" = some .free
  ka : X.env.kindOf ar.arg = some .local
  top : (X.prog.main.scope.names.lookup ("super" : Str)).isSome = false
  no : X.mg "super" = none
  op : PySem.W.nsIn X.K cStatics "thirdparty.any" = some none
theorem sup_stmt {f c a C : Addr} {ar : Arg} {i j : Nat} {body : List Stmt} {m : Str} {n : Nat} {pl : Sem Bool} {p0 p1 p2 p3 p4 p5 : Pos} (E : ErB B newId initId bmB) (T : SupM X f c ar) (O : ErC X.K C newId bmB) (I : Inv X pins σ H s)
    (hi : X.N[i]? = some ar.arg) (hs : σ[i]? = some (some (.ref a))) (hj : X.N[j]? = some ("__class__" : Str)) (hsj : σ[j]? = some (some (.ref C))) (ha : H a = some (exo a C none))
    (hsup : PySem.W.ks_superIn X.K C C "__init__" = some (some (.builtin initId))) (hB : PySem.W.subIn X.K (.ref C) (.type B) = some true) (hDD : PySem.W.mroIn X.K C (.ref C) = some true)
    (he : eval (.Call (.Attribute (.Call (.Name "super" p0) [] [] p1) "__init__" p2) [.Constant (.str m) n p3] [] p4) X.env = (do
      let ov ← attributeBase (.Call (.Name "super" p0) [] [] p1) "__init__" X.env (eval (.Call (.Name "super" p0) [] [] p1) X.env)
      standAt p2.atName
      let (g, first) ← holding [ov] (getMethod ov "__init__" pl)
      callWith p4 g first (backTo p4 (starEach [.Constant (.str m) n p3] X.env)) []))
    (hint : interactive X.env = false) (hsw : swapsWith (.Call (.Attribute (.Call (.Name "super" p0) [] [] p1) "__init__" p2) [.Constant (.str m) n p3] [] p4) none p5.line X.env = pure false) :
    _root_.PySem.wpAt (model X.prog X.w) X.A (.func body X.env) (exec (.Expr (.Call (.Attribute (.Call (.Name "super" p0) [] [] p1) "__init__" p2) [.Constant (.str m) n p3] [] p4) p5) X.env) (fun fl s' => fl = .next ∧ Inv X pins σ H s') X.xe s := by
  refine ks_wpAt_Expr_any ?_ hint hsw
  refine ks_wpAt_MethodCall (pl := pl) ?_ he
  have KX : X.K.In s.heap := I.kIn
  obtain ⟨of, fd, hf, hfd, hp⟩ := T.fd
  obtain ⟨oc, vs, file, tk, hc, hoc, hvs, hfile⟩ := T.cd
  obtain ⟨nm, q, N, bs, bm, sn, sub, ab, col, dd, k0, k1, k2, k3, k5, hC, hbm⟩ := O.cls
  have hcl : PySem.W.clsIn X.K C = some { name := nm, bases := bs, mro := .ref C :: bm, ns := N, qualname := q, hasDict := true, slotNames := sn, subclasses := sub, abstract := ab, collection := col, hasDel := false } := by unfold PySem.W.clsIn; rw [hC] <;> rfl
  obtain ⟨t1, ho⟩ := exo_at I.hok ha
  refine ks_wpAt_super_base (env := X.env) T.ks T.kc (by decide) T.fu (KX _ _ hf) hfd hp T.co (KX _ _ hc) hoc hvs hfile T.top ?_
  obtain ⟨mb, h1, h2⟩ := I.mod.blt
  refine PySem.W.ks_loadName_global I.ok.kind T.ks (Calls.loadGlobal_builtin (by rw [I.ok.glob]; exact I.mod.glob.keeps I.bk) T.no (by rw [I.ok.blt]; exact h1.keeps I.bk) ((h2 "super" (by decide)).trans (by decide +kernel)) ⟨rfl, ?_⟩)
  obtain ⟨mm, hn, hl⟩ := I.loc
  obtain ⟨uc, rc, lc⟩ := hl j _ _ hj hsj (.inr (.inr T.kc))
  obtain ⟨ua, ra, la⟩ := hl i _ _ hi hs (.inl T.ka)
  obtain rfl : uc = Value.ref C := rc
  obtain rfl : ua = Value.ref a := ra
  obtain ⟨cc, hcc, hcell⟩ : ∃ cc, X.env.cells.lookup ("__class__" : Str) = some cc ∧ s.heap.IsCell cc (some (Value.ref C)) := by
    rcases lc with ⟨z, _⟩ | ⟨_, z⟩
    · rw [T.kc] at z
      cases z
    · exact z
  have hma : mm ar.arg = some (Value.ref a) := by
    rcases la with ⟨_, z⟩ | ⟨z, _⟩
    · exact z
    · rw [T.ka] at z
      rcases z with z | z <;> cases z
  refine wpAny_loadName_free I.ok.kind T.kc hcc hcell ?_
  refine wpAny_loadName_local I.ok.kind T.ka hn hma ?_
  have hCh := KX _ _ hC
  refine ks_wpAny_isType_cls hCh rfl ⟨rfl, ?_⟩
  obtain ⟨hp', g, d, t, os⟩ := s
  refine ks_wpAny_call_super hCh rfl ho rfl (fun z e => by cases e) (PySem.W.looks_mroIn KX hDD) fun h1 so kk => ?_
  have I1 : Inv X pins σ H ⟨h1, g, d, t, os⟩ := I.kept (t' := t) kk
  have hin : PySem.W.Looks (model X.prog X.w) h1 (isInstance (.ref a) (.type B)) true := (show PySem.W.InstAt h1 a (PySem.HandSPX.excO C t1) C none from ⟨kk _ _ ho, rfl, rfl, trivial⟩).type.andThen (PySem.W.looks_subIn I1.kIn hB)
  have hsup' := hsup
  unfold PySem.W.ks_superIn at hsup'
  rw [hcl] at hsup'
  refine PySem.W.kxs_getMethod E.kx so (PySem.W.looks_opaque I1.kIn T.op) (l₀ := .ref C :: bm) (fun A Q E s k q => wpAny_bind ((PySem.W.looks_clsIn I1.kIn hcl) A _ E s k (wpAny_pure q))) rfl I1.kIn hsup' hin (fun z => ?_) (by decide) ?_
  · subst z
    rw [show hp'.get? a = _ from hCh] at ho
    cases ho
  have kk2 : ∀ b o, h1.get? b = some o → (h1.push (PySem.W.kxs_mw initId a)).get? b = some o := fun b o e => Heap.get?_push_of_some _ e
  have I2 : Inv X pins σ H ⟨h1.push (PySem.W.kxs_mw initId a), g, d, t + 1, os⟩ := I1.kept (t' := t + 1) kk2
  have hmw : (h1.push (PySem.W.kxs_mw initId a)).get? h1.objs.size = some (PySem.W.kxs_mw initId a) := Heap.get?_push_at rfl rfl
  show wpAny _ _ (callWith p4 (.ref h1.objs.size) [] ((false, eval (.Constant (.str m) n p3) X.env) :: backTo p4 (starEach [] X.env)) []) _ _ _
  refine PySem.W.kxs_callWith (i := initId) (x := a) rfl (PySem.Calls.evalArgs_plain (PySem.Calls.spliced_cons (PySem.Calls.Constant_str (PySem.Calls.spliced_nil ⟨hmw, ?_⟩))))
  show wpAny _ _ (call (.ref h1.objs.size) [.str m (t + 1)]) _ _ _
  refine mw_call E.fb (kk2 _ _ (kk _ _ hCh)) (kk2 _ _ (kk _ _ ho)) hmw (by show 1 ≤ sizeLine; decide) fun h3 t3 k3 e3 => ⟨rfl, ?_⟩
  have J := (I2.tok (t + 1 + 1)).write (h' := h3) (t' := t + 1 + 1) (x := a) (e := a) (o := exo a C none) (by rw [ha]; exact True.intro) (.inl rfl) k3 ⟨_, e3⟩ (exo_ok e3)
  rw [show upd H a (exo a C none) = H from funext fun z => by
    by_cases hz : z = a
    · rw [hz, upd_same, ha]
    · rw [upd_ne hz]] at J
  exact J
end
section
variable {P : Program} {w : World} {K : PySem.W.Frag} {mg : Str → Option Value} {base : Heap} {B newId initId : String} {bmB : List Value}
/-- what stands written of an own error's __init__: its words F, the def at f, its class at C -/
structure IniM (P : Program) (K : PySem.W.Frag) (mg : Str → Option Value) (B newId initId : String) (bmB : List Value) (f C : Addr) (F : NF) (ar : Arg) (doc pm ctv : Value) : Prop where
  lk : ∃ (od : Option Addr) (sl : Array (Option Value)), K.lookup f = some ⟨.type "function", od, .func (F.fd doc pm ctv), sl⟩
  cd : PySem.W.codeIn K (.ref F.c) F.qual = true
  cl : ∃ (cc : Addr) (o : Obj), F.cl = [(("__class__" : Str), cc)] ∧ K.lookup cc = some o ∧ o.data = .cell (some (.ref C))
  hd : (F.params.posonlyargs ++ F.params.args).head? = some ar
  fl : ∃ (o : Obj) (vs : Array Value) (file : Str) (tk : Tok), K.lookup F.c = some o ∧ o.data = .fields vs ∧ vs[2]? = some (.str file tk) ∧ ((P.main.file : Str) == file) = true
  ks : F.scope.names.lookup ("super" : Str) = some .globalImplicit
  kc : F.scope.names.lookup ("__class__" : Str) = some .free
  ka : F.scope.names.lookup ar.arg = some .local
  top : (P.main.scope.names.lookup ("super" : Str)).isSome = false
  no : mg "super" = none
  op : PySem.W.nsIn K cStatics "thirdparty.any" = some none
  ox : ErC K C newId bmB
  su : PySem.W.ks_superIn K C C "__init__" = some (some (.builtin initId))
  sb : PySem.W.subIn K (.ref C) (.type B) = some true
  mr : PySem.W.mroIn K C (.ref C) = some true
theorem init_fn {f C : Addr} {F : NF} {ar : Arg} {doc pm ctv : Value} {N ps : List Str} {k i j n : Nat} {sp : Sp} {m : Str} {p0 p1 p2 p3 p4 p5 : Pos} {rest : List Stmt} {pl : Addr → Sem Bool} (EB : ErB B newId initId bmB) (T : IniM P K mg B newId initId bmB f C F ar doc pm ctv)
    (S : NScope N ps ["__class__"] F.scope) (len : ∀ vs H Q E, sp vs H Q E → vs.length = ps.length) (hi : N[i]? = some ar.arg) (hj : N[j]? = some ("__class__" : Str))
    (hbd : F.body = .Expr (.Call (.Attribute (.Call (.Name "super" p0) [] [] p1) "__init__" p2) [.Constant (.str m) n p3] [] p4) p5 :: rest)
    (hst : ∀ vs H Q E, sp vs H Q E → ∃ a, (startF N vs [some (.ref C)])[i]? = some (some (.ref a)) ∧ (startF N vs [some (.ref C)])[j]? = some (some (.ref C)) ∧ H a = some (exo a C none))
    (hbody : ∀ (A : Around) (outer : List Env) (s : Shared) (H : Hp) (vs : List V) (Q : VK) (E : XK), Room k (A.deeper (envF F f s.heap.objs.size)) → sp vs H Q E →
      ∃ t, PSs (ncx CX0 P w K mg base N F f A outer s H E) rest t ∧ t { nx := fun _ H' => Q .non H', rt := Q } (startF N vs [some (.ref C)]) H)
    (he : ∀ L, eval (.Call (.Attribute (.Call (.Name "super" p0) [] [] p1) "__init__" p2) [.Constant (.str m) n p3] [] p4) (envF F f L) = (do
      let ov ← attributeBase (.Call (.Name "super" p0) [] [] p1) "__init__" (envF F f L) (eval (.Call (.Name "super" p0) [] [] p1) (envF F f L))
      standAt p2.atName
      let (g, first) ← holding [ov] (getMethod ov "__init__" (pl L))
      callWith p4 g first (backTo p4 (starEach [.Constant (.str m) n p3] (envF F f L))) []) := by intro _; rfl)
    (hint : ∀ L, interactive (envF F f L) = false := by intro _; rfl)
    (hsw : ∀ L, swapsWith (.Call (.Attribute (.Call (.Name "super" p0) [] [] p1) "__init__" p2) [.Constant (.str m) n p3] [] p4) none p5.line (envF F f L) = pure false := by intro _; rfl) :
    FnOk P w K mg base CX0 (k + 1) f (F.fd doc pm ctv) ps sp := by
  refine ⟨len, fun A outer s H args us vs Q E hr e0 hb r hsp => ?_⟩
  have KX : K.In s.heap := e0.mod.kin.keeps fun b o e => (e0.bs b o e).1
  have hl := len _ _ _ _ hsp
  have lim : s.heap.NoLimit := e0.mod.nolimit.keeps fun b o e => (e0.bs b o e).1
  obtain ⟨od, sl, lk⟩ := T.lk
  obtain ⟨cc, oc, ecl, lcc, dcc⟩ := T.cl
  refine codeAny_call_function hr.depth (KX _ _ lk) rfl S.co S.gen rfl (PySem.W.codeRec_of KX T.cd) (hb _ _ _ _ ?_)
  refine wpAny_newFunctionEnv S.nocell (fun ⟨x, _⟩ hy => S.par x (List.of_mem_zip hy).1) (fun h1 hns hsb => ⟨lim.fresh _ hsb, ?_⟩) S.kind
  have kp : ∀ b o, s.heap.get? b = some o → h1.get? b = some o := fun b o e => hsb.extBut b o (Nat.ne_of_lt (Heap.lt_size e)) (Heap.get?_push_of_some _ e)
  have CA : CellsAt F.cl ["__class__"] [some (.ref C)] s.heap H := by
    rw [ecl]
    have hc : ∀ (y : Str) (c : Addr), ([(("__class__" : Str), cc)] : List (Str × Addr)).lookup y = some c → c = cc ∧ y = "__class__" := fun y c e => by
      rw [List.lookup_cons] at e
      split at e
      · rename_i z
        exact ⟨(Option.some.inj e).symm, eq_of_beq z⟩
      · cases e
    refine ⟨rfl, fun y c e => ?_, fun x y c e1 e2 => (hc x c e1).2.trans (hc y c e2).2.symm, fun i y e => ?_⟩
    · rw [(hc y c e).1]
      exact ⟨(e0.bs _ _ (e0.mod.kin _ _ lcc)).2, _, oc, KX _ _ lcc, dcc⟩
    · match i, e with
      | 0, e =>
        cases e
        exact ⟨cc, by simp, fun v e => by cases e; exact ⟨_, rfl, oc, KX _ _ lcc, dcc⟩⟩
  have I : Inv (ncx CX0 P w K mg base N F f A outer s H E) [] (startF N vs [some (.ref C)]) H { s with heap := h1, toks := s.toks + (ps.zip us).length } := inv_startN S hr.hd e0 hl r CA hns kp
  obtain ⟨a, s1, s2, ha⟩ := hst _ _ _ _ hsp
  have TM : SupM (ncx CX0 P w K mg base N F f A outer s H E) f F.c ar := ⟨rfl, rfl, ⟨_, _, lk, rfl, T.hd⟩, T.fl, T.ks, T.kc, T.ka, T.top, T.no, T.op⟩
  have fin : ∀ {τ : L2.St} {G : Hp} {v : V} {u : Value} {z : Shared}, Inv (ncx CX0 P w K mg base N F f A outer s H E) [] τ G z → L2.RelV v u → Q v G → CE outer P w H s Q u z :=
    fun J rv q => ⟨_, _, J.os, J.bare, J.base, J.hok, rv, q⟩
  obtain ⟨t, ht, hq⟩ := hbody A outer s H vs Q E (hr.deeper _) hsp
  refine ks_codeAny_funcAt (body := F.body) (env := envF F f s.heap.objs.size) ?_
  rw [hbd]
  refine ks_wpAt_execs_cons (ks_wpAt_mono (sup_stmt (X := ncx CX0 P w K mg base N F f A outer s H E) (i := i) (j := j) EB TM T.ox I hi s1 hj s2 ha T.su T.sb T.mr (he _) (hint _) (hsw _)) (fun fl s' hs => ?_) fun e s' hx => hx)
  obtain ⟨rfl, J⟩ := hs
  refine _root_.PySem.wpAt_of_wpAny (wpAny_mono (ht.run [] s' _ H _ J hq) (fun fl z hz => ?_) fun e s' hx => hx)
  cases fl with
  | ret u =>
    obtain ⟨v5, τ5, G5, J5, r5, q5⟩ := hz
    exact fin J5 r5 q5
  | next =>
    obtain ⟨τ5, G5, J5, q5⟩ := hz
    exact fin (v := V.non) (u := Value.none) J5 rfl q5
  | brk =>
    obtain ⟨_, _, _, q5⟩ := hz
    exact q5.elim
  | cont =>
    obtain ⟨_, _, _, q5⟩ := hz
    exact q5.elim
end
section
variable {X : Cx} {B newId initId : String} {bmB : List Value}
theorem ErC.has {K : PySem.W.Frag} {C : Addr} (T : ErC K C newId bmB) : PySem.W.hasDictIn K C = true ∧ (PySem.W.clsIn K C).isSome = true := by
  obtain ⟨nm, q, N, bs, bm, sn, sub, ab, col, dd, k0, k1, k2, k3, k5, hC, hbm⟩ := T.cls
  have hcl : PySem.W.clsIn K C = some { name := nm, bases := bs, mro := .ref C :: bm, ns := N, qualname := q, hasDict := true, slotNames := sn, subclasses := sub, abstract := ab, collection := col, hasDel := false } := by unfold PySem.W.clsIn; rw [hC] <;> rfl
  exact ⟨by unfold PySem.W.hasDictIn; rw [hcl] <;> rfl, by rw [hcl] <;> rfl⟩
/-! ### C(..): an own error as a value -/
def tMkV (C : Addr) (sp : Sp) (dvs : List V) (ta : TA) : TE := fun σ H Q => ta σ H fun vs H1 => vs.length ≤ 1000 ∧ ∀ a, H1 a = none → sp (.ref a :: (vs ++ dvs)) (upd H1 a (exo a C none)) (fun v H2 => v = .non ∧ Q (.ref a) H2) (fun _ _ _ => False)
variable {CX : CXT} {x : Str} {C fI : Addr} {k : Nat} {fd : FuncData} {ps : List Str} {sp : Sp} {ds : List Value} {dvs : List V} {e : Expr} {es : List Expr} {ta : TA} {te : TE} {p pos : Pos}
/-! ### e.f of such a value -/
def tXo (K : PySem.W.Frag) (f : Str) (te : TE) : TE := fun σ H Q => te σ H fun x H1 => ∃ (a C d : Addr) (nw : String) (bm : List Value) (fs : List (Str × V)) (v : V), x = .ref a ∧ H1 a = some (exo a C (some d)) ∧ H1 d = some (exd d fs) ∧ fs.lookup f = some v ∧
  PySem.W.findIn K (.ref C) f = some none ∧ ErC K C nw bm ∧ Q v H1
/-! ### isinstance of such a value -/
def rIsO (K : PySem.W.Frag) : List V → Hp → VK → Prop := fun xs H Q => ∃ (a C d : Addr) (nw : String) (bm : List Value) (fs : List (Str × V)) (c : V) (cv : Value) (b : Bool), xs = [.ref a, c] ∧ H a = some (exo a C (some d)) ∧ H d = some (exd d fs) ∧ ErC K C nw bm ∧ ClsV c cv ∧
  PySem.W.kitOne K (.ref C) cv = some b ∧ Q (.bl b) H
end
/-! ### an own error made -/
/-- what __init__ leaves: the object at a with its dict at d -/
def Made (H H' : Hp) (a C d : Addr) (fs : List (Str × V)) : Prop := H d = none ∧ d ≠ a ∧ H' a = some (exo a C (some d)) ∧ H' d = some (exd d fs) ∧ ∀ b o, b ≠ a → H b = some o → H' b = some o
def spIni (C : Addr) (n : Nat) (fs : List V → List (Str × V)) : Sp := fun vs H Q _ => ∃ (a : Addr) (ws : List V), vs = .ref a :: ws ∧ ws.length = n ∧ H a = some (exo a C none) ∧ ∀ d H', Made H H' a C d (fs ws) → Q .non H'
abbrev NFI (st : Stmt) (qual : Str) (cc c : Addr) : NF := ⟨"__init__", qual, defArgs st, defBody st, defScope st, [(("__class__" : Str), cc)], c⟩
theorem made1 {H : Hp} {a C d : Addr} {f : Str} {y : V} (ha : H a = some (exo a C none)) (hd : H d = none) (ne : d ≠ a) : Made H (upd (upd H d (exd d [(f, y)])) a (exo a C (some d))) a C d [(f, y)] :=
  ⟨hd, ne, upd_same, (upd_ne ne).trans upd_same, fun b o hb e => (upd_ne hb).trans ((upd_ne (ne_of_none e hd)).trans e)⟩
theorem made2 {H H' : Hp} {a C d : Addr} {f : Str} {y : V} {fs : List (Str × V)} (m : Made H H' a C d fs) : Made H (upd H' d (exd d ((f, y) :: fs))) a C d ((f, y) :: fs) :=
  ⟨m.1, m.2.1, (upd_ne m.2.1.symm).trans m.2.2.1, upd_same, fun b o hb e => (upd_ne (ne_of_none e m.1)).trans (m.2.2.2.2 b o hb e)⟩
/-- the value x is an error of the class at C with the fields fs -/
def IsE (H : Hp) (C : Addr) (fs : List (Str × V)) (x : V) : Prop := ∃ a d : Addr, x = .ref a ∧ H a = some (exo a C (some d)) ∧ H d = some (exd d fs)
theorem IsE.same {H H' : Hp} {C : Addr} {fs : List (Str × V)} {x : V} (h : IsE H C fs x) (s : Same H H') : IsE H' C fs x := by
  obtain ⟨a, d, rfl, ea, ed⟩ := h
  exact ⟨a, d, rfl, s _ _ ea, s _ _ ed⟩
theorem mkv_use {H1 : Hp} {Q : VK} {C : Addr} {n : Nat} {fs : List V → List (Str × V)} {vs : List V} (hn : vs.length = n) (h0 : n ≤ 1000) (h : ∀ x H', Same H1 H' → IsE H' C (fs vs) x → Q x H') :
    vs.length ≤ 1000 ∧ ∀ a, H1 a = none → spIni C n fs (.ref a :: (vs ++ [])) (upd H1 a (exo a C none)) (fun v H2 => v = .non ∧ Q (.ref a) H2) (fun _ _ _ => False) := by
  refine ⟨by omega, fun a ha => ?_⟩
  rw [List.append_nil]
  refine ⟨a, vs, rfl, hn, upd_same, fun d H2 m => ⟨rfl, h _ _ (fun b o e => ?_) ⟨a, d, rfl, m.2.2.1, m.2.2.2.1⟩⟩⟩
  exact m.2.2.2.2 b o (ne_of_none e ha) ((upd_ne (ne_of_none e ha)).trans e)
/-- the class nm, an own error over B: its mro behind itself is pre and then bmB -/
structure Er (P : Program) (K : PySem.W.Frag) (mg : Str → Option Value) (B newId initId : String) (bmB pre : List Value) (st : Stmt) (nm qual : Str) where
  C : Addr
  f : Addr
  cc : Addr
  c : Addr
  ar : Arg
  doc : Value
  pm : Value
  ctv : Value
  T : IniM P K mg B newId initId bmB f C (NFI st qual cc c) ar doc pm ctv
  iC : PySem.W.findIn K (.ref C) "__init__" = some (some (.ref f))
  tI : PySem.W.typeIn K (.ref f) = some (.type "function")
  g : mg nm = some (.ref C)
  har : ar.arg = "self"
  lk : ∃ q N bs sn sub ab col dd k0 k1 k2 k3 k5, K.lookup C = some (excClassObj nm q C N bs (pre ++ bmB) true sn sub ab col dd k0 k1 k2 k3 k5 newId)
section
variable {base : Heap} {K : PySem.W.Frag} {mg : Str → Option Value} {P : Program} {w : World} {B newId initId : String} {bmB pre : List Value} {st : Stmt} {nm qual : Str}
theorem ok_ini1 {fl pn wd m : Str} {p0 p1 p2 p3 p4 p5 q0 q1 q2 q3 r0 r1 r2 r3 : Pos} {n1 n2 : Nat} {pl : Addr → Sem Bool} (EB : ErB B newId initId bmB) (T : Er P K mg B newId initId bmB pre st nm qual) (S : NScope ["self", pn, "__class__"] ["self", pn] ["__class__"] (defScope st))
    (hbd : defBody st = [.Expr (.Call (.Attribute (.Call (.Name "super" p0) [] [] p1) "__init__" p2) [.Constant (.str m) n1 p3] [] p4) p5, .Assign [.Attribute (.Name "self" q0) "word" q1] (.Constant (.str wd) n2 q2) q3, .Assign [.Attribute (.Name "self" r0) fl r1] (.Name pn r2) r3])
    (e1 : PySem.W.findIn K (.ref T.C) "word" = some none) (e2 : PySem.W.findIn K (.ref T.C) fl = some none) (hn1 : (pn == ("__debug__" : Str)) = false := by decide) (hn2 : (pn == ("__classdict__" : Str)) = false := by decide)
    (he : ∀ L, eval (.Call (.Attribute (.Call (.Name "super" p0) [] [] p1) "__init__" p2) [.Constant (.str m) n1 p3] [] p4) (envF (NFI st qual T.cc T.c) T.f L) = (do
      let ov ← attributeBase (.Call (.Name "super" p0) [] [] p1) "__init__" (envF (NFI st qual T.cc T.c) T.f L) (eval (.Call (.Name "super" p0) [] [] p1) (envF (NFI st qual T.cc T.c) T.f L))
      standAt p2.atName
      let (g, first) ← holding [ov] (getMethod ov "__init__" (pl L))
      callWith p4 g first (backTo p4 (starEach [.Constant (.str m) n1 p3] (envF (NFI st qual T.cc T.c) T.f L))) []) := by intro _; rfl)
    (hint : ∀ L, interactive (envF (NFI st qual T.cc T.c) T.f L) = false := by intro _; rfl)
    (hsw : ∀ L, swapsWith (.Call (.Attribute (.Call (.Name "super" p0) [] [] p1) "__init__" p2) [.Constant (.str m) n1 p3] [] p4) none p5.line (envF (NFI st qual T.cc T.c) T.f L) = pure false := by intro _; rfl)
    (hs1 : ∀ L, swapsWith (.Constant (.str wd) n2 q2) (some (.Attribute (.Name "self" q0) "word" q1)) q3.line (envF (NFI st qual T.cc T.c) T.f L) = pure false := by intro _; rfl)
    (hs2 : ∀ L, swapsWith (.Name pn r2) (some (.Attribute (.Name "self" r0) fl r1)) r3.line (envF (NFI st qual T.cc T.c) T.f L) = pure false := by intro _; rfl) :
    FnOk P w K mg base CX0 1 T.f ((NFI st qual T.cc T.c).fd T.doc T.pm T.ctv) ["self", pn] (spIni T.C 1 fun ws => [(fl, ws.getD 0 .non), ("word", .str wd)]) := by
  refine init_fn (i := 0) (j := 2) (N := ["self", pn, "__class__"]) EB T.T S (fun vs H Q E h => ?_) (by rw [T.har]; rfl) rfl hbd (fun vs H Q E h => ?_) (fun A outer s H vs Q E hr h => ?_) he hint hsw
  · obtain ⟨a, ws, rfl, hn, _⟩ := h
    show ws.length + 1 = 2
    omega
  · obtain ⟨a, ws, rfl, hn, ha, _⟩ := h
    match ws, hn with
    | [v], _ => exact ⟨a, rfl, rfl, ha⟩
  · obtain ⟨a, ws, rfl, hn, ha, q⟩ := h
    match ws, hn, q with
    | [v], _, q =>
      refine ⟨_, pss_cons (ps_gst EB (pe_var (i := 0) rfl (Or.inl (S.par _ (by simp)))) pe_str (hs1 _)) (pss_one (ps_gst EB (pe_var (i := 0) rfl (Or.inl (S.par _ (by simp)))) (pe_var (i := 1) rfl (Or.inl (S.par _ (by simp))) hn1 hn2) (hs2 _))), ?_⟩
      refine ⟨_, rfl, a, T.C, rfl, T.T.ox, e1, .inl ⟨ha, fun d hd ne => ?_⟩⟩
      have m1 := made1 (f := "word") (y := .str wd) ha hd ne
      exact ⟨_, rfl, _, rfl, a, T.C, rfl, T.T.ox, e2, .inr ⟨d, _, m1.2.2.1, m1.2.2.2.1, by simp, q d _ (made2 m1)⟩⟩
/-! ### isinstance between own errors -/
theorem Er.cl (T : Er P K mg B newId initId bmB pre st nm qual) : ∃ cd : ClassData, PySem.W.clsIn K T.C = some cd ∧ cd.name = nm ∧ cd.mro = .ref T.C :: (pre ++ bmB) := by
  obtain ⟨q, N, bs, sn, sub, ab, col, dd, k0, k1, k2, k3, k5, h⟩ := T.lk
  exact ⟨{ name := nm, bases := bs, mro := .ref T.C :: (pre ++ bmB), ns := N, qualname := q, hasDict := true, slotNames := sn, subclasses := sub, abstract := ab, collection := col, hasDel := false }, by unfold PySem.W.clsIn; rw [h] <;> rfl, rfl, rfl⟩
end
section
variable {P : Program} {K : PySem.W.Frag} {h : Heap} {mg : Str → Option Value} {B newId initId : String} {bmB pre : List Value} {st : Stmt} {nm qual : Str}
theorem mro_at {C : Addr} {q : Str} {N : Addr} {bs : List Value} {sn : List Str} {sub : List Value} {ab : Bool} {col : Option Bool} {dd : Option Addr} {k0 k1 k2 k3 k5 : Option Value} (lC : K.lookup C = some (excClassObj nm q C N bs (pre ++ bmB) true sn sub ab col dd k0 k1 k2 k3 k5 newId)) (v : Value) :
    PySem.W.mroIn K C v = some ((Value.ref C :: (pre ++ bmB)).contains v) := by
  have hcl : PySem.W.clsIn K C = some { name := nm, bases := bs, mro := .ref C :: (pre ++ bmB), ns := N, qualname := q, hasDict := true, slotNames := sn, subclasses := sub, abstract := ab, collection := col, hasDel := false } := by unfold PySem.W.clsIn; rw [lC] <;> rfl
  unfold PySem.W.mroIn
  rw [hcl, Option.bind_some]
  rfl
theorem mro_ty {C : Addr} {X : String} (ht : PySem.W.excTail bmB (pre ++ bmB) = true) (hx : bmB.contains (.type X) = true) : (Value.ref C :: (pre ++ bmB)).contains (.type X) = true := by
  rw [List.contains_cons, PySem.W.excTail_contains X _ ht, hx, Bool.or_true]
theorem ov_at {C : Addr} {q : Str} {N : Addr} {bs : List Value} {sn : List Str} {sub : List Value} {ab : Bool} {col : Option Bool} {dd : Option Addr} {k0 k1 k2 k3 k5 : Option Value} (lC : K.lookup C = some (excClassObj nm q C N bs (pre ++ bmB) true sn sub ab col dd k0 k1 k2 k3 k5 newId)) (ht : PySem.W.excTail bmB (pre ++ bmB) = true) : PySem.W.excOver K C bmB = true := by
  have hcl : PySem.W.clsIn K C = some { name := nm, bases := bs, mro := .ref C :: (pre ++ bmB), ns := N, qualname := q, hasDict := true, slotNames := sn, subclasses := sub, abstract := ab, collection := col, hasDel := false } := by unfold PySem.W.clsIn; rw [lC] <;> rfl
  unfold PySem.W.excOver
  rw [hcl]
  show (C == C && PySem.W.excTail bmB (pre ++ bmB)) = true
  rw [beq_self_eq_true, ht]
  rfl
@[reducible] def er_mk (X : K.In h) (G : h.Ns mainGlobals mg) {C f c cc : Addr} {od cld cdd : Option Addr} {sl csl ccs : Array (Option Value)} {doc pm ctv clc ccl : Value} {vs : Array Value} {file : Str} {tf : Tok} {ar : Arg}
    {q : Str} {N : Addr} {bs : List Value} {sn : List Str} {sub : List Value} {ab : Bool} {col : Option Bool} {dd : Option Addr} {k0 k1 k2 k3 k5 : Option Value}
    (op : PySem.W.nsIn K cStatics "thirdparty.any" = some none) (no : PySem.W.nsIn K mainGlobals "super" = some none)
    (h1 : bmB.contains (.type "BaseException") = true) (h2 : bmB.contains (.type B) = true) (h3 : bmB.contains (.type "object") = true)
    (ht : PySem.W.excTail bmB (pre ++ bmB) = true)
    (hh : ((defArgs st).posonlyargs ++ (defArgs st).args).head? = some ar) (har : ar.arg = "self")
    (ks : (defScope st).names.lookup ("super" : Str) = some .globalImplicit) (kc : (defScope st).names.lookup ("__class__" : Str) = some .free) (ka : (defScope st).names.lookup ar.arg = some .local)
    (top : (P.main.scope.names.lookup ("super" : Str)).isSome = false)
    (aC : PySem.W.nsIn K mainGlobals nm = some (some (.ref C)))
    (lC : K.lookup C = some (excClassObj nm q C N bs (pre ++ bmB) true sn sub ab col dd k0 k1 k2 k3 k5 newId))
    (aI : PySem.W.findIn K (.ref C) "__init__" = some (some (.ref f)))
    (lI : K.lookup f = some ⟨.type "function", od, .func (PySem.W.fnX "__init__" qual (defArgs st) (defBody st) (defScope st) [(("__class__" : Str), cc)] .none .none doc pm none (.ref c) ctv), sl⟩)
    (cI : PySem.W.codeIn K (.ref c) qual = true)
    (lc : K.lookup cc = some ⟨clc, cld, .cell (some (.ref C)), csl⟩)
    (lco : K.lookup c = some ⟨ccl, cdd, .fields vs, ccs⟩)
    (sa : PySem.W.findIn K (.ref C) "__setattr__" = some (some (.builtin "object.__setattr__")))
    (ga : PySem.W.findIn K (.ref C) "__getattribute__" = some (some (.builtin "BaseException.__getattribute__")))
    (gt : PySem.W.findIn K (.ref C) "__getattr__" = some none)
    (kp : PySem.W.keepIn K (.ref C) = true)
    (cl : PySem.W.findIn K (.ref C) "__class__" = some (some (.builtin "object.__class__")))
    (su : PySem.W.ks_superIn K C C "__init__" = some (some (.builtin initId)))
    (hvs : vs[2]? = some (.str file tf)) (hfile : ((P.main.file : Str) == file) = true) : Er P K mg B newId initId bmB pre st nm qual where
  C := C
  f := f
  cc := cc
  c := c
  ar := ar
  doc := doc
  pm := pm
  ctv := ctv
  T := {
    lk := ⟨od, sl, lI⟩
    cd := cI
    cl := ⟨cc, _, rfl, lc, rfl⟩
    hd := hh
    fl := ⟨_, vs, file, tf, lco, rfl, hvs, hfile⟩
    ks := ks
    kc := kc
    ka := ka
    top := top
    no := PySem.W.mg_none_of X G no
    op := op
    ox := {
      cls := ⟨nm, q, N, bs, pre ++ bmB, sn, sub, ab, col, dd, k0, k1, k2, k3, k5, lC, ht⟩
      ov := ov_at lC ht
      sa := sa
      ga := ga
      gt := gt
      ex := (mro_at lC _).trans (congrArg some (mro_ty ht h1))
      ty := congrArg (Option.map fun o : Obj => o.cls) lC
      kp := kp
      cl := cl
      ob := (mro_at lC _).trans (congrArg some (mro_ty ht h3)) }
    su := su
    sb := (mro_at lC _).trans (congrArg some (mro_ty ht h2))
    mr := (mro_at lC _).trans (by rw [List.contains_cons, beq_self_eq_true, Bool.true_or]) }
  iC := aI
  tI := congrArg (Option.map fun o : Obj => o.cls) lI
  g := PySem.W.mg_of X G aC
  har := har
  lk := ⟨q, N, bs, sn, sub, ab, col, dd, k0, k1, k2, k3, k5, lC⟩
/-- an own error and the fields that its class lacks -/
structure ErW (P : Program) (K : PySem.W.Frag) (mg : Str → Option Value) (B newId initId : String) (bmB pre : List Value) (st : Stmt) (nm qual : Str) (fl : List Str) where
  e : Er P K mg B newId initId bmB pre st nm qual
  no : ∀ x ∈ fl, PySem.W.findIn K (.ref e.C) x = some none
def erw1 (X : K.In h) (G : h.Ns mainGlobals mg) {C f c cc : Addr} {od cld cdd : Option Addr} {sl csl ccs : Array (Option Value)} {doc pm ctv clc ccl : Value} {vs : Array Value} {file : Str} {tf : Tok} {ar : Arg}
    {q : Str} {N : Addr} {bs : List Value} {sn : List Str} {sub : List Value} {ab : Bool} {col : Option Bool} {dd : Option Addr} {k0 k1 k2 k3 k5 : Option Value}
    (op : PySem.W.nsIn K cStatics "thirdparty.any" = some none) (no : PySem.W.nsIn K mainGlobals "super" = some none)
    (h1 : bmB.contains (.type "BaseException") = true) (h2 : bmB.contains (.type B) = true) (h3 : bmB.contains (.type "object") = true)
    (ht : PySem.W.excTail bmB (pre ++ bmB) = true)
    (hh : ((defArgs st).posonlyargs ++ (defArgs st).args).head? = some ar) (har : ar.arg = "self")
    (ks : (defScope st).names.lookup ("super" : Str) = some .globalImplicit) (kc : (defScope st).names.lookup ("__class__" : Str) = some .free) (ka : (defScope st).names.lookup ar.arg = some .local)
    (top : (P.main.scope.names.lookup ("super" : Str)).isSome = false)
    (aC : PySem.W.nsIn K mainGlobals nm = some (some (.ref C)))
    (lC : K.lookup C = some (excClassObj nm q C N bs (pre ++ bmB) true sn sub ab col dd k0 k1 k2 k3 k5 newId))
    (aI : PySem.W.findIn K (.ref C) "__init__" = some (some (.ref f)))
    (lI : K.lookup f = some ⟨.type "function", od, .func (PySem.W.fnX "__init__" qual (defArgs st) (defBody st) (defScope st) [(("__class__" : Str), cc)] .none .none doc pm none (.ref c) ctv), sl⟩)
    (cI : PySem.W.codeIn K (.ref c) qual = true)
    (lc : K.lookup cc = some ⟨clc, cld, .cell (some (.ref C)), csl⟩)
    (lco : K.lookup c = some ⟨ccl, cdd, .fields vs, ccs⟩)
    (sa : PySem.W.findIn K (.ref C) "__setattr__" = some (some (.builtin "object.__setattr__")))
    (ga : PySem.W.findIn K (.ref C) "__getattribute__" = some (some (.builtin "BaseException.__getattribute__")))
    (gt : PySem.W.findIn K (.ref C) "__getattr__" = some none)
    (kp : PySem.W.keepIn K (.ref C) = true)
    (cl : PySem.W.findIn K (.ref C) "__class__" = some (some (.builtin "object.__class__")))
    (su : PySem.W.ks_superIn K C C "__init__" = some (some (.builtin initId)))
    (hvs : vs[2]? = some (.str file tf)) (hfile : ((P.main.file : Str) == file) = true) {f1 : Str} (x1 : PySem.W.findIn K (.ref C) f1 = some none) : ErW P K mg B newId initId bmB pre st nm qual [f1] :=
  ⟨er_mk (C := C) X G op no h1 h2 h3 ht hh har ks kc ka top aC lC aI lI cI lc lco sa ga gt kp cl su hvs hfile, fun x hx => by
    rcases List.mem_cons.mp hx with rfl | e
    · exact x1
    · cases e⟩
def erw2 (X : K.In h) (G : h.Ns mainGlobals mg) {C f c cc : Addr} {od cld cdd : Option Addr} {sl csl ccs : Array (Option Value)} {doc pm ctv clc ccl : Value} {vs : Array Value} {file : Str} {tf : Tok} {ar : Arg}
    {q : Str} {N : Addr} {bs : List Value} {sn : List Str} {sub : List Value} {ab : Bool} {col : Option Bool} {dd : Option Addr} {k0 k1 k2 k3 k5 : Option Value}
    (op : PySem.W.nsIn K cStatics "thirdparty.any" = some none) (no : PySem.W.nsIn K mainGlobals "super" = some none)
    (h1 : bmB.contains (.type "BaseException") = true) (h2 : bmB.contains (.type B) = true) (h3 : bmB.contains (.type "object") = true)
    (ht : PySem.W.excTail bmB (pre ++ bmB) = true)
    (hh : ((defArgs st).posonlyargs ++ (defArgs st).args).head? = some ar) (har : ar.arg = "self")
    (ks : (defScope st).names.lookup ("super" : Str) = some .globalImplicit) (kc : (defScope st).names.lookup ("__class__" : Str) = some .free) (ka : (defScope st).names.lookup ar.arg = some .local)
    (top : (P.main.scope.names.lookup ("super" : Str)).isSome = false)
    (aC : PySem.W.nsIn K mainGlobals nm = some (some (.ref C)))
    (lC : K.lookup C = some (excClassObj nm q C N bs (pre ++ bmB) true sn sub ab col dd k0 k1 k2 k3 k5 newId))
    (aI : PySem.W.findIn K (.ref C) "__init__" = some (some (.ref f)))
    (lI : K.lookup f = some ⟨.type "function", od, .func (PySem.W.fnX "__init__" qual (defArgs st) (defBody st) (defScope st) [(("__class__" : Str), cc)] .none .none doc pm none (.ref c) ctv), sl⟩)
    (cI : PySem.W.codeIn K (.ref c) qual = true)
    (lc : K.lookup cc = some ⟨clc, cld, .cell (some (.ref C)), csl⟩)
    (lco : K.lookup c = some ⟨ccl, cdd, .fields vs, ccs⟩)
    (sa : PySem.W.findIn K (.ref C) "__setattr__" = some (some (.builtin "object.__setattr__")))
    (ga : PySem.W.findIn K (.ref C) "__getattribute__" = some (some (.builtin "BaseException.__getattribute__")))
    (gt : PySem.W.findIn K (.ref C) "__getattr__" = some none)
    (kp : PySem.W.keepIn K (.ref C) = true)
    (cl : PySem.W.findIn K (.ref C) "__class__" = some (some (.builtin "object.__class__")))
    (su : PySem.W.ks_superIn K C C "__init__" = some (some (.builtin initId)))
    (hvs : vs[2]? = some (.str file tf)) (hfile : ((P.main.file : Str) == file) = true) {f1 f2 : Str} (x1 : PySem.W.findIn K (.ref C) f1 = some none) (x2 : PySem.W.findIn K (.ref C) f2 = some none) : ErW P K mg B newId initId bmB pre st nm qual [f1, f2] :=
  ⟨er_mk (C := C) X G op no h1 h2 h3 ht hh har ks kc ka top aC lC aI lI cI lc lco sa ga gt kp cl su hvs hfile, fun x hx => by
    rcases List.mem_cons.mp hx with rfl | e
    · exact x1
    · rcases List.mem_cons.mp e with rfl | e
      · exact x2
      · cases e⟩
end
/-! ### raise of an own error -/
section
variable {P : Program} {K : PySem.W.Frag} {mg : Str → Option Value} {G : Addr} {st : Stmt} {nm qual : Str}
theorem oex_of (T : Er P K mg "ValueError" "ValueError.__new__" "ValueError.__init__" [.type "ValueError", .type "Exception", .type "BaseException", .type "object"] [.ref G] st nm qual) : OexC K T.C := by
  obtain ⟨q, N, bs, sn, sub, ab, col, dd, k0, k1, k2, k3, k5, lk⟩ := T.lk
  exact ⟨⟨nm, q, N, bs, _, sn, sub, ab, col, dd, k0, k1, k2, k3, k5, lk, rfl⟩, T.T.ox.sa, T.T.ox.ex, T.T.ox.ty, T.T.ox.kp⟩
theorem xfc_of {B newId initId : String} {bmB pre : List Value} (T : Er P K mg B newId initId bmB pre st nm qual) : XfC K T.C := ⟨T.T.ox.ga, T.T.ox.gt, T.T.ox.ex, T.T.ox.has.1⟩
/-- what the making of an error asks, ahead of its raise -/
theorem mk_use {H1 : Hp} {C : Addr} {n : Nat} {fF : List V → List (Str × V)} {vs : List V} {R : Value → Option Addr → Hp → Prop} (hn : vs.length = n) (h0 : n ≤ 1000) (k : ∀ d Hf, H1 d = none → Same H1 Hf → Hf d = some (.xd (fF vs)) → R (.ref C) (some d) Hf) :
    vs.length ≤ 1000 ∧ ∀ a, H1 a = none → spIni C n fF (.ref a :: (vs ++ [])) (upd H1 a (exo a C none)) (fun v H2 => v = .non ∧ ∃ (d : Addr) (fs : List (Str × V)), H2 a = some (exo a C (some d)) ∧ H2 d = some (exd d fs) ∧ H1 d = none ∧ R (.ref C) (some d) (upd (del H2 a) d (.xd fs))) (fun _ _ _ => False) := by
  refine ⟨by omega, fun a na => ?_⟩
  rw [List.append_nil]
  refine ⟨a, vs, rfl, hn, upd_same, fun d H2 M => ?_⟩
  obtain ⟨m1, m2, m3, m4, m5⟩ := M
  have hd : H1 d = none := by
    rw [upd_ne m2] at m1
    exact m1
  refine ⟨rfl, d, _, m3, m4, hd, k d _ hd (fun b o z => ?_) upd_same⟩
  have hb : b ≠ a := ne_of_none z na
  rw [upd_ne (ne_of_none z hd), del_ne hb]
  exact m5 b o hb ((upd_ne hb).trans z)
end
/-! ### raise of an own error that takes no arguments
By the statements of call_own, FnOk.run and mk_end; the first two are met in the order in which the model makes an object, as in every rule of this kind. -/
section
variable {X : Cx} {pins : List (Addr × Obj)} {σ : L2.St} {H : Hp} {s : Shared} {C : Addr}
/-- an error just made, with nothing in it -/
def bare (C : Addr) (h : Heap) : Heap := (h.push (PySem.W.kdv_tup [])).push (PySem.HandSPX.excO C h.objs.size)
/-- what is told of the raise: a table of fields at a new place, the rest as before -/
def ToldE (C : Addr) (fs : List (Str × V)) : L2.St → Hp → XK → Prop := fun _ H Q => ∀ d G, H d = none → Same H G → G d = some (.xd fs) → Q (.ref C) (some d) G
end
theorem sq_nn (x : Int) : 0 ≤ x * x := by
  rcases Int.le_total 0 x with h | h
  · exact Int.mul_nonneg h h
  · exact Int.mul_nonneg_of_nonpos_of_nonpos h h
theorem sq_le {x y : Int} (h0 : 0 ≤ x) (h : x ≤ y) : x * x ≤ y * y := Int.mul_le_mul h h h0 (Int.le_trans h0 h)
theorem lt_of_sq {x y : Int} (h0 : 0 ≤ y) (h : x * x < y * y) : x < y := by
  rcases Int.lt_or_le x y with z | z
  · exact z
  · have := sq_le h0 z
    omega
/-- Newton's step from above -/
theorem newton_up {g n : Int} (hg : 0 < g) (hn : 0 ≤ n) : n < ((g + n / g) / 2 + 1) * ((g + n / g) / 2 + 1) := by
  have hq : 0 ≤ n / g := Int.ediv_nonneg hn (by omega)
  have h1 : n < g * (n / g + 1) := by
    have := Int.lt_ediv_add_one_mul_self n hg
    grind
  generalize n / g = q at hq h1 ⊢
  have h2 : g + q + 1 ≤ 2 * ((g + q) / 2 + 1) := by omega
  generalize (g + q) / 2 = r at h2 ⊢
  have h3 := sq_nn (g - (q + 1))
  have h4 := sq_le (show 0 ≤ g + q + 1 by omega) h2
  grind
theorem newton_dn {g n : Int} (hg : 0 < g) (h : n < g * g) : (g + n / g) / 2 < g := by
  have h1 : n / g < g := Int.ediv_lt_of_lt_mul hg h
  omega
theorem newton_nn {g n : Int} (hg : 0 < g) (hn : 0 ≤ n) : 0 ≤ (g + n / g) / 2 := by
  have hq : 0 ≤ n / g := Int.ediv_nonneg hn (by omega)
  omega
/-- no root times a square is a square -/
theorem no_square {d k : Int} (hk : 0 ≤ k) (h1 : k * k < d) (h2 : d < (k + 1) * (k + 1)) : ∀ (n : Nat) (b w : Int), 0 < b → 0 ≤ w → b.toNat ≤ n → w * w ≠ d * b * b
  | 0, b, w, hb, _, hn => by omega
  | n + 1, b, w, hb, hw, hn => fun e => by
    have hbb : 0 < b * b := Int.mul_pos hb hb
    have l1 : (k * b) * (k * b) < w * w := by
      have := Int.mul_lt_mul_of_pos_right h1 hbb
      grind
    have l2 : w * w < ((k + 1) * b) * ((k + 1) * b) := by
      have := Int.mul_lt_mul_of_pos_right h2 hbb
      grind
    have m1 : k * b < w := lt_of_sq hw l1
    have m2 : w < (k + 1) * b := lt_of_sq (Int.mul_nonneg (by omega) (by omega)) l2
    have m3 : w - k * b < b := by grind
    refine no_square hk h1 h2 n (w - k * b) (d * b - k * w) (by omega) ?_ (by omega) (by grind)
    have : (k * w) * b ≤ (d * b) * b := by
      have z := Int.mul_le_mul_of_nonneg_right (Int.le_of_lt m1) hw
      grind
    have z : k * w ≤ d * b := Int.le_of_mul_le_mul_right this hb
    omega
/-! ### defs with defaults, methods by keywords -/
inductive Dflt (K : PySem.W.Frag) (r : Addr) : Prop
  | mk {y1 y2 : Addr} {d e f : Option Addr} {m n o : Nat} {s t u : Array (Option Value)} {v w x y : Tok} (a : K.lookup r = some ⟨.type "tuple", d, .seq #[.ref y1, .ref y2] m, s⟩)
      (b : K.lookup y1 = some ⟨.type "tuple", e, .seq #[.int 0 v, .int 0 w] n, t⟩) (c : K.lookup y2 = some ⟨.type "tuple", f, .seq #[.int 0 x, .int 0 y] o, u⟩) : Dflt K r
section
variable {K : PySem.W.Frag} {f T D : Addr} {oc tc u : Value} {od td : Option Addr} {fd : FuncData} {sl ts : Array (Option Value)} {tn : Nat} {its : Array Value} {ps : List Str} {x : Str}
theorem bd_given (l : K.lookup f = some ⟨oc, od, .func fd, sl⟩) (t : K.lookup T = some ⟨tc, td, .seq its tn, ts⟩) (h : ∀ us : List Value, us.length = ps.length → ∃ k, bindArgs fd ⟨us, []⟩ = seqItems? (.ref T) >>= k ∧ k (some its) = pure (ps.zip us)) : Binds K fd ps [] := fun s us X hl => by
  rw [List.append_nil] at hl ⊢
  obtain ⟨k, e1, e2⟩ := h us hl
  refine BindsTo.of_looks fun M => ?_
  rw [e1]
  exact looks_items X t rfl (.of_pure e2)
theorem bd_dflt {v : Value} (l : K.lookup f = some ⟨oc, od, .func fd, sl⟩) (t : K.lookup T = some ⟨tc, td, .seq #[v] tn, ts⟩) (h : ∀ us : List Value, us.length + 1 = ps.length → ∃ k, bindArgs fd ⟨us, []⟩ = seqItems? (.ref T) >>= k ∧ k (some #[v]) = pure (ps.zip (us ++ [v]))) : Binds K fd ps [v] := fun s us X hl => by
  rw [List.length_append] at hl
  obtain ⟨k, e1, e2⟩ := h us hl
  refine BindsTo.of_looks fun M => ?_
  rw [e1]
  exact looks_items X t rfl (.of_pure e2)
theorem bd_kw (l : K.lookup f = some ⟨oc, od, .func fd, sl⟩) (kd : PySem.W.nsIn K D x = some (some u)) (h : ∀ us : List Value, us.length + 1 = ps.length → KwChain D [(x, u)] (bindArgs fd ⟨us, []⟩) (ps.zip (us ++ [u]))) : Binds K fd ps [u] := fun s us X hl => by
  rw [List.length_append] at hl
  refine BindsTo.of_looks fun M => ?_
  refine KwChain.looks X ?_ (h us hl)
  intro q hq
  rcases List.mem_cons.mp hq with e | e
  · rw [e]
    exact kd
  · cases e
end
section
variable {X : Cx} {CX : CXT} {k : Nat} {f C : Addr} {fd : FuncData} {ps ks : List Str} {sp : Sp} {E : XK} {m : Str} {pos apos : Pos} {o : Expr} {kws : List Keyword} {ta : TE} {tk : TA}
end
/-! ### operators of an own class -/
section
variable {X : Cx} {CX : CXT} {n : Nat} {C g : Addr} {fd : FuncData} {ps : List Str} {sp : Sp} {E : XK}
theorem inst_of {pins : List (Addr × Obj)} {σ : L2.St} {H : Hp} {s : Shared} {a dx : Addr} {fs : List (Str × V)} (I : Inv X pins σ H s) (ha : H a = some (.ins C dx fs)) : ∃ ox od, PySem.W.InstAt s.heap a ox C od := by
  obtain ⟨mA, J, _⟩ := ins_get I.hok ha
  obtain ⟨od, J, _⟩ := J.look
  exact ⟨_, _, J⟩
/-- x op y of two instances -/
def rOwn2 (C : Addr) (sp : Sp) (E : XK) : R2 := fun x y H Q => ∃ a dx fs b dy gs, x = .ref a ∧ y = .ref b ∧ H a = some (.ins C dx fs) ∧ H b = some (.ins C dy gs) ∧ sp [x, y] H Q E
/-- x op i -/
def rOwnI (C : Addr) (sp : Sp) (E : XK) : R2 := fun x y H Q => ∃ a dx fs i, x = .ref a ∧ y = .int i ∧ H a = some (.ins C dx fs) ∧ sp [x, y] H Q E
/-- -x -/
def rOwn1 (C : Addr) (sp : Sp) (E : XK) : V → Hp → VK → Prop := fun x H Q => ∃ a dx fs, x = .ref a ∧ H a = some (.ins C dx fs) ∧ sp [x] H Q E
/-- x == y, y anything whose class does not come first -/
def rOwnE (K : PySem.W.Frag) (C : Addr) (sp : Sp) (E : XK) : R2 := fun x y H Q => ∃ a dx fs tb, x = .ref a ∧ H a = some (.ins C dx fs) ∧ TyX K H y tb ∧ PySem.W.notFirst K C tb = true ∧ sp [x, y] H Q E
/-- below a built-in: the callee runs -/
theorem run_in {A : Around} {pins : List (Addr × Obj)} {σ : L2.St} {H : Hp} {s : Shared} {Q : VK} {us : List Value} {ws : List V} (F : FnOk X.prog X.w X.K X.mg X.base CX n g fd ps sp) (hr : Room n A) (e0 : Env0 X.prog X.w X.K X.mg X.base A X.stack s H) (hb : Binds X.K fd ps []) (hx : Passes CX X E) (I : Inv X pins σ H s) (r : Vals ws us) (h : sp ws H Q E) :
    wpAny (model X.prog X.w) A (call (.ref g) us) (EP X pins σ Q) X.xe s := by
  have hl : (us ++ []).length = ps.length := by rw [List.append_nil, ← r.length]; exact F.len _ _ _ _ h
  have b0 := hb s us I.kIn hl
  rw [List.append_nil] at b0
  refine wpAny_call (codeAny_mono (F.run A X.stack s H ⟨us, []⟩ us ws Q E hr e0 b0 r h) fun r s' hq => ?_)
  cases r with
  | error e => exact hx pins σ H s e s' I hq
  | ok fl =>
    cases fl with
    | ret u => exact I.after hq
    | next => exact False.elim hq
    | brk => exact False.elim hq
    | cont => exact False.elim hq
end
section
variable {prog : Program} {w : World} {A : Around} {E : Value → Shared → Prop} {s : Shared} {K : PySem.W.Frag} {x y C f : Addr} {ox : Obj} {od : Option Obj}
theorem ifBound_objNe {M : Model} {args : List Value} {Q : Option Value → Shared → Prop} (X : K.In s.heap) (I : PySem.W.InstAt s.heap x ox C od) (hs : PySem.W.findIn K (.ref C) "__ne__" = some (some (.builtin "object.__ne__")))
    (h : wpAny M A (call (.builtin "object.__ne__") (.ref x :: args)) (fun v => Q (some v)) E s) : wpAny M A (callSpecialIfBound? (.ref x) "__ne__" args) Q E s := by
  simp only [callSpecialIfBound?, bindSpecialIfBound?]
  refine wpAny_holding (wpAny_bind (wpAny_bind (wpAny_bind (I.type.here ((PySem.W.looks_findIn X hs).here ?_)))))
  refine wpAny_bind (wpAny_askSetting (wpAny_ite ?_))
  have fin : wpAny M A (call (.builtin "object.__ne__") ([.ref x] ++ args) >>= fun v => pure (some v)) Q E s := wpAny_bind (wpAny_mono h (fun v s' h' => wpAny_pure h') fun _ _ h' => h')
  split
  · exact wpAny_bind (wpAny_of_eq (F.cmp_object.ne.bind _) (wpAny_pure (by exact fin)))
  · exact wpAny_tryCatch (wpAny_bind (wpAny_of_eq (F.cmp_object.ne.bind _) (wpAny_pure (by exact fin))))
theorem ne_entry {b : Value} {Q : Fin → Shared → Prop} (hu : A.units < cLine) (X : K.In s.heap) (I : PySem.W.InstAt s.heap x ox C od) (hs : PySem.W.findIn K (.ref C) "__eq__" = some (some (.ref f))) (hf : PySem.W.isFn K (.ref f) = true)
    (h : wpAny (model prog w) A (call (.ref f) [.ref x, b]) (fun r s' => ∃ k, r = .bool k ∧ Q (.done (.ret (.bool (!k)))) s') E s) : wpAny (model prog w) A (Builtin.«object.__ne__» ⟨[.ref x, b], []⟩) Q E s := by
  unfold Builtin.«object.__ne__»
  refine wpAny_bind (wpAny_of_eq (a := (Value.ref x, [b])) rfl ?_)
  refine wpAny_bind (wpAny_cRoomFor hu ?_)
  refine wpAny_bind (PySem.W.ifBound_K X I hs hf (wpAny_mono h (fun r s' hr => ?_) fun _ _ z => z))
  obtain ⟨k, rfl, q⟩ := hr
  exact wpAny_bind (wpAny_truthy_bool (wpAny_pure q))
theorem call_objNe {b : Value} {Q : Value → Shared → Prop} (hu : A.in1.units < cLine) (X : K.In s.heap) (I : PySem.W.InstAt s.heap x ox C od) (hm : PySem.W.mroIn K C (.type "object") = some true) (hs : PySem.W.findIn K (.ref C) "__eq__" = some (some (.ref f))) (hf : PySem.W.isFn K (.ref f) = true)
    (h : wpAny (model prog w) A.in1 (call (.ref f) [.ref x, b]) (fun r s' => ∃ k, r = .bool k ∧ Q (.bool (!k)) s') E s) : wpAny (model prog w) A (call (.builtin "object.__ne__") [.ref x, b]) Q E s :=
  wpAny_call (codeAny_call_builtin F.cmp_object.ne.plain F.cmpEntry_ne (PySem.W.check_slot F.cmpKind_ne F.cmpSplit_ne (I.type.andThen (PySem.W.looks_mroIn X hm)) (F.cmpArgs_ne _ _) (ne_entry hu X I hs hf h)))
theorem rc_ne {oy : Obj} {od' : Option Obj} {Q : Value → Shared → Prop} (hu : A.in1.units < cLine) (hu0 : A.units < cLine) (X : K.In s.heap) (I : PySem.W.InstAt s.heap x ox C od) (J : PySem.W.InstAt s.heap y oy C od') (hm : PySem.W.mroIn K C (.type "object") = some true)
    (hn : PySem.W.findIn K (.ref C) "__ne__" = some (some (.builtin "object.__ne__"))) (hs : PySem.W.findIn K (.ref C) "__eq__" = some (some (.ref f))) (hf : PySem.W.isFn K (.ref f) = true)
    (h : wpAny (model prog w) A.in1 (call (.ref f) [.ref x, .ref y]) (fun r s' => ∃ k, r = .bool k ∧ Q (.bool (!k)) s') E s) : wpAny (model prog w) A (richCompare .NotEq (.ref x) (.ref y)) Q E s := by
  have one : wpAny (model prog w) A (tryCompare (.ref x) "__ne__" (.ref y)) (fun r s' => ∃ v, r = some v ∧ Q v s') E s := by
    unfold tryCompare
    refine wpAny_bind (ifBound_objNe X I hn (call_objNe hu X I hm hs hf (wpAny_mono h (fun r s' hr => ?_) fun _ _ e => e)))
    obtain ⟨k, rfl, q⟩ := hr
    exact ⟨k, rfl, wpAny_pure ⟨_, rfl, q⟩⟩
  unfold richCompare
  simp only [oneThing_ref]
  refine wpAny_holding (wpAny_bind (wpAny_cRoomFor hu0 ?_))
  refine wpAny_bind (I.type.here (wpAny_bind (J.type.here ?_)))
  simp only [bne_self_eq_false, Bool.false_eq_true, if_false]
  refine wpAny_bind (wpAny_pure ?_)
  simp only [Bool.false_eq_true, if_false]
  refine wpAny_bind (wpAny_mono one (fun r s' z => ?_) fun _ _ e => e)
  obtain ⟨v, rfl, hq⟩ := z
  exact wpAny_pure hq
end
section
variable {X : Cx} {CX : CXT} {n : Nat} {C g : Addr} {fd : FuncData} {ps : List Str} {sp : Sp} {E : XK}
/-- x != y by the own == -/
def rOwnN (C : Addr) (sp : Sp) (E : XK) : R2 := fun x y H Q => ∃ a dx fs b dy gs, x = .ref a ∧ y = .ref b ∧ H a = some (.ins C dx fs) ∧ H b = some (.ins C dy gs) ∧ sp [x, y] H (fun z H' => ∃ k, z = .bl k ∧ Q (.bl (!k)) H') E
theorem op_neO2 (m : Meth X.K C "__eq__" g) (hm : PySem.W.mroIn X.K C (.type "object") = some true) (hn : PySem.W.findIn X.K (.ref C) "__ne__" = some (some (.builtin "object.__ne__"))) (F : FnOk X.prog X.w X.K X.mg X.base CX n g fd ps sp) (hr : Room (n + 1) X.A) (hb : Binds X.K fd ps []) (hx : Passes CX X E) :
    OpR X (compareOp .NotEq) (rOwnN C sp E) := by
  intro pins s σ H x y v u Q I rx ry h
  obtain ⟨a, dx, fs, b, dy, gs, rfl, rfl, ha, hb', q⟩ := h
  cases (show v = Value.ref a from rx)
  cases (show u = Value.ref b from ry)
  obtain ⟨ox, od, J⟩ := inst_of I ha
  obtain ⟨oy, od', J'⟩ := inst_of I hb'
  have hr1 : Room n X.A.in1 := Room.in1 hr
  show wpAny _ _ (richCompare .NotEq (.ref a) (.ref b)) _ _ s
  refine rc_ne hr1.units0 hr.units0 I.kIn J J' hm hn m.at_ m.fn ?_
  refine wpAny_mono (run_in (us := [.ref a, .ref b]) (ws := [.ref a, .ref b]) F hr1 I.env0.in1 hb hx I (.cons rfl (.cons rfl .nil)) q) (fun w s' z => ?_) fun _ _ x => x
  obtain ⟨z', H', I', rz, k, rfl, qz⟩ := z
  cases (show w = Value.bool k from rz)
  exact ⟨k, rfl, .bl (!k), H', I', rfl, qz⟩
/-- bool(x) -/
def rBoolO (C : Addr) (sp : Sp) (E : XK) : List V → Hp → VK → Prop := fun xs H Q => ∃ a dx fs, xs = [V.ref a] ∧ H a = some (.ins C dx fs) ∧ sp [.ref a] H (fun z H' => ∃ k, z = .bl k ∧ Q (.bl k) H') E
/-- any(xs) of whole numbers -/
def rAnyI (K : PySem.W.Frag) : List V → Hp → VK → Prop := fun vs H Q => ∃ (a : Addr) (ns : List Int), vs = [V.ref a] ∧ SqL K H a (ns.map V.int) ∧ Q (.bl (ns.any fun i => i != 0)) H
end
/-! ### a default that is an empty tuple -/
inductive Dfl0 (K : PySem.W.Frag) (r : Addr) : Prop
  | mk {d : Option Addr} {m : Nat} {s : Array (Option Value)} (a : K.lookup r = some ⟨.type "tuple", d, .seq #[] m, s⟩) : Dfl0 K r
theorem Dfl0.sq {K : PySem.W.Frag} {H : Hp} {r : Addr} (h : Dfl0 K r) : SqT K H r [] := by
  obtain ⟨a⟩ := h
  exact .inr ⟨_, _, _, a, rfl, rfl, Nat.zero_le _, .nil⟩
def topS (i : Nat) : Stmt := PySem.Challenge.pw_grainyard_k21_reverse_steps.main.body.getD i (.Pass ⟨0, 0, 0, 0⟩)
abbrev s_whole_root : Stmt := topS 15
theorem sc_whole_root : FnScope ["number", "guess"] ["number"] (defScope s_whole_root) := ⟨rfl, rfl, rfl, by decide +kernel, rfl, by decide +kernel, by decide +kernel⟩
abbrev s_is_root : Stmt := topS 16
theorem sc_is_root : FnScope ["number", "whole"] ["number"] (defScope s_is_root) := ⟨rfl, rfl, rfl, by decide +kernel, rfl, by decide +kernel, by decide +kernel⟩
abbrev s_check_root : Stmt := topS 17
theorem sc_check_root : FnScope ["root"] ["root"] (defScope s_check_root) := ⟨rfl, rfl, rfl, by decide +kernel, rfl, by decide +kernel, by decide +kernel⟩
abbrev s_sign : Stmt := topS 18
theorem sc_sign : FnScope ["pair", "root", "worth", "a", "b"] ["pair", "root"] (defScope s_sign) := ⟨rfl, rfl, rfl, by decide +kernel, rfl, by decide +kernel, by decide +kernel⟩
abbrev s_is_length : Stmt := topS 19
theorem sc_is_length : FnScope ["pair", "root"] ["pair", "root"] (defScope s_is_length) := ⟨rfl, rfl, rfl, by decide +kernel, rfl, by decide +kernel, by decide +kernel⟩
abbrev s_added : Stmt := topS 20
theorem sc_added : FnScope ["pairs", "a", "b"] ["pairs"] (defScope s_added) := ⟨rfl, rfl, rfl, by decide +kernel, rfl, by decide +kernel, by decide +kernel⟩
abbrev s_scaled : Stmt := topS 21
theorem sc_scaled : FnScope ["pair", "number", "a", "b"] ["pair", "number"] (defScope s_scaled) := ⟨rfl, rfl, rfl, by decide +kernel, rfl, by decide +kernel, by decide +kernel⟩
abbrev s_is_sheet : Stmt := topS 23
theorem sc_is_sheet : FnScope ["sheet", "root", "across", "along"] ["sheet", "root"] (defScope s_is_sheet) := ⟨rfl, rfl, rfl, by decide +kernel, rfl, by decide +kernel, by decide +kernel⟩
abbrev s_turned : Stmt := topS 24
theorem sc_turned : FnScope ["sheet", "across", "along"] ["sheet"] (defScope s_turned) := ⟨rfl, rfl, rfl, by decide +kernel, rfl, by decide +kernel, by decide +kernel⟩
abbrev s_check_rows : Stmt := topS 25
theorem sc_check_rows : FnScope ["rows", "root", "at", "sheet", "count"] ["rows", "root"] (defScope s_check_rows) := ⟨rfl, rfl, rfl, by decide +kernel, rfl, by decide +kernel, by decide +kernel⟩
abbrev s_merged : Stmt := topS 26
theorem sc_merged : FnScope ["rows", "counts", "sheet", "count"] ["rows"] (defScope s_merged) := ⟨rfl, rfl, rfl, by decide +kernel, rfl, by decide +kernel, by decide +kernel⟩
abbrev s_Heap_init : Stmt := inClass (topS 28) 1
theorem sc_Heap_init : FnScope ["self", "root", "rows"] ["self", "root", "rows"] (defScope s_Heap_init) := ⟨rfl, rfl, rfl, by decide +kernel, rfl, by decide +kernel, by decide +kernel⟩
abbrev s_Heap_root : Stmt := inClass (topS 28) 3
theorem sc_Heap_root : FnScope ["self"] ["self"] (defScope s_Heap_root) := ⟨rfl, rfl, rfl, by decide +kernel, rfl, by decide +kernel, by decide +kernel⟩
abbrev s_Heap_rows : Stmt := inClass (topS 28) 6
theorem sc_Heap_rows : FnScope ["self"] ["self"] (defScope s_Heap_rows) := ⟨rfl, rfl, rfl, by decide +kernel, rfl, by decide +kernel, by decide +kernel⟩
abbrev s_Heap_eq : Stmt := inClass (topS 28) 13
theorem sc_Heap_eq : FnScope ["self", "other"] ["self", "other"] (defScope s_Heap_eq) := ⟨rfl, rfl, rfl, by decide +kernel, rfl, by decide +kernel, by decide +kernel⟩
abbrev s_is_pair : Stmt := topS 31
theorem sc_is_pair : FnScope ["item"] ["item"] (defScope s_is_pair) := ⟨rfl, rfl, rfl, by decide +kernel, rfl, by decide +kernel, by decide +kernel⟩
abbrev s_is_two_pairs : Stmt := topS 32
theorem sc_is_two_pairs : FnScope ["item"] ["item"] (defScope s_is_two_pairs) := ⟨rfl, rfl, rfl, by decide +kernel, rfl, by decide +kernel, by decide +kernel⟩
abbrev s_fits : Stmt := topS 33
theorem sc_fits : FnScope ["item", "kind", "least"] ["item", "kind"] (defScope s_fits) := ⟨rfl, rfl, rfl, by decide +kernel, rfl, by decide +kernel, by decide +kernel⟩
abbrev s_has_shape : Stmt := topS 34
theorem sc_has_shape : FnScope ["step", "shape", "item", "kind"] ["step"] (defScope s_has_shape) := ⟨rfl, rfl, rfl, by decide +kernel, rfl, by decide +kernel, by decide +kernel⟩
abbrev s_side_of : Stmt := topS 35
theorem sc_side_of : FnScope ["sheet", "side", "across", "along"] ["sheet", "side"] (defScope s_side_of) := ⟨rfl, rfl, rfl, by decide +kernel, rfl, by decide +kernel, by decide +kernel⟩
abbrev s_with_side : Stmt := topS 36
theorem sc_with_side : FnScope ["sheet", "side", "pair", "across", "along"] ["sheet", "side", "pair"] (defScope s_with_side) := ⟨rfl, rfl, rfl, by decide +kernel, rfl, by decide +kernel, by decide +kernel⟩
abbrev s_is_even_split : Stmt := topS 37
theorem sc_is_even_split : FnScope ["step", "word", "sheet", "side", "pieces", "copies", "a", "b"] ["step"] (defScope s_is_even_split) := ⟨rfl, rfl, rfl, by decide +kernel, rfl, by decide +kernel, by decide +kernel⟩
abbrev s_is_even_glue : Stmt := topS 38
theorem sc_is_even_glue : FnScope ["step", "word", "sheet", "second", "side", "copies"] ["step"] (defScope s_is_even_glue) := ⟨rfl, rfl, rfl, by decide +kernel, rfl, by decide +kernel, by decide +kernel⟩
abbrev s_is_step : Stmt := topS 39
theorem sc_is_step : FnScope ["step"] ["step"] (defScope s_is_step) := ⟨rfl, rfl, rfl, by decide +kernel, rfl, by decide +kernel, by decide +kernel⟩
abbrev s_check_steps : Stmt := topS 40
theorem sc_check_steps : FnScope ["steps", "at", "step"] ["steps"] (defScope s_check_steps) := ⟨rfl, rfl, rfl, by decide +kernel, rfl, by decide +kernel, by decide +kernel⟩
abbrev s_is_allowed : Stmt := topS 41
theorem sc_is_allowed : FnScope ["step", "turning"] ["step", "turning"] (defScope s_is_allowed) := ⟨rfl, rfl, rfl, by decide +kernel, rfl, by decide +kernel, by decide +kernel⟩
abbrev s_rest_of_saw : Stmt := topS 42
theorem sc_rest_of_saw : FnScope ["step", "word", "sheet", "side", "part", "copies"] ["step"] (defScope s_rest_of_saw) := ⟨rfl, rfl, rfl, by decide +kernel, rfl, by decide +kernel, by decide +kernel⟩
abbrev s_reverse_of_saw : Stmt := topS 43
theorem sc_reverse_of_saw : FnScope ["step", "word", "sheet", "side", "part", "copies"] ["step"] (defScope s_reverse_of_saw) := ⟨rfl, rfl, rfl, by decide +kernel, rfl, by decide +kernel, by decide +kernel⟩
abbrev s_reverse_of_glue : Stmt := topS 44
theorem sc_reverse_of_glue : FnScope ["step", "part", "word", "sheet", "second", "side", "copies"] ["step"] (defScope s_reverse_of_glue) := ⟨rfl, rfl, rfl, by decide +kernel, rfl, by decide +kernel, by decide +kernel⟩
abbrev s_reverse_of_split : Stmt := topS 45
theorem sc_reverse_of_split : FnScope ["step", "word", "sheet", "side", "pieces", "copies", "a", "b"] ["step"] (defScope s_reverse_of_split) := ⟨rfl, rfl, rfl, by decide +kernel, rfl, by decide +kernel, by decide +kernel⟩
abbrev s_reverse_of_stack : Stmt := topS 46
theorem sc_reverse_of_stack : FnScope ["step", "word", "sheet", "side", "pieces", "copies"] ["step"] (defScope s_reverse_of_stack) := ⟨rfl, rfl, rfl, by decide +kernel, rfl, by decide +kernel, by decide +kernel⟩
abbrev s_reverse_of : Stmt := topS 47
theorem sc_reverse_of : FnScope ["step", "word", "sheet", "copies"] ["step"] (defScope s_reverse_of) := ⟨rfl, rfl, rfl, by decide +kernel, rfl, by decide +kernel, by decide +kernel⟩
abbrev s_back_of : Stmt := topS 48
theorem sc_back_of : FnScope ["step"] ["step"] (defScope s_back_of) := ⟨rfl, rfl, rfl, by decide +kernel, rfl, by decide +kernel, by decide +kernel⟩
abbrev s_needs_of : Stmt := topS 49
theorem sc_needs_of : FnScope ["step", "sheet", "copies", "second"] ["step"] (defScope s_needs_of) := ⟨rfl, rfl, rfl, by decide +kernel, rfl, by decide +kernel, by decide +kernel⟩
abbrev s_saws_lengths : Stmt := topS 50
theorem sc_saws_lengths : FnScope ["step", "root"] ["step", "root"] (defScope s_saws_lengths) := ⟨rfl, rfl, rfl, by decide +kernel, rfl, by decide +kernel, by decide +kernel⟩
abbrev s_check_possible : Stmt := topS 51
theorem sc_check_possible : FnScope ["step", "root", "turning", "at"] ["step", "root", "turning", "at"] (defScope s_check_possible) := ⟨rfl, rfl, rfl, by decide +kernel, rfl, by decide +kernel, by decide +kernel⟩
abbrev s_counts_of : Stmt := topS 52
theorem sc_counts_of : FnScope ["heap", "sheet", "count"] ["heap"] (defScope s_counts_of) := ⟨rfl, rfl, rfl, by decide +kernel, rfl, by decide +kernel, by decide +kernel⟩
abbrev s_take_rows : Stmt := topS 53
theorem sc_take_rows : FnScope ["counts", "rows", "sheet", "count"] ["counts", "rows"] (defScope s_take_rows) := ⟨rfl, rfl, rfl, by decide +kernel, rfl, by decide +kernel, by decide +kernel⟩
abbrev s_put_rows : Stmt := topS 54
theorem sc_put_rows : FnScope ["counts", "rows", "sheet", "count"] ["counts", "rows"] (defScope s_put_rows) := ⟨rfl, rfl, rfl, by decide +kernel, rfl, by decide +kernel, by decide +kernel⟩
abbrev s_change_counts : Stmt := topS 55
theorem sc_change_counts : FnScope ["counts", "step"] ["counts", "step"] (defScope s_change_counts) := ⟨rfl, rfl, rfl, by decide +kernel, rfl, by decide +kernel, by decide +kernel⟩
abbrev s_after : Stmt := topS 56
theorem sc_after : FnScope ["heap", "step", "turning"] ["heap", "step", "turning"] (defScope s_after) := ⟨rfl, rfl, rfl, by decide +kernel, rfl, by decide +kernel, by decide +kernel⟩
abbrev s_apply_steps : Stmt := topS 57
theorem sc_apply_steps : FnScope ["heap", "steps", "turning", "counts", "at", "step"] ["heap", "steps", "turning"] (defScope s_apply_steps) := ⟨rfl, rfl, rfl, by decide +kernel, rfl, by decide +kernel, by decide +kernel⟩
abbrev s_source : Stmt := topS 59
theorem sc_source : FnScope ["_law_script", "_law_mix", "_law_cell"] ["_law_script"] (defScope s_source) := ⟨rfl, rfl, rfl, by decide +kernel, rfl, by decide +kernel, by decide +kernel⟩
abbrev s_pull : Stmt := topS 60
theorem sc_pull : FnScope ["_law_bag", "_law_size", "_law_mix", "_law_cell", "_law_found"] ["_law_bag", "_law_size"] (defScope s_pull) := ⟨rfl, rfl, rfl, by decide +kernel, rfl, by decide +kernel, by decide +kernel⟩
abbrev s_of : Stmt := topS 61
theorem sc_of : FnScope ["_law_bag", "_law_some"] ["_law_bag", "_law_some"] (defScope s_of) := ⟨rfl, rfl, rfl, by decide +kernel, rfl, by decide +kernel, by decide +kernel⟩
abbrev s_roots : Stmt := topS 62
theorem sc_roots : FnScope ["_law_d"] [] (defScope s_roots) := ⟨rfl, rfl, rfl, by decide +kernel, rfl, by decide +kernel, by decide +kernel⟩
abbrev s_a_root : Stmt := topS 63
theorem sc_a_root : FnScope ["_law_bag"] ["_law_bag"] (defScope s_a_root) := ⟨rfl, rfl, rfl, by decide +kernel, rfl, by decide +kernel, by decide +kernel⟩
abbrev s_any_pair : Stmt := topS 64
theorem sc_any_pair : FnScope ["_law_bag", "_law_size"] ["_law_bag"] (defScope s_any_pair) := ⟨rfl, rfl, rfl, by decide +kernel, rfl, by decide +kernel, by decide +kernel⟩
abbrev s_lsign : Stmt := topS 65
theorem sc_lsign : FnScope ["_law_pair", "_law_root", "_law_value"] ["_law_pair", "_law_root"] (defScope s_lsign) := ⟨rfl, rfl, rfl, by decide +kernel, rfl, by decide +kernel, by decide +kernel⟩
abbrev s_a_length : Stmt := topS 66
theorem sc_a_length : FnScope ["_law_bag", "_law_root", "_law_pair"] ["_law_bag", "_law_root"] (defScope s_a_length) := ⟨rfl, rfl, rfl, by decide +kernel, rfl, by decide +kernel, by decide +kernel⟩
abbrev s_a_sheet : Stmt := topS 67
theorem sc_a_sheet : FnScope ["_law_bag", "_law_root", "_law_one"] ["_law_bag", "_law_root"] (defScope s_a_sheet) := ⟨rfl, rfl, rfl, by decide +kernel, rfl, by decide +kernel, by decide +kernel⟩
abbrev s_lscaled : Stmt := topS 68
theorem sc_lscaled : FnScope ["_law_pair", "_law_number"] ["_law_pair", "_law_number"] (defScope s_lscaled) := ⟨rfl, rfl, rfl, by decide +kernel, rfl, by decide +kernel, by decide +kernel⟩
abbrev s_lside_of : Stmt := topS 69
theorem sc_lside_of : FnScope ["_law_sheet", "_law_side"] ["_law_sheet", "_law_side"] (defScope s_lside_of) := ⟨rfl, rfl, rfl, by decide +kernel, rfl, by decide +kernel, by decide +kernel⟩
abbrev s_with : Stmt := topS 70
theorem sc_with : FnScope ["_law_sheet", "_law_side", "_law_pair"] ["_law_sheet", "_law_side", "_law_pair"] (defScope s_with) := ⟨rfl, rfl, rfl, by decide +kernel, rfl, by decide +kernel, by decide +kernel⟩
abbrev s_any_step : Stmt := topS 71
theorem sc_any_step : FnScope ["_law_bag", "_law_root", "_law_sheet", "_law_side", "_law_copies", "_law_way", "_law_second", "_law_pieces", "_law_whole"] ["_law_bag", "_law_root"] (defScope s_any_step) := ⟨rfl, rfl, rfl, by decide +kernel, rfl, by decide +kernel, by decide +kernel⟩
abbrev s_odd_step : Stmt := topS 72
theorem sc_odd_step : FnScope ["_law_bag", "_law_step_z", "_law_at", "_law_way", "_law_odd"] ["_law_bag", "_law_step_z"] (defScope s_odd_step) := ⟨rfl, rfl, rfl, by decide +kernel, rfl, by decide +kernel, by decide +kernel⟩
abbrev s_lis_pair : Stmt := topS 73
theorem sc_lis_pair : FnScope ["_law_x"] ["_law_x"] (defScope s_lis_pair) := ⟨rfl, rfl, rfl, by decide +kernel, rfl, by decide +kernel, by decide +kernel⟩
abbrev s_is_pairs : Stmt := topS 74
theorem sc_is_pairs : FnScope ["_law_x"] ["_law_x"] (defScope s_is_pairs) := ⟨rfl, rfl, rfl, by decide +kernel, rfl, by decide +kernel, by decide +kernel⟩
abbrev s_at_least : Stmt := topS 75
theorem sc_at_least : FnScope ["_law_x", "_law_least"] ["_law_x", "_law_least"] (defScope s_at_least) := ⟨rfl, rfl, rfl, by decide +kernel, rfl, by decide +kernel, by decide +kernel⟩
abbrev s_good_step : Stmt := topS 76
theorem sc_good_step : FnScope ["_law_step_z", "_law_sizes", "_law_word", "_law_side", "_law_length", "_law_other"] ["_law_step_z"] (defScope s_good_step) := ⟨rfl, rfl, rfl, by decide +kernel, rfl, by decide +kernel, by decide +kernel⟩
abbrev s_field_of : Stmt := topS 77
theorem sc_field_of : FnScope ["_law_e"] ["_law_e"] (defScope s_field_of) := ⟨rfl, rfl, rfl, by decide +kernel, rfl, by decide +kernel, by decide +kernel⟩
abbrev s_try : Stmt := topS 78
theorem sc_try : FnScope ["_law_ask", "_law_e"] ["_law_ask"] (defScope s_try) := ⟨rfl, rfl, rfl, by decide +kernel, rfl, by decide +kernel, by decide +kernel⟩
abbrev s_minus : Stmt := topS 79
theorem sc_minus : FnScope ["_law_one", "_law_other"] ["_law_one", "_law_other"] (defScope s_minus) := ⟨rfl, rfl, rfl, by decide +kernel, rfl, by decide +kernel, by decide +kernel⟩
abbrev s_plus : Stmt := topS 80
theorem sc_plus : FnScope ["_law_one", "_law_other"] ["_law_one", "_law_other"] (defScope s_plus) := ⟨rfl, rfl, rfl, by decide +kernel, rfl, by decide +kernel, by decide +kernel⟩
abbrev s_given : Stmt := topS 81
theorem sc_given : FnScope ["_law_step_z", "_law_side", "_law_length", "_law_piece", "_law_word", "_law_sheet", "_law_rest"] ["_law_step_z"] (defScope s_given) := ⟨rfl, rfl, rfl, by decide +kernel, rfl, by decide +kernel, by decide +kernel⟩
abbrev s_reverse : Stmt := topS 82
theorem sc_reverse : FnScope ["_law_step_z", "_law_made", "_law_word", "_law_sheet", "_law_copies"] ["_law_step_z"] (defScope s_reverse) := ⟨rfl, rfl, rfl, by decide +kernel, rfl, by decide +kernel, by decide +kernel⟩
abbrev s_like : Stmt := topS 83
theorem sc_like : FnScope ["_law_found", "_law_due", "_law_k"] ["_law_found", "_law_due"] (defScope s_like) := ⟨rfl, rfl, rfl, by decide +kernel, rfl, by decide +kernel, by decide +kernel⟩
abbrev s_stock_of : Stmt := topS 84
theorem sc_stock_of : FnScope ["_law_rows", "_law_found", "_law_sheet", "_law_count"] ["_law_rows"] (defScope s_stock_of) := ⟨rfl, rfl, rfl, by decide +kernel, rfl, by decide +kernel, by decide +kernel⟩
abbrev s_some_count : Stmt := topS 85
theorem sc_some_count : FnScope ["_law_bag"] ["_law_bag"] (defScope s_some_count) := ⟨rfl, rfl, rfl, by decide +kernel, rfl, by decide +kernel, by decide +kernel⟩
abbrev s_some_rows : Stmt := topS 86
theorem sc_some_rows : FnScope ["_law_bag", "_law_root", "_law_most", "_law_found", "_law_k", "_law_sheet"] ["_law_bag", "_law_root", "_law_most"] (defScope s_some_rows) := ⟨rfl, rfl, rfl, by decide +kernel, rfl, by decide +kernel, by decide +kernel⟩
abbrev s_big_rows : Stmt := topS 87
theorem sc_big_rows : FnScope ["_law_bag", "_law_root", "_law_most"] ["_law_bag", "_law_root", "_law_most"] (defScope s_big_rows) := ⟨rfl, rfl, rfl, by decide +kernel, rfl, by decide +kernel, by decide +kernel⟩
abbrev s_part_below : Stmt := topS 88
theorem sc_part_below : FnScope ["_law_bag", "_law_length", "_law_root", "_law_some", "_law_unit", "_law_whole", "_law_one"] ["_law_bag", "_law_length", "_law_root"] (defScope s_part_below) := ⟨rfl, rfl, rfl, by decide +kernel, rfl, by decide +kernel, by decide +kernel⟩
abbrev s_mate_of : Stmt := topS 89
theorem sc_mate_of : FnScope ["_law_bag", "_law_stock", "_law_sheet", "_law_side", "_law_other", "_law_some", "_law_one"] ["_law_bag", "_law_stock", "_law_sheet", "_law_side"] (defScope s_mate_of) := ⟨rfl, rfl, rfl, by decide +kernel, rfl, by decide +kernel, by decide +kernel⟩
abbrev s_next_step : Stmt := topS 90
theorem sc_next_step : FnScope ["_law_bag", "_law_stock", "_law_root", "_law_turning_z", "_law_copies", "_law_length", "_law_sheet", "_law_side", "_law_count", "_law_way", "_law_part", "_law_pieces", "_law_good", "_law_mate", "_law_most"] ["_law_bag", "_law_stock", "_law_root", "_law_turning_z"] (defScope s_next_step) := ⟨rfl, rfl, rfl, by decide +kernel, rfl, by decide +kernel, by decide +kernel⟩
abbrev s_listed : Stmt := topS 91
theorem sc_listed : FnScope ["_law_stock", "_law_sheet"] ["_law_stock"] (defScope s_listed) := ⟨rfl, rfl, rfl, by decide +kernel, rfl, by decide +kernel, by decide +kernel⟩
abbrev s_heap_of : Stmt := topS 92
theorem sc_heap_of : FnScope ["_law_root", "_law_stock"] ["_law_root", "_law_stock"] (defScope s_heap_of) := ⟨rfl, rfl, rfl, by decide +kernel, rfl, by decide +kernel, by decide +kernel⟩
abbrev s_is_heap : Stmt := topS 93
theorem sc_is_heap : FnScope ["_law_heap", "_law_root", "_law_stock"] ["_law_heap", "_law_root", "_law_stock"] (defScope s_is_heap) := ⟨rfl, rfl, rfl, by decide +kernel, rfl, by decide +kernel, by decide +kernel⟩
abbrev s_law : Stmt := topS 94
theorem sc_law : FnScope ["_law_script", "_law_bag", "_law_turn", "_law_root", "_law_step_z", "_law_due", "_law_stock", "_law_here", "_law_heap", "_law_late"] ["_law_script"] (defScope s_law) := ⟨rfl, rfl, rfl, by decide +kernel, rfl, by decide +kernel, by decide +kernel⟩
abbrev i_BadRoot : Stmt := inClass (topS 4) 0
theorem sc_iBadRoot : NScope ["self", "number", "__class__"] ["self", "number"] ["__class__"] (defScope i_BadRoot) := nscope_by (by decide +kernel)
abbrev i_BadRow : Stmt := inClass (topS 6) 0
theorem sc_iBadRow : NScope ["self", "at", "__class__"] ["self", "at"] ["__class__"] (defScope i_BadRow) := nscope_by (by decide +kernel)
abbrev i_BadStep : Stmt := inClass (topS 8) 0
theorem sc_iBadStep : NScope ["self", "at", "__class__"] ["self", "at"] ["__class__"] (defScope i_BadStep) := nscope_by (by decide +kernel)
abbrev i_NothingLeft : Stmt := inClass (topS 10) 0
/-! ### lists of a known length -/
section
variable {α : Type} {us : List α}
theorem len0 (h : us.length = 0) : us = [] := by cases us with | nil => rfl | cons a r => cases h
theorem lenS {n : Nat} (h : us.length = n + 1) : ∃ a r, us = a :: r ∧ r.length = n := by cases us with | nil => cases h | cons a r => exact ⟨a, r, rfl, Nat.succ.inj h⟩
theorem len1 (h : us.length = 1) : ∃ a, us = [a] := by
  obtain ⟨a, r, rfl, g⟩ := lenS h
  cases len0 g
  exact ⟨_, rfl⟩
theorem len2 (h : us.length = 2) : ∃ a b, us = [a, b] := by
  obtain ⟨a, r, rfl, g⟩ := lenS h
  obtain ⟨b, rfl⟩ := len1 g
  exact ⟨_, _, rfl⟩
theorem len3 (h : us.length = 3) : ∃ a b c, us = [a, b, c] := by
  obtain ⟨a, r, rfl, g⟩ := lenS h
  obtain ⟨b, c, rfl⟩ := len2 g
  exact ⟨_, _, _, rfl⟩
theorem len4 (h : us.length = 4) : ∃ a b c d, us = [a, b, c, d] := by
  obtain ⟨a, r, rfl, g⟩ := lenS h
  obtain ⟨b, c, d, rfl⟩ := len3 g
  exact ⟨_, _, _, _, rfl⟩
end
set_option genInjectivity false in
set_option genSizeOf false in
structure Txt (K : PySem.W.Frag) (mg : Str → Option Value) where
  f_whole_root : Addr
  d_whole_root : FuncData
  F_whole_root : Fun K "whole_root" "whole_root" s_whole_root f_whole_root d_whole_root
  g_whole_root : mg "whole_root" = some (.ref f_whole_root)
  b_whole_root : Binds K d_whole_root ["number"] []
  f_is_root : Addr
  d_is_root : FuncData
  F_is_root : Fun K "is_root" "is_root" s_is_root f_is_root d_is_root
  g_is_root : mg "is_root" = some (.ref f_is_root)
  b_is_root : Binds K d_is_root ["number"] []
  f_check_root : Addr
  d_check_root : FuncData
  F_check_root : Fun K "check_root" "check_root" s_check_root f_check_root d_check_root
  g_check_root : mg "check_root" = some (.ref f_check_root)
  b_check_root : Binds K d_check_root ["root"] []
  f_sign : Addr
  d_sign : FuncData
  F_sign : Fun K "sign" "sign" s_sign f_sign d_sign
  g_sign : mg "sign" = some (.ref f_sign)
  b_sign : Binds K d_sign ["pair", "root"] []
  f_is_length : Addr
  d_is_length : FuncData
  F_is_length : Fun K "is_length" "is_length" s_is_length f_is_length d_is_length
  g_is_length : mg "is_length" = some (.ref f_is_length)
  b_is_length : Binds K d_is_length ["pair", "root"] []
  f_added : Addr
  d_added : FuncData
  F_added : Fun K "added" "added" s_added f_added d_added
  g_added : mg "added" = some (.ref f_added)
  f_scaled : Addr
  d_scaled : FuncData
  F_scaled : Fun K "scaled" "scaled" s_scaled f_scaled d_scaled
  g_scaled : mg "scaled" = some (.ref f_scaled)
  b_scaled : Binds K d_scaled ["pair", "number"] []
  f_is_sheet : Addr
  d_is_sheet : FuncData
  F_is_sheet : Fun K "is_sheet" "is_sheet" s_is_sheet f_is_sheet d_is_sheet
  g_is_sheet : mg "is_sheet" = some (.ref f_is_sheet)
  b_is_sheet : Binds K d_is_sheet ["sheet", "root"] []
  f_turned : Addr
  d_turned : FuncData
  F_turned : Fun K "turned" "turned" s_turned f_turned d_turned
  g_turned : mg "turned" = some (.ref f_turned)
  b_turned : Binds K d_turned ["sheet"] []
  f_check_rows : Addr
  d_check_rows : FuncData
  F_check_rows : Fun K "check_rows" "check_rows" s_check_rows f_check_rows d_check_rows
  g_check_rows : mg "check_rows" = some (.ref f_check_rows)
  b_check_rows : Binds K d_check_rows ["rows", "root"] []
  f_merged : Addr
  d_merged : FuncData
  F_merged : Fun K "merged" "merged" s_merged f_merged d_merged
  g_merged : mg "merged" = some (.ref f_merged)
  b_merged : Binds K d_merged ["rows"] []
  C_Heap : Addr
  cl_Heap : Cls K C_Heap
  g_Heap : mg "Heap" = some (.ref C_Heap)
  sf_Heap : PySem.W.selfFirst K C_Heap = true
  nq_Heap : PySem.W.noSeq K C_Heap = true
  n_Heap_held_root : NoAttr K C_Heap "held_root"
  n_Heap_copies : NoAttr K C_Heap "copies"
  mo_Heap : PySem.W.mroIn K C_Heap (.type "object") = some true
  ne_Heap : PySem.W.findIn K (.ref C_Heap) "__ne__" = some (some (.builtin "object.__ne__"))
  ca_Heap : PySem.W.findIn K (.ref C_Heap) "__class__" = some (some (.builtin "object.__class__"))
  x_Heap_rmul : PySem.W.findIn K (.ref C_Heap) "__rmul__" = some none
  i_mul : PySem.W.findIn K (.type "int") "__mul__" = some (some (.builtin "int.__mul__"))
  i_rmul : PySem.W.findIn K (.type "int") "__rmul__" = some (some (.builtin "int.__rmul__"))
  is_Heap : PySem.W.subIn K (.type "int") (.ref C_Heap) = some false
  f_Heap_init : Addr
  d_Heap_init : FuncData
  r0_Heap_init : Addr
  F_Heap_init : FunD K "__init__" "Heap.__init__" (defArgs s_Heap_init) (defBody s_Heap_init) (defScope s_Heap_init) [.ref r0_Heap_init] [] f_Heap_init d_Heap_init
  b_Heap_init : Binds K d_Heap_init ["self", "root", "rows"] []
  b0_Heap_init : Binds K d_Heap_init ["self", "root", "rows"] [.ref r0_Heap_init]
  v0_Heap_init : Vals [.ref r0_Heap_init] [.ref r0_Heap_init]
  z0_Heap_init : Dfl0 K r0_Heap_init
  M_Heap : Mk K C_Heap f_Heap_init
  f_Heap_root : Addr
  d_Heap_root : FuncData
  F_Heap_root : Fun K "root" "Heap.root" s_Heap_root f_Heap_root d_Heap_root
  b_Heap_root : Binds K d_Heap_root ["self"] []
  p_Heap_root : Addr
  pr_Heap_root : PropOf K C_Heap "root" p_Heap_root f_Heap_root
  f_Heap_rows : Addr
  d_Heap_rows : FuncData
  F_Heap_rows : Fun K "rows" "Heap.rows" s_Heap_rows f_Heap_rows d_Heap_rows
  b_Heap_rows : Binds K d_Heap_rows ["self"] []
  m_Heap_rows : Meth K C_Heap "rows" f_Heap_rows
  f_Heap_eq : Addr
  d_Heap_eq : FuncData
  F_Heap_eq : Fun K "__eq__" "Heap.__eq__" s_Heap_eq f_Heap_eq d_Heap_eq
  b_Heap_eq : Binds K d_Heap_eq ["self", "other"] []
  m_Heap_eq : Meth K C_Heap "__eq__" f_Heap_eq
  f_is_pair : Addr
  d_is_pair : FuncData
  F_is_pair : Fun K "is_pair" "is_pair" s_is_pair f_is_pair d_is_pair
  g_is_pair : mg "is_pair" = some (.ref f_is_pair)
  b_is_pair : Binds K d_is_pair ["item"] []
  f_is_two_pairs : Addr
  d_is_two_pairs : FuncData
  F_is_two_pairs : Fun K "is_two_pairs" "is_two_pairs" s_is_two_pairs f_is_two_pairs d_is_two_pairs
  g_is_two_pairs : mg "is_two_pairs" = some (.ref f_is_two_pairs)
  b_is_two_pairs : Binds K d_is_two_pairs ["item"] []
  f_fits : Addr
  d_fits : FuncData
  F_fits : Fun K "fits" "fits" s_fits f_fits d_fits
  g_fits : mg "fits" = some (.ref f_fits)
  b_fits : Binds K d_fits ["item", "kind"] []
  f_has_shape : Addr
  d_has_shape : FuncData
  F_has_shape : Fun K "has_shape" "has_shape" s_has_shape f_has_shape d_has_shape
  g_has_shape : mg "has_shape" = some (.ref f_has_shape)
  b_has_shape : Binds K d_has_shape ["step"] []
  f_side_of : Addr
  d_side_of : FuncData
  F_side_of : Fun K "side_of" "side_of" s_side_of f_side_of d_side_of
  g_side_of : mg "side_of" = some (.ref f_side_of)
  b_side_of : Binds K d_side_of ["sheet", "side"] []
  f_with_side : Addr
  d_with_side : FuncData
  F_with_side : Fun K "with_side" "with_side" s_with_side f_with_side d_with_side
  g_with_side : mg "with_side" = some (.ref f_with_side)
  b_with_side : Binds K d_with_side ["sheet", "side", "pair"] []
  f_is_even_split : Addr
  d_is_even_split : FuncData
  F_is_even_split : Fun K "is_even_split" "is_even_split" s_is_even_split f_is_even_split d_is_even_split
  g_is_even_split : mg "is_even_split" = some (.ref f_is_even_split)
  b_is_even_split : Binds K d_is_even_split ["step"] []
  f_is_even_glue : Addr
  d_is_even_glue : FuncData
  F_is_even_glue : Fun K "is_even_glue" "is_even_glue" s_is_even_glue f_is_even_glue d_is_even_glue
  g_is_even_glue : mg "is_even_glue" = some (.ref f_is_even_glue)
  b_is_even_glue : Binds K d_is_even_glue ["step"] []
  f_is_step : Addr
  d_is_step : FuncData
  F_is_step : Fun K "is_step" "is_step" s_is_step f_is_step d_is_step
  g_is_step : mg "is_step" = some (.ref f_is_step)
  b_is_step : Binds K d_is_step ["step"] []
  f_check_steps : Addr
  d_check_steps : FuncData
  F_check_steps : Fun K "check_steps" "check_steps" s_check_steps f_check_steps d_check_steps
  g_check_steps : mg "check_steps" = some (.ref f_check_steps)
  b_check_steps : Binds K d_check_steps ["steps"] []
  f_is_allowed : Addr
  d_is_allowed : FuncData
  F_is_allowed : Fun K "is_allowed" "is_allowed" s_is_allowed f_is_allowed d_is_allowed
  g_is_allowed : mg "is_allowed" = some (.ref f_is_allowed)
  b_is_allowed : Binds K d_is_allowed ["step", "turning"] []
  f_rest_of_saw : Addr
  d_rest_of_saw : FuncData
  F_rest_of_saw : Fun K "rest_of_saw" "rest_of_saw" s_rest_of_saw f_rest_of_saw d_rest_of_saw
  g_rest_of_saw : mg "rest_of_saw" = some (.ref f_rest_of_saw)
  b_rest_of_saw : Binds K d_rest_of_saw ["step"] []
  f_reverse_of_saw : Addr
  d_reverse_of_saw : FuncData
  F_reverse_of_saw : Fun K "reverse_of_saw" "reverse_of_saw" s_reverse_of_saw f_reverse_of_saw d_reverse_of_saw
  g_reverse_of_saw : mg "reverse_of_saw" = some (.ref f_reverse_of_saw)
  b_reverse_of_saw : Binds K d_reverse_of_saw ["step"] []
  f_reverse_of_glue : Addr
  d_reverse_of_glue : FuncData
  F_reverse_of_glue : Fun K "reverse_of_glue" "reverse_of_glue" s_reverse_of_glue f_reverse_of_glue d_reverse_of_glue
  g_reverse_of_glue : mg "reverse_of_glue" = some (.ref f_reverse_of_glue)
  b_reverse_of_glue : Binds K d_reverse_of_glue ["step"] []
  f_reverse_of_split : Addr
  d_reverse_of_split : FuncData
  F_reverse_of_split : Fun K "reverse_of_split" "reverse_of_split" s_reverse_of_split f_reverse_of_split d_reverse_of_split
  g_reverse_of_split : mg "reverse_of_split" = some (.ref f_reverse_of_split)
  b_reverse_of_split : Binds K d_reverse_of_split ["step"] []
  f_reverse_of_stack : Addr
  d_reverse_of_stack : FuncData
  F_reverse_of_stack : Fun K "reverse_of_stack" "reverse_of_stack" s_reverse_of_stack f_reverse_of_stack d_reverse_of_stack
  g_reverse_of_stack : mg "reverse_of_stack" = some (.ref f_reverse_of_stack)
  b_reverse_of_stack : Binds K d_reverse_of_stack ["step"] []
  f_reverse_of : Addr
  d_reverse_of : FuncData
  F_reverse_of : Fun K "reverse_of" "reverse_of" s_reverse_of f_reverse_of d_reverse_of
  g_reverse_of : mg "reverse_of" = some (.ref f_reverse_of)
  b_reverse_of : Binds K d_reverse_of ["step"] []
  f_back_of : Addr
  d_back_of : FuncData
  F_back_of : Fun K "back_of" "back_of" s_back_of f_back_of d_back_of
  g_back_of : mg "back_of" = some (.ref f_back_of)
  b_back_of : Binds K d_back_of ["step"] []
  f_needs_of : Addr
  d_needs_of : FuncData
  F_needs_of : Fun K "needs_of" "needs_of" s_needs_of f_needs_of d_needs_of
  g_needs_of : mg "needs_of" = some (.ref f_needs_of)
  b_needs_of : Binds K d_needs_of ["step"] []
  f_saws_lengths : Addr
  d_saws_lengths : FuncData
  F_saws_lengths : Fun K "saws_lengths" "saws_lengths" s_saws_lengths f_saws_lengths d_saws_lengths
  g_saws_lengths : mg "saws_lengths" = some (.ref f_saws_lengths)
  b_saws_lengths : Binds K d_saws_lengths ["step", "root"] []
  f_check_possible : Addr
  d_check_possible : FuncData
  F_check_possible : Fun K "check_possible" "check_possible" s_check_possible f_check_possible d_check_possible
  g_check_possible : mg "check_possible" = some (.ref f_check_possible)
  b_check_possible : Binds K d_check_possible ["step", "root", "turning", "at"] []
  f_counts_of : Addr
  d_counts_of : FuncData
  F_counts_of : Fun K "counts_of" "counts_of" s_counts_of f_counts_of d_counts_of
  g_counts_of : mg "counts_of" = some (.ref f_counts_of)
  b_counts_of : Binds K d_counts_of ["heap"] []
  f_take_rows : Addr
  d_take_rows : FuncData
  F_take_rows : Fun K "take_rows" "take_rows" s_take_rows f_take_rows d_take_rows
  g_take_rows : mg "take_rows" = some (.ref f_take_rows)
  b_take_rows : Binds K d_take_rows ["counts", "rows"] []
  f_put_rows : Addr
  d_put_rows : FuncData
  F_put_rows : Fun K "put_rows" "put_rows" s_put_rows f_put_rows d_put_rows
  g_put_rows : mg "put_rows" = some (.ref f_put_rows)
  b_put_rows : Binds K d_put_rows ["counts", "rows"] []
  f_change_counts : Addr
  d_change_counts : FuncData
  F_change_counts : Fun K "change_counts" "change_counts" s_change_counts f_change_counts d_change_counts
  g_change_counts : mg "change_counts" = some (.ref f_change_counts)
  b_change_counts : Binds K d_change_counts ["counts", "step"] []
  f_after : Addr
  d_after : FuncData
  F_after : Fun K "after" "after" s_after f_after d_after
  g_after : mg "after" = some (.ref f_after)
  b_after : Binds K d_after ["heap", "step", "turning"] [.bool false]
  f_apply_steps : Addr
  d_apply_steps : FuncData
  F_apply_steps : Fun K "apply_steps" "apply_steps" s_apply_steps f_apply_steps d_apply_steps
  g_apply_steps : mg "apply_steps" = some (.ref f_apply_steps)
  b_apply_steps : Binds K d_apply_steps ["heap", "steps", "turning"] [.bool false]
  f_source : Addr
  d_source : FuncData
  F_source : Fun K "_law_source" "_law_source" s_source f_source d_source
  g_source : mg "_law_source" = some (.ref f_source)
  b_source : Binds K d_source ["_law_script"] []
  f_pull : Addr
  d_pull : FuncData
  F_pull : Fun K "_law_pull" "_law_pull" s_pull f_pull d_pull
  g_pull : mg "_law_pull" = some (.ref f_pull)
  b_pull : Binds K d_pull ["_law_bag", "_law_size"] []
  f_of : Addr
  d_of : FuncData
  F_of : Fun K "_law_of" "_law_of" s_of f_of d_of
  g_of : mg "_law_of" = some (.ref f_of)
  b_of : Binds K d_of ["_law_bag", "_law_some"] []
  f_roots : Addr
  d_roots : FuncData
  F_roots : Fun K "_law_roots" "_law_roots" s_roots f_roots d_roots
  g_roots : mg "_law_roots" = some (.ref f_roots)
  b_roots : Binds K d_roots [] []
  f_a_root : Addr
  d_a_root : FuncData
  F_a_root : Fun K "_law_a_root" "_law_a_root" s_a_root f_a_root d_a_root
  g_a_root : mg "_law_a_root" = some (.ref f_a_root)
  b_a_root : Binds K d_a_root ["_law_bag"] []
  f_any_pair : Addr
  d_any_pair : FuncData
  F_any_pair : Fun K "_law_any_pair" "_law_any_pair" s_any_pair f_any_pair d_any_pair
  g_any_pair : mg "_law_any_pair" = some (.ref f_any_pair)
  b_any_pair : Binds K d_any_pair ["_law_bag"] []
  f_lsign : Addr
  d_lsign : FuncData
  F_lsign : Fun K "_law_sign" "_law_sign" s_lsign f_lsign d_lsign
  g_lsign : mg "_law_sign" = some (.ref f_lsign)
  b_lsign : Binds K d_lsign ["_law_pair", "_law_root"] []
  f_a_length : Addr
  d_a_length : FuncData
  F_a_length : Fun K "_law_a_length" "_law_a_length" s_a_length f_a_length d_a_length
  g_a_length : mg "_law_a_length" = some (.ref f_a_length)
  b_a_length : Binds K d_a_length ["_law_bag", "_law_root"] []
  f_a_sheet : Addr
  d_a_sheet : FuncData
  F_a_sheet : Fun K "_law_a_sheet" "_law_a_sheet" s_a_sheet f_a_sheet d_a_sheet
  g_a_sheet : mg "_law_a_sheet" = some (.ref f_a_sheet)
  b_a_sheet : Binds K d_a_sheet ["_law_bag", "_law_root"] []
  f_lscaled : Addr
  d_lscaled : FuncData
  F_lscaled : Fun K "_law_scaled" "_law_scaled" s_lscaled f_lscaled d_lscaled
  g_lscaled : mg "_law_scaled" = some (.ref f_lscaled)
  b_lscaled : Binds K d_lscaled ["_law_pair", "_law_number"] []
  f_lside_of : Addr
  d_lside_of : FuncData
  F_lside_of : Fun K "_law_side_of" "_law_side_of" s_lside_of f_lside_of d_lside_of
  g_lside_of : mg "_law_side_of" = some (.ref f_lside_of)
  b_lside_of : Binds K d_lside_of ["_law_sheet", "_law_side"] []
  f_with : Addr
  d_with : FuncData
  F_with : Fun K "_law_with" "_law_with" s_with f_with d_with
  g_with : mg "_law_with" = some (.ref f_with)
  b_with : Binds K d_with ["_law_sheet", "_law_side", "_law_pair"] []
  f_any_step : Addr
  d_any_step : FuncData
  F_any_step : Fun K "_law_any_step" "_law_any_step" s_any_step f_any_step d_any_step
  g_any_step : mg "_law_any_step" = some (.ref f_any_step)
  b_any_step : Binds K d_any_step ["_law_bag", "_law_root"] []
  f_odd_step : Addr
  d_odd_step : FuncData
  F_odd_step : Fun K "_law_odd_step" "_law_odd_step" s_odd_step f_odd_step d_odd_step
  g_odd_step : mg "_law_odd_step" = some (.ref f_odd_step)
  b_odd_step : Binds K d_odd_step ["_law_bag", "_law_step_z"] []
  f_lis_pair : Addr
  d_lis_pair : FuncData
  F_lis_pair : Fun K "_law_is_pair" "_law_is_pair" s_lis_pair f_lis_pair d_lis_pair
  g_lis_pair : mg "_law_is_pair" = some (.ref f_lis_pair)
  b_lis_pair : Binds K d_lis_pair ["_law_x"] []
  f_is_pairs : Addr
  d_is_pairs : FuncData
  F_is_pairs : Fun K "_law_is_pairs" "_law_is_pairs" s_is_pairs f_is_pairs d_is_pairs
  g_is_pairs : mg "_law_is_pairs" = some (.ref f_is_pairs)
  b_is_pairs : Binds K d_is_pairs ["_law_x"] []
  f_at_least : Addr
  d_at_least : FuncData
  F_at_least : Fun K "_law_at_least" "_law_at_least" s_at_least f_at_least d_at_least
  g_at_least : mg "_law_at_least" = some (.ref f_at_least)
  b_at_least : Binds K d_at_least ["_law_x", "_law_least"] []
  f_good_step : Addr
  d_good_step : FuncData
  F_good_step : Fun K "_law_good_step" "_law_good_step" s_good_step f_good_step d_good_step
  g_good_step : mg "_law_good_step" = some (.ref f_good_step)
  b_good_step : Binds K d_good_step ["_law_step_z"] []
  f_field_of : Addr
  d_field_of : FuncData
  F_field_of : Fun K "_law_field_of" "_law_field_of" s_field_of f_field_of d_field_of
  g_field_of : mg "_law_field_of" = some (.ref f_field_of)
  b_field_of : Binds K d_field_of ["_law_e"] []
  f_try : Addr
  d_try : FuncData
  F_try : Fun K "_law_try" "_law_try" s_try f_try d_try
  g_try : mg "_law_try" = some (.ref f_try)
  b_try : Binds K d_try ["_law_ask"] []
  f_minus : Addr
  d_minus : FuncData
  F_minus : Fun K "_law_minus" "_law_minus" s_minus f_minus d_minus
  g_minus : mg "_law_minus" = some (.ref f_minus)
  b_minus : Binds K d_minus ["_law_one", "_law_other"] []
  f_plus : Addr
  d_plus : FuncData
  F_plus : Fun K "_law_plus" "_law_plus" s_plus f_plus d_plus
  g_plus : mg "_law_plus" = some (.ref f_plus)
  b_plus : Binds K d_plus ["_law_one", "_law_other"] []
  f_given : Addr
  d_given : FuncData
  F_given : Fun K "_law_given" "_law_given" s_given f_given d_given
  g_given : mg "_law_given" = some (.ref f_given)
  b_given : Binds K d_given ["_law_step_z"] []
  f_reverse : Addr
  d_reverse : FuncData
  F_reverse : Fun K "_law_reverse" "_law_reverse" s_reverse f_reverse d_reverse
  g_reverse : mg "_law_reverse" = some (.ref f_reverse)
  b_reverse : Binds K d_reverse ["_law_step_z"] []
  f_like : Addr
  d_like : FuncData
  F_like : Fun K "_law_like" "_law_like" s_like f_like d_like
  g_like : mg "_law_like" = some (.ref f_like)
  b_like : Binds K d_like ["_law_found", "_law_due"] []
  f_stock_of : Addr
  d_stock_of : FuncData
  F_stock_of : Fun K "_law_stock_of" "_law_stock_of" s_stock_of f_stock_of d_stock_of
  g_stock_of : mg "_law_stock_of" = some (.ref f_stock_of)
  b_stock_of : Binds K d_stock_of ["_law_rows"] []
  f_some_count : Addr
  d_some_count : FuncData
  F_some_count : Fun K "_law_some_count" "_law_some_count" s_some_count f_some_count d_some_count
  g_some_count : mg "_law_some_count" = some (.ref f_some_count)
  b_some_count : Binds K d_some_count ["_law_bag"] []
  f_some_rows : Addr
  d_some_rows : FuncData
  F_some_rows : Fun K "_law_some_rows" "_law_some_rows" s_some_rows f_some_rows d_some_rows
  g_some_rows : mg "_law_some_rows" = some (.ref f_some_rows)
  b_some_rows : Binds K d_some_rows ["_law_bag", "_law_root", "_law_most"] []
  f_big_rows : Addr
  d_big_rows : FuncData
  F_big_rows : Fun K "_law_big_rows" "_law_big_rows" s_big_rows f_big_rows d_big_rows
  g_big_rows : mg "_law_big_rows" = some (.ref f_big_rows)
  b_big_rows : Binds K d_big_rows ["_law_bag", "_law_root", "_law_most"] []
  f_part_below : Addr
  d_part_below : FuncData
  F_part_below : Fun K "_law_part_below" "_law_part_below" s_part_below f_part_below d_part_below
  g_part_below : mg "_law_part_below" = some (.ref f_part_below)
  b_part_below : Binds K d_part_below ["_law_bag", "_law_length", "_law_root"] []
  f_mate_of : Addr
  d_mate_of : FuncData
  F_mate_of : Fun K "_law_mate_of" "_law_mate_of" s_mate_of f_mate_of d_mate_of
  g_mate_of : mg "_law_mate_of" = some (.ref f_mate_of)
  b_mate_of : Binds K d_mate_of ["_law_bag", "_law_stock", "_law_sheet", "_law_side"] []
  f_next_step : Addr
  d_next_step : FuncData
  F_next_step : Fun K "_law_next_step" "_law_next_step" s_next_step f_next_step d_next_step
  g_next_step : mg "_law_next_step" = some (.ref f_next_step)
  b_next_step : Binds K d_next_step ["_law_bag", "_law_stock", "_law_root", "_law_turning_z"] []
  f_listed : Addr
  d_listed : FuncData
  F_listed : Fun K "_law_listed" "_law_listed" s_listed f_listed d_listed
  g_listed : mg "_law_listed" = some (.ref f_listed)
  b_listed : Binds K d_listed ["_law_stock"] []
  f_heap_of : Addr
  d_heap_of : FuncData
  F_heap_of : Fun K "_law_heap_of" "_law_heap_of" s_heap_of f_heap_of d_heap_of
  g_heap_of : mg "_law_heap_of" = some (.ref f_heap_of)
  b_heap_of : Binds K d_heap_of ["_law_root", "_law_stock"] []
  f_is_heap : Addr
  d_is_heap : FuncData
  F_is_heap : Fun K "_law_is_heap" "_law_is_heap" s_is_heap f_is_heap d_is_heap
  g_is_heap : mg "_law_is_heap" = some (.ref f_is_heap)
  b_is_heap : Binds K d_is_heap ["_law_heap", "_law_root", "_law_stock"] []
  n_ValueError : mg "ValueError" = none
  n_LookupError : mg "LookupError" = none
  n_IndexError : mg "IndexError" = none
  n_enumerate : mg "enumerate" = none
  n_isinstance : mg "isinstance" = none
  n_range : mg "range" = none
  n_str : mg "str" = none
  n_sum : mg "sum" = none
  n_list : mg "list" = none
  n_bool : mg "bool" = none
  n_len : mg "len" = none
  n_tuple : mg "tuple" = none
  n_int : mg "int" = none
  n_all : mg "all" = none
  n_abs : mg "abs" = none
  n_sorted : mg "sorted" = none
  n_min : mg "min" = none
  n_zip : mg "zip" = none
  u_SHAPES : Addr
  g_SHAPES : mg "SHAPES" = some (.ref u_SHAPES)
  p_SHAPES_saw : Addr
  h_SHAPES_saw : PySem.W.nsIn K u_SHAPES "saw" = some (some (.ref p_SHAPES_saw))
  q_SHAPES_saw : ∀ H, SqT K H p_SHAPES_saw [.str "sheet", .str "side", .str "pair", .str "copies"]
  p_SHAPES_split : Addr
  h_SHAPES_split : PySem.W.nsIn K u_SHAPES "split" = some (some (.ref p_SHAPES_split))
  q_SHAPES_split : ∀ H, SqT K H p_SHAPES_split [.str "sheet", .str "side", .str "pieces", .str "copies"]
  p_SHAPES_glue : Addr
  h_SHAPES_glue : PySem.W.nsIn K u_SHAPES "glue" = some (some (.ref p_SHAPES_glue))
  q_SHAPES_glue : ∀ H, SqT K H p_SHAPES_glue [.str "sheet", .str "sheet", .str "side", .str "copies"]
  p_SHAPES_stack : Addr
  h_SHAPES_stack : PySem.W.nsIn K u_SHAPES "stack" = some (some (.ref p_SHAPES_stack))
  q_SHAPES_stack : ∀ H, SqT K H p_SHAPES_stack [.str "sheet", .str "side", .str "pieces", .str "copies"]
  p_SHAPES_turn : Addr
  h_SHAPES_turn : PySem.W.nsIn K u_SHAPES "turn" = some (some (.ref p_SHAPES_turn))
  q_SHAPES_turn : ∀ H, SqT K H p_SHAPES_turn [.str "sheet", .str "copies"]
  m0_SHAPES : PySem.W.nsIn K u_SHAPES "Saw" = some none
  m1_SHAPES : PySem.W.nsIn K u_SHAPES "across" = some none
  m2_SHAPES : PySem.W.nsIn K u_SHAPES "along" = some none
  m3_SHAPES : PySem.W.nsIn K u_SHAPES "" = some none
  m4_SHAPES : PySem.W.nsIn K u_SHAPES "Across" = some none
  cr_Heap : ClX.CRead K C_Heap (.type "type")
  s_SIDES : Addr
  cv_SIDES : ClX.CVal K C_Heap (.type "type") "SIDES" (.ref s_SIDES) (.ref s_SIDES)
  sq_SIDES : ∀ H, SqT K H s_SIDES [.str "across", .str "along"]
  kb_apply_steps_turning : KBn K d_apply_steps ["heap", "steps", "turning"] 2 ["turning"] (fun us ws : List Value => [us.getD 0 .none, us.getD 1 .none, ws.getD 0 .none]) (fun us ws : List V => [us.getD 0 .non, us.getD 1 .non, ws.getD 0 .non])
  kb_after_turning : KBn K d_after ["heap", "step", "turning"] 2 ["turning"] (fun us ws : List Value => [us.getD 0 .none, us.getD 1 .none, ws.getD 0 .none]) (fun us ws : List V => [us.getD 0 .non, us.getD 1 .non, ws.getD 0 .non])
  kb_back_of_step : KBn K d_back_of ["step"] 0 ["step"] (fun us ws : List Value => [ws.getD 0 .none]) (fun us ws : List V => [ws.getD 0 .non])
  r_GrainError : Addr
  g_GrainError : mg "GrainError" = some (.ref r_GrainError)
  c_GrainError : ∃ cd : ClassData, PySem.W.clsIn K r_GrainError = some cd ∧ cd.name = "GrainError"
  t_GrainError : PySem.W.typeIn K (.ref r_GrainError) = some (.type "type")
  sb_GrainError : PySem.W.subIn K (.ref r_GrainError) (.type "BaseException") = some true
  r_GrainMissing : Addr
  g_GrainMissing : mg "GrainMissing" = some (.ref r_GrainMissing)
  c_GrainMissing : ∃ cd : ClassData, PySem.W.clsIn K r_GrainMissing = some cd ∧ cd.name = "GrainMissing"
  t_GrainMissing : PySem.W.typeIn K (.ref r_GrainMissing) = some (.type "type")
  sb_GrainMissing : PySem.W.subIn K (.ref r_GrainMissing) (.type "BaseException") = some true
  e_BadRoot : Er PySem.Challenge.pw_grainyard_k21_reverse_steps K mg "ValueError" "ValueError.__new__" "ValueError.__init__" [.type "ValueError", .type "Exception", .type "BaseException", .type "object"] [.ref r_GrainError] i_BadRoot "BadRoot" "BadRoot.__init__"
  x_BadRoot_word : PySem.W.findIn K (.ref e_BadRoot.C) "word" = some none
  x_BadRoot_number : PySem.W.findIn K (.ref e_BadRoot.C) "number" = some none
  e_BadRow : Er PySem.Challenge.pw_grainyard_k21_reverse_steps K mg "ValueError" "ValueError.__new__" "ValueError.__init__" [.type "ValueError", .type "Exception", .type "BaseException", .type "object"] [.ref r_GrainError] i_BadRow "BadRow" "BadRow.__init__"
  x_BadRow_word : PySem.W.findIn K (.ref e_BadRow.C) "word" = some none
  x_BadRow_at : PySem.W.findIn K (.ref e_BadRow.C) "at" = some none
  e_BadStep : Er PySem.Challenge.pw_grainyard_k21_reverse_steps K mg "ValueError" "ValueError.__new__" "ValueError.__init__" [.type "ValueError", .type "Exception", .type "BaseException", .type "object"] [.ref r_GrainError] i_BadStep "BadStep" "BadStep.__init__"
  x_BadStep_word : PySem.W.findIn K (.ref e_BadStep.C) "word" = some none
  x_BadStep_at : PySem.W.findIn K (.ref e_BadStep.C) "at" = some none
  e_NothingLeft : Er PySem.Challenge.pw_grainyard_k21_reverse_steps K mg "IndexError" "IndexError.__new__" "IndexError.__init__" [.type "IndexError", .type "LookupError", .type "Exception", .type "BaseException", .type "object"] [] i_NothingLeft "NothingLeft" "NothingLeft.__init__"
  x_NothingLeft_word : PySem.W.findIn K (.ref e_NothingLeft.C) "word" = some none
  hn : PySem.W.specialIn K (.builtin "object.__class__") "__get__" = some (some (.builtin "getset_descriptor.__get__"))
  ht : PySem.W.takesIn K (.builtin "object.__class__") = some true
theorem vals_getD : ∀ {zs : List V} {ws : List Value} (_ : Vals zs ws) (i : Nat), RelV (zs.getD i .non) (ws.getD i .none) := by
  intro zs ws h
  induction h with
  | nil => exact fun _ => rfl
  | cons r t ih =>
    intro i
    cases i with
    | zero => exact r
    | succ i => exact ih i
theorem kbn_apply_steps_turning {K : PySem.W.Frag} {f : Addr} {fd : FuncData} (F : Fun K "apply_steps" "apply_steps" s_apply_steps f fd) : KBn K fd ["heap", "steps", "turning"] 2 ["turning"] (fun us ws : List Value => [us.getD 0 .none, us.getD 1 .none, ws.getD 0 .none]) (fun us ws : List V => [us.getD 0 .non, us.getD 1 .non, ws.getD 0 .non]) := by
  obtain ⟨o1, o2, v1, v2, v3, a1, v4, v5, s1, rfl, r1, r2⟩ := F.ex
  refine ⟨fun s us ws _ l1 l2 => ?_, fun r1 r2 => .cons (vals_getD r1 0) (.cons (vals_getD r1 1) (.cons (vals_getD r2 0) (.nil)))⟩
  obtain ⟨_, _, rfl⟩ := len2 l1
  obtain ⟨_, rfl⟩ := len1 l2
  exact .of_eq rfl
theorem kbn_after_turning {K : PySem.W.Frag} {f : Addr} {fd : FuncData} (F : Fun K "after" "after" s_after f fd) : KBn K fd ["heap", "step", "turning"] 2 ["turning"] (fun us ws : List Value => [us.getD 0 .none, us.getD 1 .none, ws.getD 0 .none]) (fun us ws : List V => [us.getD 0 .non, us.getD 1 .non, ws.getD 0 .non]) := by
  obtain ⟨o1, o2, v1, v2, v3, a1, v4, v5, s1, rfl, r1, r2⟩ := F.ex
  refine ⟨fun s us ws _ l1 l2 => ?_, fun r1 r2 => .cons (vals_getD r1 0) (.cons (vals_getD r1 1) (.cons (vals_getD r2 0) (.nil)))⟩
  obtain ⟨_, _, rfl⟩ := len2 l1
  obtain ⟨_, rfl⟩ := len1 l2
  exact .of_eq rfl
theorem kbn_back_of_step {K : PySem.W.Frag} {f : Addr} {fd : FuncData} (F : Fun K "back_of" "back_of" s_back_of f fd) : KBn K fd ["step"] 0 ["step"] (fun us ws : List Value => [ws.getD 0 .none]) (fun us ws : List V => [ws.getD 0 .non]) := by
  obtain ⟨o1, o2, v1, v2, v3, a1, v4, v5, s1, rfl, r1, r2⟩ := F.ex
  refine ⟨fun s us ws _ l1 l2 => ?_, fun r1 r2 => .cons (vals_getD r2 0) (.nil)⟩
  obtain rfl := len0 l1
  obtain ⟨_, rfl⟩ := len1 l2
  exact .of_eq rfl
section
variable {base : Heap} {K : PySem.W.Frag} {mg : Str → Option Value} {w : World}
theorem ini_BadRoot (T : Txt K mg) : FnOk PySem.Challenge.pw_grainyard_k21_reverse_steps w K mg base CX0 1 T.e_BadRoot.f ((NFI i_BadRoot "BadRoot.__init__" T.e_BadRoot.cc T.e_BadRoot.c).fd T.e_BadRoot.doc T.e_BadRoot.pm T.e_BadRoot.ctv) ["self", "number"] (spIni T.e_BadRoot.C 1 fun ws => [("number", ws.getD 0 .non), ("word", .str "BadRoot")]) := ok_ini1 erb_VE T.e_BadRoot sc_iBadRoot rfl T.x_BadRoot_word T.x_BadRoot_number
theorem bi_BadRoot (T : Txt K mg) : Binds K ((NFI i_BadRoot "BadRoot.__init__" T.e_BadRoot.cc T.e_BadRoot.c).fd T.e_BadRoot.doc T.e_BadRoot.pm T.e_BadRoot.ctv) ["self", "number"] [] := .all fun us hl => match us, hl with | [_, _], _ => rfl
theorem ini_BadRow (T : Txt K mg) : FnOk PySem.Challenge.pw_grainyard_k21_reverse_steps w K mg base CX0 1 T.e_BadRow.f ((NFI i_BadRow "BadRow.__init__" T.e_BadRow.cc T.e_BadRow.c).fd T.e_BadRow.doc T.e_BadRow.pm T.e_BadRow.ctv) ["self", "at"] (spIni T.e_BadRow.C 1 fun ws => [("at", ws.getD 0 .non), ("word", .str "BadRow")]) := ok_ini1 erb_VE T.e_BadRow sc_iBadRow rfl T.x_BadRow_word T.x_BadRow_at
theorem bi_BadRow (T : Txt K mg) : Binds K ((NFI i_BadRow "BadRow.__init__" T.e_BadRow.cc T.e_BadRow.c).fd T.e_BadRow.doc T.e_BadRow.pm T.e_BadRow.ctv) ["self", "at"] [] := .all fun us hl => match us, hl with | [_, _], _ => rfl
theorem ini_BadStep (T : Txt K mg) : FnOk PySem.Challenge.pw_grainyard_k21_reverse_steps w K mg base CX0 1 T.e_BadStep.f ((NFI i_BadStep "BadStep.__init__" T.e_BadStep.cc T.e_BadStep.c).fd T.e_BadStep.doc T.e_BadStep.pm T.e_BadStep.ctv) ["self", "at"] (spIni T.e_BadStep.C 1 fun ws => [("at", ws.getD 0 .non), ("word", .str "BadStep")]) := ok_ini1 erb_VE T.e_BadStep sc_iBadStep rfl T.x_BadStep_word T.x_BadStep_at
theorem bi_BadStep (T : Txt K mg) : Binds K ((NFI i_BadStep "BadStep.__init__" T.e_BadStep.cc T.e_BadStep.c).fd T.e_BadStep.doc T.e_BadStep.pm T.e_BadStep.ctv) ["self", "at"] [] := .all fun us hl => match us, hl with | [_, _], _ => rfl
end
/-! ### single reads, as lemmas: smaller terms than a course of pairs -/
section
variable {K : PySem.W.Frag} {i : Nat} {p : Addr} {xs : List V} {k : Int} {v c : V} {b : Bool} {σ : List (Option V)} {H : Hp} {Q : VK} {R : Bool → Hp → Prop} {t u : Value}
theorem use_ix (h1 : σ[i]? = some (some (.ref p))) (h2 : H p = some (.tup xs)) (h3 : atI xs k = some v) (q : Q v H) : tOp (rIxT K) (tVar i) (tC (.int k)) σ H Q := ⟨_, h1, p, xs, k, v, rfl, rfl, SqT.of h2, h3, q⟩
theorem use_ixL (h1 : σ[i]? = some (some (.ref p))) (h2 : H p = some (.lst xs)) (h3 : atI xs k = some v) (q : Q v H) : tOp (rIxL K) (tVar i) (tC (.int k)) σ H Q := ⟨_, h1, p, xs, k, v, rfl, rfl, SqL.of h2, h3, q⟩
theorem use_eqc (h1 : σ[i]? = some (some v)) (h2 : scal v c = true) (h3 : V.bl (decide (v = c)) = .bl b) (q : R b H) : tTest (tOp rEq (tVar i) (tC c)) σ H R := ⟨_, h1, h2, b, h3, q⟩
theorem use_isi {s : String} (h1 : σ[i]? = some (some v)) (h2 : TyX K H v t) (h3 : PySem.W.kitOne K t (.type s) = some b) (q : Q (.bl b) H) : tCB (rIsi K) (tCons (tVar i) (tCons (tC (.ty s)) tNil)) σ H Q := ⟨_, h1, v, _, t, _, b, rfl, ClsV.ty _, h2, h3, q⟩
end
/-! ### heaps, and the bag that the draws change -/
def Keep (b : Addr) (H H' : Hp) : Prop := ∀ a o, a ≠ b → H a = some o → H' a = some o
theorem Keep.refl {b : Addr} (H : Hp) : Keep b H H := fun _ _ _ e => e
theorem Keep.trans {b : Addr} {H H1 H2 : Hp} (x : Keep b H H1) (y : Keep b H1 H2) : Keep b H H2 := fun a o n e => y a o n (x a o n e)
theorem keep_put {b : Addr} {H : Hp} {o : HO} : Keep b H (upd H b o) := fun a u n e => (upd_ne n).trans e
theorem keep_new {b p : Addr} {H : Hp} {o : HO} (hp : H p = none) : Keep b H (upd H p o) := fun a u _ e => (upd_ne (ne_of_none e hp)).trans e
theorem same_new {p : Addr} {H : Hp} {o : HO} (hp : H p = none) : Same H (upd H p o) := fun a u e => (upd_ne (ne_of_none e hp)).trans e
theorem keep_of {b : Addr} {H H' : Hp} (s : Same H H') : Keep b H H' := fun a o _ e => s a o e
theorem Same.keep {b : Addr} {H H1 H2 : Hp} (s : Same H H1) (k : Keep b H1 H2) (hb : H b = none) : Same H H2 := fun a o e => k a o (ne_of_none e hb) (s a o e)
structure BagAt (H : Hp) (b s : Addr) (ns : List Int) (i j m c : Int) : Prop where
  hb : H b = some (.lst [.ref s, .int i, .int j, .int m, .int c])
  hs : H s = some (.lst (ns.map V.int))
  i0 : 0 ≤ i
  i1 : i ≤ (ns.length : Int)
  m0 : 0 ≤ m
  m1 : m < 2147483399
def Bag (H : Hp) (b sb : Addr) : Prop := ∃ (ns : List Int) (i j m c : Int), BagAt H b sb ns i j m c
theorem BagAt.ne {H : Hp} {b s : Addr} {ns : List Int} {i j m c : Int} (B : BagAt H b s ns i j m c) : s ≠ b := ne_of B.hs B.hb (by
  intro e
  injection e with e
  cases ns with
  | nil => simp at e
  | cons x r => simp at e)
theorem BagAt.put {H : Hp} {b s : Addr} {ns : List Int} {i j m c : Int} (B : BagAt H b s ns i j m c) {i' j' m' c' : Int} (h0 : 0 ≤ i') (h1 : i' ≤ (ns.length : Int)) (h2 : 0 ≤ m') (h3 : m' < 2147483399) :
    BagAt (upd H b (.lst [.ref s, .int i', .int j', .int m', .int c'])) b s ns i' j' m' c' := ⟨upd_same, (upd_ne B.ne).trans B.hs, h0, h1, h2, h3⟩
theorem BagAt.same {H H' : Hp} {b s : Addr} {ns : List Int} {i j m c : Int} (B : BagAt H b s ns i j m c) (e : Same H H') : BagAt H' b s ns i j m c := ⟨e _ _ B.hb, e _ _ B.hs, B.i0, B.i1, B.m0, B.m1⟩
theorem Bag.same {H H' : Hp} {b sb : Addr} (B : Bag H b sb) (e : Same H H') : Bag H' b sb := by
  obtain ⟨ns, i, j, m, c, B⟩ := B
  exact ⟨ns, i, j, m, c, B.same e⟩
theorem Bag.new {H : Hp} {b sb p : Addr} {o : HO} (B : Bag H b sb) (hp : H p = none) : Bag (upd H p o) b sb := B.same (same_new hp)
theorem Bag.ne {H : Hp} {b sb p : Addr} (B : Bag H b sb) (hp : H p = none) : p ≠ b := by
  obtain ⟨ns, i, j, m, c, B⟩ := B
  exact (ne_of_none B.hb hp).symm
theorem Bag.ne2 {H : Hp} {b sb p : Addr} (B : Bag H b sb) (hp : H p = none) : p ≠ sb := by
  obtain ⟨ns, i, j, m, c, B⟩ := B
  exact (ne_of_none B.hs hp).symm
theorem Bag.tup {H : Hp} {b sb p : Addr} {xs : List V} (B : Bag H b sb) (hp : H p = some (.tup xs)) : p ≠ b := by
  obtain ⟨ns, i, j, m, c, B⟩ := B
  exact ne_of hp B.hb (by intro z; cases z)
theorem Bag.put {H : Hp} {b sb l : Addr} {o : HO} (B : Bag H b sb) (h1 : l ≠ b) (h2 : l ≠ sb) : Bag (upd H l o) b sb := by
  obtain ⟨ns, i, j, m, c, B⟩ := B
  exact ⟨ns, i, j, m, c, (upd_ne h1.symm).trans B.hb, (upd_ne h2.symm).trans B.hs, B.i0, B.i1, B.m0, B.m1⟩
theorem Keep.list {K : PySem.W.Frag} {H H' : Hp} {b p : Addr} {xs : List V} (k : Keep b H H') (hp : p ≠ b) (h : H p = some (.lst xs)) : SqL K H' p xs := SqL.of (k _ _ hp h)
theorem at_some {α : Type} {xs : List α} {i : Int} (h0 : 0 ≤ i) (h1 : i < (xs.length : Int)) : ∃ v, xs[i.toNat]? = some v ∧ atI xs i = some v := by
  obtain ⟨n, rfl⟩ := Int.eq_ofNat_of_zero_le h0
  have hl : n < xs.length := by omega
  exact ⟨xs[n], by simp [hl], atI_nat (by simp [hl])⟩
theorem at_ex {ns : List Int} {i : Int} (h0 : 0 ≤ i) (h1 : i < (ns.length : Int)) : ∃ z, atI (ns.map V.int) i = some (.int z) := by
  obtain ⟨n, rfl⟩ := Int.eq_ofNat_of_zero_le h0
  have hl : n < ns.length := by omega
  exact ⟨ns[n], atI_nat (by simp [hl])⟩
/-! ### f(k = v, ..): keywords alone -/
section
variable {X : Cx}
theorem pe_kwOnly {CX : CXT} {k : Nat} {f : Addr} {fd : FuncData} {ps ks : List Str} {sp : Sp} {E : XK} {x : Str} {p pos : Pos} {kws : List Keyword} {tk : TA} {g : List Value → List Value → List Value} {gV : List V → List V → List V}
    (F : FnOk X.prog X.w X.K X.mg X.base CX k f fd ps sp) (hr : Room k X.A) (hg : Gl X x) (hm : X.mg x = some (.ref f))
    (hk : PySem.W.keepIn X.K (.ref f) = true) (hb : KBn X.K fd ps 0 ks g gV) (hx : Passes CX X E) (hkw : PK X kws tk)
    (hall : (backToKw pos (keywordEach kws X.env)).all (·.1.isSome) = true := by rfl)
    (hks : (backToKw pos (keywordEach kws X.env)).filterMap (·.1) = ks := by rfl)
    (hdb : (x == ("__debug__" : Str)) = false := by decide)
    (hpl : ((backTo pos (starEach [] X.env)).any (·.1) || (backToKw pos (keywordEach kws X.env)).any (·.1.isNone)) = false := by rfl) :
    PE X (.Call (.Name x p) [] kws pos) (fun σ H Q => tk σ H fun zs H2 => zs.length = ks.length ∧ sp (gV [] zs) H2 Q E) := by
  refine ⟨fun pins s σ H Q I h => wpAny_Call_Name_kw (ld_glob I hg hm ?_ hdb)⟩
  refine PySem.W.callWith_KW0 (h₀ := X.base) I.ok.mod.kin hk hall ?_ hpl
  refine thn (hkw.run pos pins s σ H _ I h) fun ws s2 ⟨zs, H2, I2, rz, l2, q2⟩ => ⟨I2.kIn, ?_⟩
  rw [hks]
  exact run_fnN (us := []) (vs := []) F hr hb hx I2 .nil rz rfl l2 q2
end
/-! ### dicts whose keys are sheets -/
abbrev Sh := Int × Int × Int × Int
def shK (x : Sh) : NestedKey := .tup [.tup [.num x.1, .num x.2.1], .tup [.num x.2.2.1, .num x.2.2.2]]
theorem shK_inj {x y : Sh} (h : shK x = shK y) : x = y := by
  obtain ⟨a, b, c, e⟩ := x
  obtain ⟨a', b', c', e'⟩ := y
  simp only [shK, NestedKey.tup.injEq, List.cons.injEq, NestedKey.num.injEq, and_true] at h
  obtain ⟨⟨rfl, rfl⟩, rfl, rfl⟩ := h
  rfl
theorem shK_depth (x : Sh) : (shK x).depth ≤ 8 := by
  simp [shK, NestedKey.depth, NestedKey.depthAll]
/-- the sheet x, as a tuple of two tuples at p -/
def ShAt (H : Hp) (p : Addr) (x : Sh) : Prop := ∃ u v : Addr, H p = some (.tup [.ref u, .ref v]) ∧ H u = some (.tup [.int x.1, .int x.2.1]) ∧ H v = some (.tup [.int x.2.2.1, .int x.2.2.2])
theorem ShAt.mono {H H' : Hp} (k : ∀ p xs, H p = some (.tup xs) → H' p = some (.tup xs)) {p : Addr} {x : Sh} (h : ShAt H p x) : ShAt H' p x := by
  obtain ⟨u, v, h1, h2, h3⟩ := h
  exact ⟨u, v, k _ _ h1, k _ _ h2, k _ _ h3⟩
theorem ShAt.same {H H' : Hp} (s : Same H H') {p : Addr} {x : Sh} (h : ShAt H p x) : ShAt H' p x := h.mono fun p xs z => s p _ z
/-- the entries of such a dict, in order: the sheet, where it stands, its number -/
abbrev DEs := List (Sh × Addr × Int)
def DRel (p : Sh × Addr × Int) (q : NestedKey × Addr × Value) : Prop := q.1 = shK p.1 ∧ q.2.1 = p.2.1 ∧ RelV (.int p.2.2) q.2.2
def DsH (P : Program) (w : World) (d : Addr) (es : DEs) (h : Heap) : Prop := (d == sysModules) = false ∧ es.length ≤ sizeLine ∧ ∃ xs : List (NestedKey × Addr × Value), Paired DRel es xs ∧
  ∃ o en ep, h.get? d = some o ∧ o.ExactDict ∧ o.data = .dict en ep ∧ en.toList = xs.map (entryOfKey (nestedKind P w)) ∧ (xs.map (·.1)).Nodup
def DS (P : Program) (w : World) (d : Addr) (es : DEs) : HO := .ext (DsH P w d es)
structure DAt (P : Program) (w : World) (H : Hp) (d : Addr) (es : DEs) : Prop where
  hd : H d = some (DS P w d es)
  ks : ∀ x ∈ es, ShAt H x.2.1 x.1
/-- as it may be read: also while a loop walks it -/
structure DRd (P : Program) (w : World) (H : Hp) (d : Addr) (es : DEs) : Prop where
  hd : Rd H d (DS P w d es)
  ks : ∀ x ∈ es, ShAt H x.2.1 x.1
theorem DAt.rd {P : Program} {w : World} {H : Hp} {d : Addr} {es : DEs} (D : DAt P w H d es) : DRd P w H d es := ⟨.inl D.hd, D.ks⟩
section
variable {P : Program} {w : World} {H : Hp} {h : Heap} {d : Addr} {es : DEs}
theorem DsH.stay {h' : Heap} (z : DsH P w d es h) (k : ∀ o, h.get? d = some o → h'.get? d = some o) : DsH P w d es h' := by
  obtain ⟨z1, z2, xs, r, o, en, ep, ho, z3⟩ := z
  exact ⟨z1, z2, xs, r, o, en, ep, k o ho, z3⟩
theorem ds_obj {H' : Hp} (z : DsH P w d es h) : ObjOk P w H' h d (DS P w d es) := by
  refine ⟨z, ?_, fun h1 h2 z1 k => z1.stay k⟩
  obtain ⟨_, _, _, _, o, _, _, ho, _⟩ := z
  exact ⟨o, ho⟩
theorem ints_at (ok : HOk P w H h) {a : Addr} {x y : Int} (e : H a = some (.tup [.int x, .int y])) : NestedIs h (.tup [.num x, .num y]) (.ref a) := by
  obtain ⟨_, its, r, o, ho, hc, n, hdat⟩ := ok a _ e
  cases r with
  | cons r1 t =>
    cases t with
    | cons r2 t =>
      cases t
      obtain ⟨t1, rfl⟩ := r1
      obtain ⟨t2, rfl⟩ := r2
      exact .tup ho hc hdat (.cons (.int x t1) (.cons (.int y t2) .nil))
theorem sh_key (ok : HOk P w H h) {p : Addr} {x : Sh} (e : ShAt H p x) : (nestedKind P w).is h (shK x) p := by
  obtain ⟨u, v, h1, h2, h3⟩ := e
  obtain ⟨_, its, r, o, ho, hc, n, hdat⟩ := ok p _ h1
  cases r with
  | cons r1 t =>
    cases t with
    | cons r2 t =>
      cases t
      cases r1
      cases r2
      exact ⟨.tup ho hc hdat (.cons (ints_at ok h2) (.cons (ints_at ok h3) .nil)), shK_depth x⟩
theorem Paired.getR {α β : Type} {F : α → β → Prop} : ∀ {l₁ : List α} {l₂ : List β}, Paired F l₁ l₂ → ∀ {b : β}, b ∈ l₂ → ∃ a ∈ l₁, F a b
  | _, _, .nil, _, hb => by cases hb
  | _, _, .cons r t, b, hb => by
    rcases List.mem_cons.mp hb with e | e
    · exact ⟨_, List.mem_cons_self, e ▸ r⟩
    · obtain ⟨a, ha, f⟩ := Paired.getR t e
      exact ⟨a, List.mem_cons_of_mem _ ha, f⟩
theorem ds_of (ok : HOk P w H h) (D : DRd P w H d es) : (d == sysModules) = false ∧ es.length ≤ sizeLine ∧ ∃ xs, Paired DRel es xs ∧ h.DictOfH (nestedKind P w) d xs := by
  obtain ⟨z1, z2, xs, r, o, en, ep, ho, h1, h2, h3, h4⟩ := (D.hd.ok ok).1
  refine ⟨z1, z2, xs, r, o, en, ep, ho, h1, h2, h3, fun y hy => ?_, h4⟩
  obtain ⟨e, he, f1, f2, _⟩ := Paired.getR r hy
  rw [f1, f2]
  exact sh_key ok (D.ks e he)
/-- the number of a sheet -/
def valD (es : DEs) (x : Sh) : Option Int := (es.find? fun e => decide (e.1 = x)).map (·.2.2)
def putD (es : DEs) (x : Sh) (p : Addr) (n : Int) : DEs := if (valD es x).isSome then es.map (fun e => if e.1 = x then (e.1, e.2.1, n) else e) else es ++ [(x, p, n)]
def dropD (es : DEs) (x : Sh) : DEs := es.filter fun e => decide (e.1 ≠ x)
theorem drel_val {xs : List (NestedKey × Addr × Value)} (r : Paired DRel es xs) (x : Sh) : RelO ((valD es x).map V.int) ((atKey xs (shK x)).map (·.2)) := by
  induction r with
  | nil => exact trivial
  | @cons p q l1 l2 h t ih =>
    obtain ⟨h1, h2, h3⟩ := h
    by_cases e : p.1 = x
    · have e2 : q.1 = shK x := by rw [h1, e]
      simp only [valD, atKey, List.find?_cons, e, e2, decide_true, Option.map_some]
      exact h3
    · have e2 : ¬ q.1 = shK x := fun z => e (shK_inj (h1.symm.trans z))
      simpa only [valD, atKey, List.find?_cons, e, e2, decide_false] using ih
theorem drel_map {xs : List (NestedKey × Addr × Value)} (r : Paired DRel es xs) (x : Sh) {n : Int} {v : Value} (rv : RelV (.int n) v) : Paired DRel (es.map fun e => if e.1 = x then (e.1, e.2.1, n) else e) (xs.map (putAt (shK x) v)) := by
  induction r with
  | nil => exact .nil
  | @cons p q l1 l2 h t ih =>
    obtain ⟨h1, h2, h3⟩ := h
    refine .cons ?_ ih
    by_cases e : p.1 = x
    · have e2 : q.1 = shK x := by rw [h1, e]
      show DRel (if p.1 = x then (p.1, p.2.1, n) else p) _
      rw [if_pos e, putAt, if_pos e2]
      exact ⟨h1, h2, rv⟩
    · have e2 : ¬ q.1 = shK x := fun z => e (shK_inj (h1.symm.trans z))
      show DRel (if p.1 = x then (p.1, p.2.1, n) else p) _
      rw [if_neg e, putAt, if_neg e2]
      exact ⟨h1, h2, h3⟩
theorem Paired.snoc {α β : Type} {F : α → β → Prop} {a : α} {b : β} (f : F a b) : ∀ {l₁ : List α} {l₂ : List β}, Paired F l₁ l₂ → Paired F (l₁ ++ [a]) (l₂ ++ [b]) := by
  intro l₁ l₂ h
  induction h with
  | nil => exact .cons f .nil
  | cons r t ih => exact .cons r ih
theorem drel_put {xs : List (NestedKey × Addr × Value)} (r : Paired DRel es xs) (x : Sh) (p : Addr) {n : Int} {v : Value} (rv : RelV (.int n) v) : Paired DRel (putD es x p n) (storedH xs (shK x) p v) := by
  have e := (drel_val r x).isSome_eq
  rw [Option.isSome_map, Option.isSome_map] at e
  unfold putD storedH
  rw [e]
  split
  · exact drel_map r x rv
  · exact Paired.snoc ⟨rfl, rfl, rv⟩ r
theorem drel_drop {xs : List (NestedKey × Addr × Value)} (r : Paired DRel es xs) (x : Sh) : Paired DRel (dropD es x) (withoutH xs (shK x)) := by
  induction r with
  | nil => exact .nil
  | @cons p q l1 l2 h t ih =>
    obtain ⟨h1, h2, h3⟩ := h
    by_cases e : p.1 = x
    · have e2 : q.1 = shK x := by rw [h1, e]
      simpa [dropD, withoutH, List.filter_cons, e, e2] using ih
    · have e2 : ¬ q.1 = shK x := fun z => e (shK_inj (h1.symm.trans z))
      simpa [dropD, withoutH, List.filter_cons, e, e2] using Paired.cons (F := DRel) ⟨h1, h2, h3⟩ ih
theorem putD_len (es : DEs) (x : Sh) (p : Addr) (n : Int) : (putD es x p n).length ≤ es.length + 1 := by
  unfold putD
  split <;> simp
theorem putD_mem {x : Sh} {p : Addr} {n : Int} {y : Sh × Addr × Int} (h : y ∈ putD es x p n) : (y.1 = x ∧ y.2.1 = p) ∨ ∃ z ∈ es, z.1 = y.1 ∧ z.2.1 = y.2.1 := by
  unfold putD at h
  split at h
  · obtain ⟨z, hz, rfl⟩ := List.mem_map.mp h
    refine .inr ⟨z, hz, ?_⟩
    split <;> exact ⟨rfl, rfl⟩
  · rcases List.mem_append.mp h with h | h
    · exact .inr ⟨y, h, rfl, rfl⟩
    · rw [List.mem_singleton.mp h]
      exact .inl ⟨rfl, rfl⟩
theorem dropD_mem {x : Sh} {y : Sh × Addr × Int} (h : y ∈ dropD es x) : y ∈ es := (List.mem_filter.mp h).1
theorem tup_ext {l : Addr} {φ : Heap → Prop} {o : HO} (hl : H l = some (.ext φ)) (p : Addr) (xs : List V) (e : H p = some (.tup xs)) : (upd H l o) p = some (.tup xs) := (upd_ne (ne_of e hl (by intro z; cases z))).trans e
theorem DAt.same {H' : Hp} (D : DAt P w H d es) (s : Same H H') : DAt P w H' d es := ⟨s _ _ D.hd, fun x hx => (D.ks x hx).same s⟩
theorem DAt.put {x : Sh} {p : Addr} {n : Int} (D : DAt P w H d es) (hp : ShAt H p x) : DAt P w (upd H d (DS P w d (putD es x p n))) d (putD es x p n) := by
  refine ⟨upd_same, fun y hy => ?_⟩
  refine ShAt.mono (tup_ext D.hd) ?_
  rcases putD_mem hy with ⟨e1, e2⟩ | ⟨z, hz, e1, e2⟩
  · rw [e1, e2]
    exact hp
  · rw [← e1, ← e2]
    exact D.ks z hz
theorem DAt.drop {x : Sh} (D : DAt P w H d es) : DAt P w (upd H d (DS P w d (dropD es x))) d (dropD es x) := ⟨upd_same, fun y hy => (D.ks y (dropD_mem hy)).mono (tup_ext D.hd)⟩
end
/-! the operations -/
section
variable {X : Cx} {pins : List (Addr × Obj)} {σ : L2.St} {H : Hp} {s : Shared} {d p : Addr} {es : DEs} {x : Sh} {A : Around} {E : Value → Shared → Prop}
theorem ds_getItem {n : Int} {Q : Value → Shared → Prop} (hu : A.units + 9 < cLine) (I : Inv X pins σ H s) (D : DRd X.prog X.w H d es) (hp : ShAt H p x) (hv : valD es x = some n) (q : ∀ t s', Inv X pins σ H s' → Q (.int n t) s') :
    wpAny (model X.prog X.w) A (getItem (.ref d) (.ref p)) Q E s := by
  obtain ⟨_, _, xs, r, dd⟩ := ds_of I.hok D
  have rel := drel_val r x
  rw [hv] at rel
  obtain ⟨w', hw, rw'⟩ := RelO.some_of (v := V.int n) rel
  obtain ⟨y, hy, hy2⟩ := Option.map_eq_some_iff.mp hw
  refine wpAny_getItem_heap (show A.in1.units + 8 < cLine from hu) (sh_key I.hok hp) dd hy ?_
  rw [hy2]
  obtain ⟨t, rfl⟩ := rw'
  exact q t _ (I.tok _)
theorem ds_getOr {n : Int} {r' : Value} {Q : Value → Shared → Prop} (hu : A.units + 9 < cLine) (I : Inv X pins σ H s) (D : DRd X.prog X.w H d es) (hp : ShAt H p x) (rn : RelV (.int n) r') (q : ∀ t s', Inv X pins σ H s' → Q (.int ((valD es x).getD n) t) s') :
    wpAny (model X.prog X.w) A (call (.builtin "dict.get") [.ref d, .ref p, r']) Q E s := by
  obtain ⟨hs, _, xs, r, dd⟩ := ds_of I.hok D
  refine call_meetsIn PySem.F.slot_dict_get dd.typeIs PySem.F.entry_dict_get (PySem.F.args_dict_get_3 _ _ _) (meetsH_dict_get_default (nestedKind X.prog X.w) d p hs r') ⟨show A.in1.units + 8 < cLine from hu, shK x, xs, sh_key I.hok hp, dd, ?_⟩
  have rel := (drel_val r x).getD rn
  have e : ((valD es x).map V.int).getD (.int n) = .int ((valD es x).getD n) := by cases valD es x <;> rfl
  rw [e] at rel
  obtain ⟨t, et⟩ := rel
  rw [et]
  exact q t _ (I.tok _)
theorem ds_setItem {n : Int} {v : Value} {Q : Unit → Shared → Prop} (hu : A.units + 9 < cLine) (I : Inv X pins σ H s) (D : DAt X.prog X.w H d es) (hp : ShAt H p x) (rv : RelV (.int n) v) (hl : es.length < sizeLine)
    (q : ∀ s', Inv X pins σ (upd H d (DS X.prog X.w d (putD es x p n))) s' → Q () s') : wpAny (model X.prog X.w) A (setItem (.ref d) (.ref p) v) Q E s := by
  obtain ⟨hs, hz, xs, r, dd⟩ := ds_of I.hok D.rd
  have hz' : xs.length ≤ sizeLine := by rw [← Paired.length r]; exact hz
  refine wpAny_setItem_heap (hsz := hz') (show A.in1.units + 8 < cLine from hu) (sh_key I.hok hp) dd fun h' dd' hsb => q _ ?_
  obtain ⟨o, en, ep, h1, h2, h3, h4, _, h5⟩ := dd'
  refine d_write I (by rw [D.hd]; exact True.intro) hsb ⟨o, h1⟩ (ds_obj ⟨hs, ?_, _, drel_put r x p rv, o, en, ep, h1, h2, h3, h4, h5⟩)
  have := putD_len es x p n
  omega
theorem ds_del {Q : Unit → Shared → Prop} {n : Int} (hu : A.units + 9 < cLine) (I : Inv X pins σ H s) (D : DAt X.prog X.w H d es) (hp : ShAt H p x) (hv : valD es x = some n)
    (q : ∀ s', Inv X pins σ (upd H d (DS X.prog X.w d (dropD es x))) s' → Q () s') : wpAny (model X.prog X.w) A (delItem (.ref d) (.ref p)) Q E s := by
  obtain ⟨hs, hz, xs, r, dd⟩ := ds_of I.hok D.rd
  have hz' : xs.length ≤ sizeLine := by rw [← Paired.length r]; exact hz
  have rel := drel_val r x
  rw [hv] at rel
  obtain ⟨w', hw, rw'⟩ := RelO.some_of (v := V.int n) rel
  obtain ⟨y, hy, hy2⟩ := Option.map_eq_some_iff.mp hw
  refine wpAny_delItem_heap (hsz := hz') (show A.in1.units + 8 < cLine from hu) (sh_key I.hok hp) hs dd hy fun h' dd' hsb => q _ ?_
  obtain ⟨o, en, ep, h1, h2, h3, h4, _, h5⟩ := dd'
  refine d_write I (by rw [D.hd]; exact True.intro) hsb ⟨o, h1⟩ (ds_obj ⟨hs, ?_, _, drel_drop r x, o, en, ep, h1, h2, h3, h4, h5⟩)
  exact Nat.le_trans (List.length_filter_le _ _) hz
end
/-! as terms -/
section
variable {X : Cx} {pos pos' apos cpos tpos : Pos} {o i e f value : Expr} {td ty tx tv : TE}
theorem pe_dnewS : PE X (.Dict [] [] pos) (fun _ H Q => ∀ p, H p = none → Q (.ref p) (upd H p (DS X.prog X.w p []))) := ⟨fun pins s σ H Q I h => by
  refine wpAny_Dict_empty ⟨.ref s.heap.objs.size, _, I.laid (a := s.heap.objs.size) (o := DS X.prog X.w s.heap.objs.size []) (t' := s.toks) (fun _ _ q => Heap.get?_push_of_some _ q) (Nat.le_refl _) (ds_obj ?_), rfl, h _ (I.hok.fresh (Nat.le_refl _))⟩
  exact ⟨beq_eq_false_iff_ne.mpr (Ne.symm (Nat.ne_of_lt I.big)), Nat.zero_le _, [], .nil, _, #[], 0, Heap.get?_push_size _ rfl, ⟨rfl, rfl, rfl⟩, rfl, rfl, List.nodup_nil⟩⟩
def tSGet (P : Program) (w : World) (td ty : TE) : TE := fun σ H Q => td σ H fun v H1 => ty σ H1 fun y H2 => ∃ d p es x n, v = .ref d ∧ y = .ref p ∧ DRd P w H2 d es ∧ ShAt H2 p x ∧ valD es x = some n ∧ Q (.int n) H2
theorem ds_dict {pins : List (Addr × Obj)} {σ : L2.St} {H : Hp} {s : Shared} {d : Addr} {es : DEs} (I : Inv X pins σ H s) (D : DRd X.prog X.w H d es) : s.TypeIs (.ref d) "dict" ∧ (∀ b, Value.ref d = .ref b → ∃ ob, s.heap.get? b = some ob ∧ ob.dict = none) := by
  obtain ⟨_, _, xs, _, dd⟩ := ds_of I.hok D
  refine ⟨dd.typeIs, fun b z => ?_⟩
  cases z
  obtain ⟨ob, _, _, h1, h2, _⟩ := dd
  exact ⟨ob, h1, h2.2.1⟩
end
/-! ### dicts of sheets: in, d[k], d[k] = v, del d[k], d.get(k, n) -/
section
variable {X : Cx} {pos pos' apos cpos tpos : Pos} {o i e f value : Expr} {td ty tx tv : TE}
def rInDS (P : Program) (w : World) (neg : Bool) : R2 := fun y v H Q => ∃ p d es x, y = .ref p ∧ v = .ref d ∧ DRd P w H d es ∧ ShAt H p x ∧ Q (.bl ((valD es x).isSome != neg)) H
theorem pe_sget (hu : X.A.units + 64 < cLine) (ho : PE X o td) (hi : PE X i ty) (hs : NoSl i) : PE X (.Subscript o i pos) (tSGet X.prog X.w td ty) := by
  refine ⟨fun pins s σ H Q I q => ?_⟩
  refine subD_of PySem.F.slot_dict_getitem.lookup hs (thn (ho.run pins s σ H _ I q) fun u s1 ⟨v, H1, I1, rv, q1⟩ => thn (hi.run pins s1 σ H1 _ I1 q1) fun iv s2 zz => ?_)
  obtain ⟨y, H2, I2, ry, d, p, es, x, n, e1, e2, D, hp, hv, q2⟩ := zz
  subst e1 e2
  cases rv
  cases ry
  exact ⟨(ds_dict I2 D).1, ds_getItem (by omega) I2 D hp hv fun t s3 I3 => ⟨.int n, H2, I3, ⟨t, rfl⟩, q2⟩⟩
def sSPut (P : Program) (w : World) (td ty tv : TE) : TS := fun D σ H => tv σ H fun v H1 => td σ H1 fun v2 H2 => ty σ H2 fun y H3 => ∃ d p es x n, v = .int n ∧ v2 = .ref d ∧ y = .ref p ∧ DAt P w H3 d es ∧ ShAt H3 p x ∧ es.length < sizeLine ∧ D.nx σ (upd H3 d (DS P w d (putD es x p n)))
theorem ps_sput (hu : X.A.units + 64 < cLine) (ho : PE X o td) (hi : PE X i ty) (hv : PE X value tv) (hs : swapsWith value (some (.Subscript o i pos')) pos.line X.env = pure false) : PS X (.Assign [.Subscript o i pos'] value pos) (sSPut X.prog X.w td ty tv) := by
  refine ⟨fun pins s σ H D I q => ?_⟩
  refine wpAny_Assign_Subscript (thn (hv.run pins s σ H _ I q) fun r s1 ⟨v, H1, I1, rv, q1⟩ => thn (ho.run pins s1 σ H1 _ I1 q1) fun u s2 ⟨v2, H2, I2, rv2, q2⟩ => thn (hi.run pins s2 σ H2 _ I2 q2) fun iv s3 zz => ?_) hs
  obtain ⟨y, H3, I3, ry, d, p, es, x, n, e1, e2, e3, DA, hp, hl, q3⟩ := zz
  subst e1 e2 e3
  cases rv2
  cases ry
  exact ds_setItem (by omega) I3 DA hp rv hl fun s4 I4 => ⟨σ, _, I4, q3⟩
def sSDel (P : Program) (w : World) (td ty : TE) : TS := fun D σ H => td σ H fun v2 H2 => ty σ H2 fun y H3 => ∃ d p es x n, v2 = .ref d ∧ y = .ref p ∧ DAt P w H3 d es ∧ ShAt H3 p x ∧ valD es x = some n ∧ D.nx σ (upd H3 d (DS P w d (dropD es x)))
theorem ps_sdel (hu : X.A.units + 64 < cLine) (ho : PE X o td) (hi : PE X i ty) : PS X (.Delete [.Subscript o i tpos] pos) (sSDel X.prog X.w td ty) := by
  refine ⟨fun pins s σ H D I q => ?_⟩
  refine wpAny_Delete (wpAny_deleteEach_cons (wpAny_delete_Subscript (thn (ho.run pins s σ H _ I q) fun u s1 ⟨v2, H1, I1, rv2, q1⟩ => thn (hi.run pins s1 σ H1 _ I1 q1) fun iv s2 zz => ?_)))
  obtain ⟨y, H2, I2, ry, d, p, es, x, n, e2, e3, DA, hp, hv, q2⟩ := zz
  subst e2 e3
  cases rv2
  cases ry
  exact ds_del (by omega) I2 DA hp hv fun s3 I3 => wpAny_deleteEach_nil ⟨σ, _, I3, q2⟩
def sSAug (P : Program) (w : World) (td ty tv : TE) (rd : V → V → Hp → VK → Prop) : TS := fun D σ H => td σ H fun v2 H1 => ty σ H1 fun y H2 => ∃ d p es x n, v2 = .ref d ∧ y = .ref p ∧ DAt P w H2 d es ∧ ShAt H2 p x ∧ valD es x = some n ∧
  tv σ H2 fun y2 H3 => rd (.int n) y2 H3 fun z H4 => ∃ es2 m, z = .int m ∧ DAt P w H4 d es2 ∧ ShAt H4 p x ∧ es2.length < sizeLine ∧ D.nx σ (upd H4 d (DS P w d (putD es2 x p m)))
theorem ps_saug {op : Operator} {rd : V → V → Hp → VK → Prop} (hu : X.A.units + 64 < cLine) (ho : PE X o td) (hi : PE X i ty) (hv : PE X value tv) (hop : InOp X op rd)
    (ha : ∀ ov iv new, augStore i ov iv new = (do holding [new, ov, iv] (setItem ov iv new); release [new, ov, iv] []; pure .next)) : PS X (.AugAssign (.Subscript o i tpos) op value pos) (sSAug X.prog X.w td ty tv rd) := by
  refine ⟨fun pins s σ H D I q => ?_⟩
  refine wpAny_AugAssign_SubscriptAny (thn (ho.run pins s σ H _ I q) fun u s1 ⟨v2, H1, I1, rv2, q1⟩ => thn (hi.run pins s1 σ H1 _ I1 q1) fun iv s2 zz => ?_) ha
  obtain ⟨y, H2, I2, ry, d, p, es, x, n, e2, e3, DA, hp, hval, q2⟩ := zz
  subst e2 e3
  cases rv2
  cases ry
  refine ds_getItem (by omega) I2 DA.rd hp hval fun t s3 I3 => thn (hv.run pins s3 σ H2 _ I3 q2) fun w2 s4 ⟨y2, H3, I4, ry2, q3⟩ => ?_
  refine thn (hop pins s4 σ H3 (.int n) y2 (.int n t) w2 _ I4 ⟨t, rfl⟩ ry2 q3) fun w3 s5 zz => ?_
  obtain ⟨z, H4, I5, rz, es2, m, ez, DA2, hp2, hl, q4⟩ := zz
  subst ez
  exact ds_setItem (by omega) I5 DA2 hp2 rz hl fun s6 I6 => ⟨σ, _, I6, q4⟩
def tSGet2 (P : Program) (w : World) (td ty tx : TE) : TE := fun σ H Q => td σ H fun v H1 => ∃ d es, v = .ref d ∧ DRd P w H1 d es ∧ ty σ H1 fun y H2 => tx σ H2 fun z H3 => ∃ p x n es3, y = .ref p ∧ z = .int n ∧ DRd P w H3 d es3 ∧ ShAt H3 p x ∧ Q (.int ((valD es3 x).getD n)) H3
theorem pe_sget2 (hu : X.A.units + 64 < cLine) (ho : PE X o td) (he : PE X e ty) (hf : PE X f tx) (m : M2 X o "get" apos e f cpos) : PE X (.Call (.Attribute o "get" apos) [e, f] [] cpos) (tSGet2 X.prog X.w td ty tx) := by
  refine ⟨fun pins s σ H Q I q => ?_⟩
  refine wpAny_Call_method m.base m.few m.line PySem.F.plainAttrs_dict PySem.F.slot_dict_get PySem.F.type_dict_get (thn (ho.run pins s σ H _ I q) fun u s1 zz => ?_)
  obtain ⟨v, H1, I1, rv, d, es, ev, DA, q1⟩ := zz
  subst ev
  cases rv
  obtain ⟨t1, t2⟩ := ds_dict I1 DA
  refine ⟨t1, t2, ?_⟩
  rw [m.trees]
  refine Calls.callWith_builtin rfl (Calls.evalArgs_plain (Calls.spliced_cons (thn (he.run pins s1 σ H1 _ I1 q1) fun iv s2 ⟨y, H2, I2, ry, q2⟩ => ?_)))
  refine Calls.spliced_cons (thn (hf.run pins s2 σ H2 _ I2 q2) fun fv s3 ⟨z, H3, I3, rz, p, x, n, es3, ey, ez, DA3, hp, q3⟩ => Calls.spliced_nil ?_)
  subst ey ez
  cases ry
  exact ds_getOr (by omega) I3 DA3 hp rz fun t s4 I4 => ⟨.int _, H3, I4, ⟨t, rfl⟩, q3⟩
end
/-! ### many new objects at once -/
def addAll (H : Hp) : List (Addr × HO) → Hp
  | [] => H
  | z :: zs => addAll (upd H z.1 z.2) zs
theorem addAll_other {a : Addr} : ∀ {zs : List (Addr × HO)} {H : Hp}, (∀ z ∈ zs, z.1 ≠ a) → addAll H zs a = H a
  | [], _, _ => rfl
  | z :: zs, H, h => by
    show addAll (upd H z.1 z.2) zs a = H a
    rw [addAll_other fun y hy => h y (List.mem_cons_of_mem _ hy), upd_ne (Ne.symm (h z List.mem_cons_self))]
theorem addAll_at {a : Addr} {o : HO} : ∀ {zs : List (Addr × HO)} {H : Hp}, (zs.map (·.1)).Nodup → (a, o) ∈ zs → addAll H zs a = some o
  | [], _, _, h => by cases h
  | z :: zs, H, n, h => by
    rw [List.map_cons, List.nodup_cons] at n
    show addAll (upd H z.1 z.2) zs a = some o
    rcases List.mem_cons.mp h with e | e
    · rw [← e, addAll_other fun y hy z' => n.1 (List.mem_map.mpr ⟨y, hy, by rw [z', ← e]⟩), upd_same]
    · exact addAll_at n.2 e
theorem addAll_mem {a : Addr} {o : HO} : ∀ {zs : List (Addr × HO)} {H : Hp}, addAll H zs a = some o → (a, o) ∈ zs ∨ H a = some o
  | [], _, h => .inr h
  | z :: zs, H, h => by
    rcases addAll_mem (zs := zs) (H := upd H z.1 z.2) h with e | e
    · exact .inl (List.mem_cons_of_mem _ e)
    · by_cases ha : a = z.1
      · subst ha
        rw [upd_same] at e
        cases e
        exact .inl List.mem_cons_self
      · rw [upd_ne ha] at e
        exact .inr e
theorem addAll_same {zs : List (Addr × HO)} {H : Hp} (n : ∀ z ∈ zs, H z.1 = none) : Same H (addAll H zs) := fun a o e => (addAll_other fun z hz => (ne_of_none e (n z hz)).symm).trans e
section
variable {X : Cx} {pins : List (Addr × Obj)} {σ : L2.St} {H : Hp} {s : Shared}
theorem Inv.lays {h' : Heap} {t' : Nat} {zs : List (Addr × HO)} (I : Inv X pins σ H s) (k : ∀ b u, s.heap.get? b = some u → h'.get? b = some u) (hp : ∀ z ∈ zs, s.heap.objs.size ≤ z.1)
    (new : ∀ z ∈ zs, ObjOk X.prog X.w (addAll H zs) h' z.1 z.2) : Inv X pins σ (addAll H zs) { s with heap := h', toks := t' } := by
  have hn : ∀ z ∈ zs, H z.1 = none := fun z hz => I.hok.fresh (hp z hz)
  have sm := addAll_same hn
  refine I.call (ch := []) (g' := s.gens) (d' := s.drawn) ⟨fun b u q _ _ _ => k b u q, fun b u q _ _ _ => ⟨u.slots, k b u q⟩, fun b u q n _ => ?_, fun b u q _ => ⟨u, k b u q⟩, fun b xs q => sm _ _ q, fun b u v q => sm _ _ q, fun b ps q => ⟨#[], by rw [sm _ _ q]; simp⟩⟩ (fun b o q => ?_) I.bare (fun _ z => nomatch z)
  · rw [addAll_other fun z hz e => ?_]
    · exact n
    · have y := hp z hz
      rw [e] at y
      exact absurd (Nat.lt_of_lt_of_le (Heap.lt_size q) y) (Nat.lt_irrefl _)
  · rcases addAll_mem q with z | z
    · exact new _ z
    · exact (I.hok b o z).stay (fun c v _ y => k c v y) (fun c y => sm _ _ y) fun c xs y => sm _ _ y
end
/-! ### dicts of sheets: items, keys, values as lists; sorted -/
theorem Paired.getL {α β : Type} {F : α → β → Prop} : ∀ {l₁ : List α} {l₂ : List β}, Paired F l₁ l₂ → ∀ {j : Nat} {a : α}, l₁[j]? = some a → ∃ b, l₂[j]? = some b ∧ F a b := by
  intro l₁ l₂ h
  induction h with
  | nil =>
    intro j a h
    simp at h
  | cons r t ih =>
    intro j a h
    cases j with
    | zero =>
      cases h
      exact ⟨_, rfl, r⟩
    | succ j => exact ih (j := j) (by simpa using h)
theorem Paired.byIx {α β : Type} {F : α → β → Prop} : ∀ {l₁ : List α} {l₂ : List β}, l₁.length = l₂.length → (∀ (j : Nat) (a : α) (b : β), l₁[j]? = some a → l₂[j]? = some b → F a b) → Paired F l₁ l₂
  | [], [], _, _ => .nil
  | a :: l₁, b :: l₂, h, f => .cons (f 0 a b rfl rfl) (Paired.byIx (by simpa using h) fun j x y h1 h2 => f (j + 1) x y (by simpa using h1) (by simpa using h2))
  | [], _ :: _, h, _ => by simp at h
  | _ :: _, [], h, _ => by simp at h
section
variable {P : Program} {w : World} {es : DEs}
theorem ds_ent {xs : List (NestedKey × Addr × Value)} {en : Array DictEntry} (he : en.toList = xs.map (entryOfKey (nestedKind P w))) (r : Paired DRel es xs) {j : Nat} {e : Sh × Addr × Int} (h : es[j]? = some e) :
    ∃ hs v, en[j]? = some ⟨hs, .ref e.2.1, v⟩ ∧ RelV (.int e.2.2) v := by
  obtain ⟨y, hy, h1, h2, h3⟩ := Paired.getL r h
  refine ⟨(nestedKind P w).hash y.1, y.2.2, ?_, h3⟩
  rw [entry_at he j, hy, ← h2]
  rfl
theorem ds_size {xs : List (NestedKey × Addr × Value)} {en : Array DictEntry} (he : en.toList = xs.map (entryOfKey (nestedKind P w))) (r : Paired DRel es xs) : en.size = es.length := (size_of_entries he).trans (Paired.length r).symm
end
section
variable {X : Cx}
def rItemsDS (P : Program) (w : World) : V → List V → Hp → VK → Prop := fun x xs H Q => ∃ d es, x = .ref d ∧ xs = [] ∧ DAt P w H d es ∧ ∀ p, H p = none → Q (.ref p) (upd H p (DX.itemsO p d))
theorem mt_itemsDS : MtR X "dict.items" (rItemsDS X.prog X.w) := by
  intro pins s σ H x xs v us Q I rx rxs q
  obtain ⟨d, es, rfl, rfl, D, q⟩ := q
  cases rx
  cases rxs
  obtain ⟨hs, _, ys, r, o, en, ep, ho, hx, hdat, _⟩ := (I.hok d _ D.hd).1
  refine DT.callItems (es := en) (ep := ep) hs ⟨o, ho, hx, hdat⟩ ?_
  exact ⟨.ref s.heap.objs.size, upd H s.heap.objs.size (DX.itemsO s.heap.objs.size d), I.laid (t' := s.toks) (fun b u z => Heap.get?_push_of_some _ z) (Nat.le_refl _) (DX.itemsO_ok (Heap.get?_push_size _ rfl)), rfl, q _ (I.hok.fresh (Nat.le_refl _))⟩
/-- rows: a list of tuples of a sheet and its number -/
def RowsAt (H : Hp) (as : List Addr) (es : DEs) : Prop := Paired (fun a (e : Sh × Addr × Int) => H a = some (.tup [.ref e.2.1, .int e.2.2])) as es
theorem RowsAt.mono {H H' : Hp} {as : List Addr} {es : DEs} (h : RowsAt H as es) (k : ∀ p xs, H p = some (.tup xs) → H' p = some (.tup xs)) : RowsAt H' as es := Paired.mapP h fun a e z => k _ _ z
def rListItems (P : Program) (w : World) : List V → Hp → VK → Prop := fun vs H Q => ∃ p d es, vs = [.ref p] ∧ H p = some (DX.itemsO p d) ∧ DAt P w H d es ∧
  ∀ l as H', H l = none → Same H H' → H' l = some (.lst (as.map V.ref)) → RowsAt H' as es → Q (.ref l) H'
theorem call_list_itemsDS (hc : X.calm = true) : CallR X (.type "list") (rListItems X.prog X.w) := by
  intro pins s σ H vs us Q I r q
  obtain ⟨p, d, es, rfl, hp, D, q⟩ := q
  obtain ⟨u, rfl, rx⟩ := r.one
  cases rx
  obtain ⟨hs, hz, ys, rel, o, en, ep, ho, hx, hdat, he, _⟩ := (I.hok d _ D.hd).1
  have view : s.heap.IsItemsView p d := (I.hok p _ hp).1
  have hsz := ds_size he rel
  refine PySem.W.dil_call (es := en) (ep := ep) (I.ok.hd hc) view ⟨o, ho, hx, hdat⟩ (by omega) fun h' tk acc c as hk hS hl hG hacc => ?_
  have hal : as.length = es.length := by omega
  have ab : ∀ a ∈ as, s.heap.objs.size < a := hG.above
  have nd : as.Nodup := hG.rise.imp fun h => Nat.ne_of_lt h
  have hin : ∀ z ∈ (s.heap.objs.size, HO.lst (as.map V.ref)) :: (as.zip es).map (fun z => (z.1, HO.tup [.ref z.2.2.1, .int z.2.2.2])), s.heap.objs.size ≤ z.1 := by
    intro z hz
    rcases List.mem_cons.mp hz with e | e
    · rw [e]
      exact Nat.le_refl _
    · obtain ⟨y, hy, rfl⟩ := List.mem_map.mp e
      exact Nat.le_of_lt (ab _ (List.of_mem_zip hy).1)
  have hm : ((as.zip es).map (fun z : Addr × Sh × Addr × Int => (z.1, HO.tup [.ref z.2.2.1, .int z.2.2.2]))).map (·.1) = as := by
    rw [List.map_map]
    show (as.zip es).map (fun z => z.1) = as
    exact List.map_fst_zip (by omega)
  have hnd : (((s.heap.objs.size, HO.lst (as.map V.ref)) :: (as.zip es).map (fun z => (z.1, HO.tup [.ref z.2.2.1, .int z.2.2.2]))).map (·.1)).Nodup := by
    rw [List.map_cons, hm, List.nodup_cons]
    exact ⟨fun z => Nat.lt_irrefl _ (ab _ z), nd⟩
  have J := Inv.lays (t' := tk) I hk hin fun z hz => by
    rcases List.mem_cons.mp hz with e | e
    · rw [e]
      refine ⟨by rw [List.length_map]; omega, acc.toList, c, ?_, by rw [Array.toArray_toList]; exact hS⟩
      rw [hacc]
      exact vals_refs as
    · obtain ⟨y, hy, rfl⟩ := List.mem_map.mp e
      obtain ⟨j, hj⟩ := List.mem_iff_getElem?.mp hy
      rw [List.getElem?_zip_eq_some] at hj
      obtain ⟨hlt, hpair⟩ := hG.pairs j _ hj.1
      obtain ⟨hsh, v, hv, rv⟩ := ds_ent he rel hj.2
      have e1 : en[j] = ⟨hsh, .ref y.2.2.1, v⟩ := by
        rw [Array.getElem?_eq_getElem hlt] at hv
        exact Option.some.inj hv
      rw [e1] at hpair
      exact ⟨by show 2 ≤ sizeLine; decide, [.ref y.2.2.1, v], .cons rfl (.cons rv .nil), _, hpair, rfl, _, rfl⟩
  have fr := fun z hz => I.hok.fresh (hin z hz)
  refine ⟨.ref s.heap.objs.size, _, J, rfl, q _ as _ (I.hok.fresh (Nat.le_refl _)) (addAll_same fr) (addAll_at hnd List.mem_cons_self) ?_⟩
  refine Paired.byIx hal fun j a e h1 h2 => addAll_at hnd (List.mem_cons_of_mem _ (List.mem_map.mpr ⟨(a, e), ?_, rfl⟩))
  exact List.mem_of_getElem? (List.getElem?_zip_eq_some.mpr ⟨h1, h2⟩)
theorem refs_by {ys : List (NestedKey × Addr × Value)} {en : Array DictEntry} {es : DEs} {acc : Array Value} (he : en.toList = ys.map (entryOfKey (nestedKind X.prog X.w))) (rel : Paired DRel es ys)
    (hl : acc.size = en.size) (hv : ∀ (j : Nat) (v : Value), acc[j]? = some v → ∃ e : DictEntry, en[j]? = some e ∧ v = e.key) : acc.toList = (es.map fun e => e.2.1).map Value.ref := by
  have hs := ds_size he rel
  apply List.ext_getElem?
  intro j
  rw [List.getElem?_map, List.getElem?_map, Array.getElem?_toList]
  cases hj : acc[j]? with
  | none =>
    have : acc.size ≤ j := by simpa using hj
    rw [List.getElem?_eq_none (by omega)]
    rfl
  | some v =>
    obtain ⟨e, h1, rfl⟩ := hv j v hj
    have : j < acc.size := by
      rcases Nat.lt_or_ge j acc.size with z | z
      · exact z
      · rw [Array.getElem?_eq_none z] at hj
        cases hj
    obtain ⟨e2, h2⟩ : ∃ e2, es[j]? = some e2 := ⟨es[j]'(by omega), List.getElem?_eq_getElem (by omega)⟩
    obtain ⟨hsh, v, h3, _⟩ := ds_ent he rel h2
    rw [h1] at h3
    rw [h2, Option.some.inj h3]
    rfl
/-- list(d) -/
def rListKeys (P : Program) (w : World) : List V → Hp → VK → Prop := fun vs H Q => ∃ d es, vs = [.ref d] ∧ DAt P w H d es ∧ ∀ p, H p = none → Q (.ref p) (upd H p (.lst (es.map fun e => V.ref e.2.1)))
theorem call_list_DS (hc : X.calm = true) : CallR X (.type "list") (rListKeys X.prog X.w) := by
  intro pins s σ H vs us Q I r q
  obtain ⟨d, es, rfl, D, q⟩ := q
  obtain ⟨u, rfl, rx⟩ := r.one
  cases rx
  obtain ⟨hs, hz, ys, rel, o, en, ep, ho, hx, hdat, he, _⟩ := (I.hok d _ D.hd).1
  have hsz := ds_size he rel
  refine PySem.W.kdl_call (kdl_raw hs hx hdat) (I.ok.hd hc) ho (by omega) fun h' tk acc c kp e it => ?_
  have ea := refs_by (X := X) he rel it.1 fun j v hv => it.2 j v hv
  refine ⟨.ref s.heap.objs.size, _, I.laid (t' := tk) (o := .lst (es.map fun e => V.ref e.2.1)) kp (Nat.le_refl _) ?_, rfl, q _ (I.hok.fresh (Nat.le_refl _))⟩
  refine ⟨by rw [List.length_map]; exact hz, acc.toList, c, ?_, by rw [Array.toArray_toList]; exact e⟩
  rw [ea, show (es.map fun e => V.ref e.2.1) = (es.map fun e => e.2.1).map V.ref by rw [List.map_map]; rfl]
  exact vals_refs _
end
/-! the order of sheets -/
def encS (x : Sh) : PyData := .tuple [.tuple [.int x.1, .int x.2.1], .tuple [.int x.2.2.1, .int x.2.2.2]]
def ltS (x y : Sh) : Prop := x.1 < y.1 ∨ (x.1 = y.1 ∧ (x.2.1 < y.2.1 ∨ (x.2.1 = y.2.1 ∧ (x.2.2.1 < y.2.2.1 ∨ (x.2.2.1 = y.2.2.1 ∧ x.2.2.2 < y.2.2.2)))))
instance (x y : Sh) : Decidable (ltS x y) := by unfold ltS; infer_instance
def leS (x y : Sh) : Bool := !decide (ltS y x)
theorem lt_encS (x y : Sh) : PySem.W.dataLt (encS x) (encS y) = decide (ltS x y) := by
  unfold encS
  rw [PySem.W.dataLt_pair (by simp [PySem.W.alike, PySem.W.alikeAll]) (by simp [PySem.W.alike, PySem.W.alikeAll]), PySem.W.dataLt_ii, PySem.W.dataLt_ii]
  simp only [PyData.eqv, PyData.eqvAll, Bool.and_true, Bool.and_eq_true, beq_iff_eq]
  obtain ⟨a, b, c, e⟩ := x
  obtain ⟨a', b', c', e'⟩ := y
  dsimp only
  rw [Bool.eq_iff_iff, decide_eq_true_iff]
  unfold ltS
  dsimp only
  by_cases h1 : a = a' ∧ b = b'
  · rw [if_pos h1]
    by_cases h2 : c = c' ∧ e = e'
    · rw [if_pos h2]
      constructor
      · intro z
        cases z
      · omega
    · rw [if_neg h2, decide_eq_true_iff]
      omega
  · rw [if_neg h1, decide_eq_true_iff]
    omega
theorem le_encS {β : Type} (f : β → Sh) : PySem.W.dataLe false (fun b => encS (f b)) = fun a b => leS (f a) (f b) := by
  funext a b
  show (!PySem.W.dataLt (encS (f b)) (encS (f a))) = _
  rw [lt_encS]
  rfl
theorem lx_tr {a b c : Int} {p q r : Prop} (f : p → q → r) (h1 : a < b ∨ (a = b ∧ p)) (h2 : b < c ∨ (b = c ∧ q)) : a < c ∨ (a = c ∧ r) := by
  rcases h1 with h1 | ⟨rfl, h1⟩
  · rcases h2 with h2 | ⟨rfl, h2⟩
    · exact .inl (Int.lt_trans h1 h2)
    · exact .inl h1
  · rcases h2 with h2 | ⟨rfl, h2⟩
    · exact .inl h2
    · exact .inr ⟨rfl, f h1 h2⟩
theorem lx_tri (a b : Int) {p q e : Prop} (h : p ∨ e ∨ q) : (a < b ∨ (a = b ∧ p)) ∨ (a = b ∧ e) ∨ (b < a ∨ (b = a ∧ q)) := by
  rcases Int.lt_trichotomy a b with l | rfl | l
  · exact .inl (.inl l)
  · rcases h with h | h | h
    · exact .inl (.inr ⟨rfl, h⟩)
    · exact .inr (.inl ⟨rfl, h⟩)
    · exact .inr (.inr (.inr ⟨rfl, h⟩))
  · exact .inr (.inr (.inl l))
theorem ltS_go {x y z : Sh} (h1 : ltS x y) (h2 : ltS y z) : ltS x z := lx_tr (lx_tr (lx_tr Int.lt_trans)) h1 h2
theorem ltS_tri (x y : Sh) : ltS x y ∨ x = y ∨ ltS y x := by
  rcases lx_tri x.1 y.1 (lx_tri x.2.1 y.2.1 (lx_tri x.2.2.1 y.2.2.1 (Int.lt_trichotomy x.2.2.2 y.2.2.2))) with h | ⟨h1, h2, h3, h4⟩ | h
  · exact .inl h
  · exact .inr (.inl (Prod.ext h1 (Prod.ext h2 (Prod.ext h3 h4))))
  · exact .inr (.inr h)
theorem leS_iff {x y : Sh} : leS x y = true ↔ ¬ ltS y x := by
  unfold leS
  rw [Bool.not_eq_true', decide_eq_false_iff_not]
theorem leS_trans (x y z : Sh) (h1 : leS x y = true) (h2 : leS y z = true) : leS x z = true := by
  rw [leS_iff] at h1 h2 ⊢
  intro h
  rcases ltS_tri x y with k | rfl | k
  · exact h2 (ltS_go h k)
  · exact h2 h
  · exact h1 k
theorem leS_antisymm {x y : Sh} (h1 : leS x y = true) (h2 : leS y x = true) : x = y := by
  rw [leS_iff] at h1 h2
  rcases ltS_tri x y with k | e | k
  · exact absurd k h2
  · exact e
  · exact absurd k h1
theorem leS_total (x y : Sh) : (leS x y || leS y x) = true := by
  rw [Bool.or_eq_true, leS_iff, leS_iff]
  by_cases k : ltS y x
  · refine .inr fun h => ?_
    have a := ltS_go h k
    unfold ltS at a
    omega
  · exact .inl k
section
variable {X : Cx}
theorem sh_reads {P : Program} {w : World} {H : Hp} {h : Heap} (ok : HOk P w H h) {p : Addr} {x : Sh} (e : ShAt H p x) : Reads h (.ref p) (encS x) [] := by
  have two : ∀ {a : Addr} {y z : Int}, H a = some (.tup [.int y, .int z]) → Reads h (.ref a) (.tuple [.int y, .int z]) [] := by
    intro a y z e
    obtain ⟨_, its, r, o, ho, hc, n, hdat⟩ := ok a _ e
    cases r with
    | cons r1 t =>
      cases t with
      | cons r2 t =>
        cases t
        obtain ⟨t1, rfl⟩ := r1
        obtain ⟨t2, rfl⟩ := r2
        exact Reads.tuple ho hc hdat (.cons (as := []) (bs := []) (.int y t1) (.cons (as := []) (bs := []) (.int z t2) .nil))
  obtain ⟨u, v, h1, h2, h3⟩ := e
  obtain ⟨_, its, r, o, ho, hc, n, hdat⟩ := ok p _ h1
  cases r with
  | cons r1 t =>
    cases t with
    | cons r2 t =>
      cases t
      cases r1
      cases r2
      exact Reads.tuple ho hc hdat (.cons (as := []) (bs := []) (two h2) (.cons (as := []) (bs := []) (two h3) .nil))
theorem each_refs {β : Type} {f : β → Addr} : ∀ {vs : List Value} {bs : List β}, PySem.W.EachIs (fun v b => v = Value.ref (f b)) vs bs → vs = bs.map fun b => Value.ref (f b) := by
  intro vs bs h
  induction h with
  | nil => rfl
  | cons h t ih => rw [List.map_cons, ← ih, h]
theorem each_of {β : Type} {F : Value → β → Prop} {f : β → Addr} : ∀ {bs : List β}, (∀ b ∈ bs, F (.ref (f b)) b) → PySem.W.EachIs F (bs.map fun b => Value.ref (f b)) bs
  | [], _ => .nil
  | b :: bs, h => .cons (h b List.mem_cons_self) (each_of fun c hc => h c (List.mem_cons_of_mem _ hc))
/-- what sorting gives, behind the gathering of the items -/
theorem sort_tail {pins : List (Addr × Obj)} {σ : L2.St} {H : Hp} {s : Shared} {Q : VK} (hu : X.A.units + 64 < cLine) (I : Inv X pins σ H s) {bs : List (Sh × Addr)} (hz : bs.length ≤ sizeLine) (hk : ∀ b ∈ bs, ShAt H b.2 b.1)
    (q : ∀ p, H p = none → Q (.ref p) (upd H p (.lst ((bs.mergeSort fun a b => leS a.1 b.1).map fun b => V.ref b.2)))) {h' : Heap} {tk : Nat} (hk' : ∀ b u, s.heap.get? b = some u → h'.get? b = some u) :
    wpAny (model X.prog X.w) X.A.in1 (call (.builtin "list.sort") [.ref h'.objs.size]) (fun _ s' => EP X pins σ Q (.ref h'.objs.size) s') X.xe { s with heap := h'.push (PyProof.Rows.seqObj "list" (bs.map fun b => Value.ref b.2).toArray 0), toks := tk } := by
  have I1 : Inv X pins σ H { s with heap := h', toks := tk } := I.kept hk'
  have hoL : (h'.push (PyProof.Rows.seqObj "list" (bs.map fun b => Value.ref b.2).toArray 0)).get? h'.objs.size = some (PyProof.Rows.seqObj "list" (bs.map fun b => Value.ref b.2).toArray 0) := Heap.get?_push_size _ rfl
  refine PySem.W.list_sort_data (enc := fun b : Sh × Addr => encS b.1) (R := fun v b => v = Value.ref b.2) hoL (each_of fun b hb => rfl) (each_of fun b hb => ⟨[], ?_, by simp⟩) (PySem.W.AllAlike.of fun _ _ => by simp [PySem.W.alike, PySem.W.alikeAll, encS]) (PySem.W.Sortable.tuples fun _ => ⟨_, _, rfl⟩) hz (fun b _ => ?_) fun out hlen eo => ?_
  · exact PyProof.Rows.Reads.keeps (fun c u e => Heap.get?_push_of_some _ e) (sh_reads I1.hok (hk b hb))
  · have : (encS b.1).depth = 2 := by simp [encS, PyData.depth, PyData.depthAll]
    show X.A.units + 1 + 1 + _ < cLine
    omega
  · rw [le_encS (fun b : Sh × Addr => b.1)] at eo
    have eo := each_refs eo
    obtain ⟨e', he'⟩ := PyProof.Rows.sortedHeap_at (vs := bs.map fun b => Value.ref b.2) (out := out.toArray) hoL
    refine ⟨.ref h'.objs.size, _, I1.laid (t' := tk) (o := .lst ((bs.mergeSort fun a b => leS a.1 b.1).map fun b => V.ref b.2)) (fun b u e => ?_) (Nat.le_refl _) ⟨?_, out, e', ?_, he'⟩, rfl, q _ (I1.hok.fresh (Nat.le_refl _))⟩
    · have hb : b < h'.objs.size := Heap.lt_size e
      rw [PyProof.Rows.sortedHeap_old (Nat.ne_of_lt hb) (by rw [Heap.size_push]; exact Nat.lt_succ_of_lt hb)]
      exact Heap.get?_push_of_some _ e
    · rw [List.length_map, List.length_mergeSort]
      exact hz
    · rw [eo, show ((bs.mergeSort fun a b => leS a.1 b.1).map fun b => V.ref b.2) = ((bs.mergeSort fun a b => leS a.1 b.1).map (·.2)).map V.ref by rw [List.map_map]; rfl, show ((bs.mergeSort fun a b => leS a.1 b.1).map fun b => Value.ref b.2) = ((bs.mergeSort fun a b => leS a.1 b.1).map (·.2)).map Value.ref by rw [List.map_map]; rfl]
      exact vals_refs _
/-- sorted(d) -/
def rSortedDS (P : Program) (w : World) : List V → Hp → VK → Prop := fun vs H Q => ∃ d es, vs = [.ref d] ∧ DAt P w H d es ∧ ∀ p, H p = none → Q (.ref p) (upd H p (.lst (((es.map fun e => (e.1, e.2.1)).mergeSort fun a b => leS a.1 b.1).map fun b => V.ref b.2)))
theorem cr_sortedDS (hc : X.calm = true) (hu : X.A.units + 64 < cLine) : CallR X (.builtin "sorted") (rSortedDS X.prog X.w) := by
  intro pins s σ H vs us Q I r q
  obtain ⟨d, es, rfl, D, q⟩ := q
  obtain ⟨u, rfl, rx⟩ := r.one
  cases rx
  obtain ⟨hs, hz, ys, rel, o, en, ep, ho, hx, hdat, he, _⟩ := (I.hok d _ D.hd).1
  have hsz := ds_size he rel
  refine Calls.call_function_entry PyProof.Rows.kind_sorted PyProof.Rows.plain_sorted PyProof.Rows.entry_sorted (PyProof.Rows.args_sorted1 _) ?_
  unfold Builtin.«sorted»
  refine wpAny_bind (m := checkCount "sorted" 1 1 _) (wpAny_pure ?_)
  refine wpAny_bind (PySem.W.kdu_collect (A := X.A.in1) (kdl_raw hs hx hdat) (I.ok.hd hc) ho (by omega) fun h' tk acc kp it => ?_)
  have ea := refs_by (X := X) he rel it.1 fun j v hv => it.2 j v hv
  have eb : acc.toList = (es.map fun e => (e.1, e.2.1)).map fun b => Value.ref b.2 := by rw [ea, List.map_map, List.map_map]; rfl
  refine wpAny_bind (wpAny_newList ?_ (by rw [ea, List.length_map, List.length_map]; exact hz))
  rw [eb]
  refine wpAny_bind (wpAny_holding (wpAny_mono (sort_tail hu I (bs := es.map fun e => (e.1, e.2.1)) (by rw [List.length_map]; exact hz) (fun b hb => ?_) q (tk := tk) kp) (fun v s' z => wpAny_pure ⟨_, rfl, z⟩) fun _ _ z => z))
  obtain ⟨e, he2, rfl⟩ := List.mem_map.mp hb
  exact D.ks e he2
end
/-! ### {sheet: number for .. in ..}
The course (block, loop, turn) is that of the library's rule for dicts of plain keys, HandS.DictComp; the statement is for dicts of sheets, without tests, and the turn is a lemma of its own. -/
section
variable {X : Cx} {pins : List (Addr × Obj)} {σ : L2.St} {H : Hp} {s : Shared} {d p : Addr} {es : DEs} {x : Sh} {E : Value → Shared → Prop}
theorem ds_dictSet {n : Int} {v : Value} {Q : Unit → Shared → Prop} (hu : X.A.units + 64 < cLine) (I : Inv X pins σ H s) (D : DAt X.prog X.w H d es) (hp : ShAt H p x) (rv : RelV (.int n) v) (hl : es.length < sizeLine)
    (q : ∀ s', Inv X pins σ (upd H d (DS X.prog X.w d (putD es x p n))) s' → Q () s') : wpAny (model X.prog X.w) X.A (dictSet d (.ref p) v) Q E s := by
  obtain ⟨hs, hz, ys, r, dd⟩ := ds_of I.hok D.rd
  have room : (nestedKind X.prog X.w).room X.A := by
    show X.A.units + 8 < cLine
    omega
  refine wpAny_dictSet_heap (hsz := by rw [← Paired.length r]; exact hz) room (sh_key I.hok hp) dd fun h' dd' sb => q _ ?_
  obtain ⟨o, en, ep, k1, k2, k3, k4, _, k5⟩ := dd'
  have few := putD_len es x p n
  exact d_write I (by rw [D.hd]; exact True.intro) sb ⟨o, k1⟩ (ds_obj ⟨hs, by omega, _, drel_put r x p rv, o, en, ep, k1, k2, k3, k4, k5⟩)
end
/-- what one turn is asked: the target, the key, the value, then the dict with it -/
def TurnS (P : Program) (w : World) (g : TG) (tk tv : TE) (vs : List Nat) (σ : L2.St) (D : Addr) (N : Hp → Prop) (x : V) (H : Hp) : Prop :=
  g x (wipe σ vs) H fun τ G => wipe τ vs = wipe σ vs ∧ tk τ G fun y G1 => tv τ G1 fun z G2 => ∃ p k n es, y = .ref p ∧ z = .int n ∧ DAt P w G2 D es ∧ ShAt G2 p k ∧ es.length < sizeLine ∧ N (upd G2 D (DS P w D (putD es k p n)))
def tDcS (P : Program) (w : World) (wi : TI) (g : TG) (tk tv : TE) (vs : List Nat) : TE := fun σ H Q => wi σ H fun J G => ∀ D, G D = none → ∃ W : Nat → Nat → Hp → Prop, (∃ m, W 0 m (upd G D (DS P w D []))) ∧
  ∀ i m G1, W i m G1 → (J.stop i G1 ∧ Q (.ref D) G1) ∨ (J.go i G1 ∧ ∀ x G2, J.yld i G1 x G2 → TurnS P w g tk tv vs σ D (fun G3 => ∃ m', m' < m ∧ W (i + 1) m' G3) x G2)
/-- the iterators of a block, where nothing else is tracked at them -/
def Idle (Y : Cx) (fp : List Addr) : Prop := ∀ {τ : L2.St} {G : Hp} {s : Shared}, Inv Y [] τ G s → (∀ b ∈ fp, G b = none) → ∀ b ∈ fp, FpOk Y [] G b
section
variable {Y : Cx} {tg kx vx : Expr} {g : TG} {tk tv : TE} {J : It} {fp : List Addr} {it D : Addr} {tn : Nat → Heap → Prop} {vs : List Nat} {σ : L2.St} {N : Hp → Prop}
/-- a turn's end: the state of the next one -/
def Next (Y : Cx) (fp : List Addr) (tn : Nat → Heap → Prop) (τ : L2.St) (j : Nat) (N : Hp → Prop) (s : Shared) : Prop := ∃ G, Inv Y [] τ G s ∧ tn j s.heap ∧ (∀ b ∈ fp, G b = none) ∧ N G
theorem turn_ends {j : Nat} {h0 : Heap} {τ : L2.St} {G : Hp} {s : Shared} (T : Turn Y.prog Y.w Y.K tg J fp it tn) (st : tn j h0) (I : Inv Y ([] ++ pinsAt fp h0) τ G s) (hw : wipe τ vs = wipe σ vs) (n : N G) : Next Y fp tn (wipe σ vs) j N s := by
  have held : ∀ b ∈ fp, ∀ o, h0.get? b = some o → s.heap.get? b = some o ∧ G b = none := by
    intro b hb o e
    have z := I.pin (b, o) (List.mem_append_right _ (List.mem_append_right _ (mem_pinsAt hb e)))
    exact ⟨z.1, z.2.1⟩
  have len : (wipe σ vs).length = τ.length := by
    rw [← hw]
    exact wipe_length τ vs
  refine ⟨G, I.unpinned.weak len fun k v e => ?_, T.keep _ _ _ st fun b hb o e => (held b hb o e).1, fun b hb => ?_, n⟩
  · rw [← hw] at e
    exact (wipe_some e).1
  · obtain ⟨o, e, _⟩ := T.obj _ _ st b hb
    exact (held b hb o e).2
theorem turn_goes {i : Nat} {G : Hp} {s : Shared} (T : Turn Y.prog Y.w Y.K tg J fp it tn) (hc : Y.calm = true) (hu : Y.A.units + 64 < cLine) (hx : Y.xe = fun _ _ => False) (idle : Idle Y fp) (pg : PG Y tg g) (pk : PE Y kx tk) (pv : PE Y vx tv)
    (I : Inv Y [] (wipe σ vs) G s) (st : tn i s.heap) (nf : ∀ b ∈ fp, G b = none) (go : J.go i G) (turn : ∀ x G2, J.yld i G x G2 → TurnS Y.prog Y.w g tk tv vs σ D N x G2) :
    wpAny (model Y.prog Y.w) Y.A (pyNext (.ref it)) (fun r s1 => ∃ u, r = some u ∧ wpAny (model Y.prog Y.w) Y.A (letOwnedTupleGo tg (.ref it) u) (fun _ s2 => wpAny (model Y.prog Y.w) Y.A (assign tg Y.env u) (fun _ s3 =>
      wpAny (model Y.prog Y.w) Y.A (eval kx Y.env) (fun a s4 => wpAny (model Y.prog Y.w) Y.A (eval vx Y.env) (fun b s5 => wpAny (model Y.prog Y.w) Y.A (dictSet D a b) (fun _ s6 => Next Y fp tn (wipe σ vs) (i + 1) N s6) Y.xe s5) Y.xe s4) Y.xe s3) Y.xe s2) Y.xe s1) Y.xe s := by
  refine thn (T.item Y rfl rfl rfl hc i [] s _ G Y.xe I (idle I nf) st go) fun r s1 ⟨u, hr, h1⟩ => ⟨u, hr, thn h1 fun _ s2 zz => ?_⟩
  obtain ⟨x, G2, I2, ru, yl, st2, nf2⟩ := zz
  have I2p := I2.pinned (idle I2 nf2) (T.obj _ _ st2)
  refine thn (pg.run _ s2 _ G2 x u _ I2p ru (turn x G2 yl)) fun _ s3 ⟨τ, G3, I3, hw, q3⟩ => ?_
  refine thn (pk.run _ s3 τ G3 _ I3 q3) fun a s4 ⟨y, G4, I4, ry, q4⟩ => thn (pv.run _ s4 τ G4 _ I4 q4) fun b s5 zz => ?_
  obtain ⟨z, G5, I5, rz, p, k, n, es, ey, ez, DA, hp, hl, q5⟩ := zz
  subst ey ez
  cases ry
  exact ds_dictSet hu I5 DA hp rz hl fun s6 I6 => turn_ends T st2 I6 hw q5
end
section
variable {X : Cx}
theorem blk_idle {s0 : Shared} {G0 : Hp} {scope : Scope} {ce : Env} {fp : List Addr} : Idle (X.blk s0 G0 scope ce fp) fp := by
  intro τ G s I nf b hb
  have own := I.ok.exf b hb
  exact ⟨nf b hb, own.1, I.ok.exfs b hb, .inl hb, fun y c e => own.2 y c e, fun q hq => by cases hq⟩
theorem pe_dcS {kx vx tg iter : Expr} {scope : Scope} {own : List (Str × Nat)} {pos : Pos} {wi : TI} {g : TG} {tk tv : TE} (hc : X.calm = true) (hu : X.A.units + 64 < cLine) (hN : X.N.Nodup) (hi : PI X tg iter wi) (ok : BlkOk X.N X.env.scope scope own)
    (hg : ∀ (s : Shared) (G : Hp) (C : Addr) (cl : List (Str × Addr)) (fp : List Addr), PG (X.blk s G scope (compEnvC scope cl C X.env) fp) tg g) (hk : ∀ (s : Shared) (G : Hp) (C : Addr) (cl : List (Str × Addr)) (fp : List Addr), PE (X.blk s G scope (compEnvC scope cl C X.env) fp) kx tk)
    (hv : ∀ (s : Shared) (G : Hp) (C : Addr) (cl : List (Str × Addr)) (fp : List Addr), PE (X.blk s G scope (compEnvC scope cl C X.env) fp) vx tv) (hf : ∀ y, foldedSetIterable iter X.env y = pure y := by intro _; rfl) :
    PE X (.DictComp kx vx [⟨tg, iter, [], 0⟩] scope pos) (tDcS X.prog X.w wi g tk tv (own.map (·.2))) := by
  refine ⟨fun pins s σ H Q I h => ?_⟩
  rw [arm_eval_DictComp]
  have cells : ∀ y ∈ scope.names, y.2 = .free → ∃ c, X.env.cells.lookup y.1 = some c := fun y hy e => (ok.free y hy e).elim (fun z => I.ok.has _ (.inl z)) fun z => I.ok.has _ (.inr z)
  refine wpAny_comprehension_free (use := none) rfl hf (closure_ok cells) ok.kind (fun y hy e => (ok.uniq y hy).trans (congrArg some e)) (thn (hi.run pins s σ H _ I h) fun _ s1 h1 => thn h1 fun _ s2 h2 => ?_)
  obtain ⟨it, fp, tn, J, G, rfl, I2, T, st, fpo, q⟩ := h2
  refine wpAny_newObj_type (newEnv_comp ?_)
  -- the new dict, tracked
  obtain ⟨W, ⟨m0, w0⟩, turn⟩ := q s2.heap.objs.size (I2.hok.fresh (Nat.le_refl _))
  have I3 : Inv X pins σ (upd G s2.heap.objs.size (DS X.prog X.w s2.heap.objs.size [])) { s2 with heap := s2.heap.push { cls := .type "dict", data := .dict #[] } } := by
    refine I2.laid (t' := s2.toks) (fun _ _ e => Heap.get?_push_of_some _ e) (Nat.le_refl _) (ds_obj ⟨?_, Nat.zero_le _, [], .nil, _, #[], 0, Heap.get?_push_size _ rfl, ⟨rfl, rfl, rfl⟩, rfl, rfl, List.nodup_nil⟩)
    exact beq_eq_false_iff_ne.mpr (Nat.ne_of_gt I2.big)
  have low : ∀ b ∈ fp, b < s2.heap.objs.size := fun b hb => let ⟨_, e, _⟩ := T.obj _ _ st b hb; Heap.lt_size e
  have st3 : tn 0 (s2.heap.push { cls := .type "dict", data := .dict #[] }) := T.keep _ _ _ st fun _ _ _ e => Heap.get?_push_of_some _ e
  generalize hD : s2.heap.objs.size = D at I3 w0 turn low ⊢
  have fp3 : ∀ b ∈ fp, FpOk X pins (upd G D (DS X.prog X.w D [])) b := fun b hb => ⟨(upd_ne (Nat.ne_of_lt (low b hb))).trans (fpo b hb).1, (fpo b hb).2⟩
  generalize upd G D (DS X.prog X.w D []) = G3 at I3 w0 fp3
  have big : D < (s2.heap.push { cls := .type "dict", data := .dict #[] }).objs.size := by
    rw [Heap.size_push, hD]
    exact Nat.lt_succ_self _
  generalize hs3 : ({ s2 with heap := s2.heap.push { cls := .type "dict", data := .dict #[] } } : Shared) = s3 at I3 ⊢
  have st3 : tn 0 s3.heap := by rw [← hs3]; exact st3
  have big : D < s3.heap.objs.size := by rw [← hs3]; exact big
  have I4 := block_start I3 ok hN fun b hb => ⟨fp3 b hb, Nat.lt_trans (low b hb) big⟩
  have pg := hg s3 G3 s3.heap.objs.size (cellsFrom (s3.heap.objs.size + 1) scope.names (cloFrom X.env.cells scope.names [])) fp
  have pk := hk s3 G3 s3.heap.objs.size (cellsFrom (s3.heap.objs.size + 1) scope.names (cloFrom X.env.cells scope.names [])) fp
  have pv := hv s3 G3 s3.heap.objs.size (cellsFrom (s3.heap.objs.size + 1) scope.names (cloFrom X.env.cells scope.names [])) fp
  have st4 : tn 0 (pushCells (s3.heap.push { cls := .type "dict", data := .dict #[] }) scope.names) := T.keep _ _ _ st3 fun _ _ _ e => pushCells_keeps _ _ _ _ (Heap.get?_push_of_some _ e)
  have locs : (compEnvC scope (cellsFrom (s3.heap.objs.size + 1) scope.names (cloFrom X.env.cells scope.names [])) s3.heap.objs.size X.env).locals = s3.heap.objs.size := rfl
  show codeAny (model X.prog X.w) X.A (.compStart _ 0 (.ref it) (.ref D) (compEnvC scope (cellsFrom (s3.heap.objs.size + 1) scope.names (cloFrom X.env.cells scope.names [])) s3.heap.objs.size X.env)) (compPost (model X.prog X.w) X.A X.xe none (EP X pins σ Q) (.ref D) s3.heap.objs.size) _
  generalize compEnvC scope (cellsFrom (s3.heap.objs.size + 1) scope.names (cloFrom X.env.cells scope.names [])) s3.heap.objs.size X.env = ce at I4 pg pk pv locs ⊢
  -- the loop
  have goes : codeAny (model X.prog X.w) X.A (.compLoop (.DictComp kx vx [⟨tg, iter, [], 0⟩] scope pos) 0 (.ref it) (.ref D) ce) (compPost (model X.prog X.w) X.A X.xe none (EP X pins σ Q) (.ref D) s3.heap.objs.size) { s3 with heap := pushCells (s3.heap.push { cls := .type "dict", data := .dict #[] }) scope.names } := by
    refine compLoop_anyD (fun n s' => ∃ i, Next (X.blk s3 G3 scope ce fp) fp tn (wipe σ (own.map (·.2))) i (W i n) s') ?_ m0 ⟨0, G3, I4, st4, fun b hb => (fp3 b hb).1, w0⟩
    rintro n s5 ⟨i, G5, I5, st5, nf5, w5⟩
    rcases turn i n G5 w5 with ⟨stop, fin⟩ | ⟨go, step⟩
    · refine thnF (T.done (X.blk s3 G3 scope ce fp) rfl rfl rfl hc i [] s5 _ G5 (fun _ _ => False) I5 (blk_idle I5 nf5) st5 stop) fun r s6 ⟨hr, I6⟩ => ?_
      subst hr
      have back : Inv X pins σ G5 s6 := I3.call' (ch := fp) I6.os I6.base I6.hok I6.bare fun b hb => by
        obtain ⟨_, f1, _, f3, f4, f5⟩ := fp3 b hb
        exact ⟨f3, f1, f4, f5⟩
      have free : G5 s3.heap.objs.size = none := by
        rw [← locs]
        exact I6.free
      obtain ⟨mm, ns, _⟩ := I6.loc
      have ns : s6.heap.Ns s3.heap.objs.size mm := by
        rw [← locs]
        exact ns
      obtain ⟨f0, f1, _, f3, f4, f5⟩ := I3.fpOk (H' := G5) (Nat.le_refl _) free
      exact ⟨mm, ns, fun h' sb => ⟨.ref D, G5, back.turned (t' := s6.toks) (fun b o hb e => (sb.2 b hb).trans e) f0 f1 f3 f4 f5, rfl, fin⟩⟩
    · refine thnF (turn_goes (Y := X.blk s3 G3 scope ce fp) (N := fun G => ∃ m', m' < n ∧ W (i + 1) m' G) T hc hu rfl blk_idle pg pk pv I5 st5 nf5 go step) fun r s6 ⟨u, hr, h6⟩ => ?_
      subst hr
      refine thnF h6 fun _ s7 h7 => thnF h7 fun _ s8 h8 => ?_
      refine wpAny_pure ?_
      rw [if_pos rfl]
      refine thnF h8 fun a s9 h9 => thnF h9 fun b s10 h10 => thnF h10 fun _ s11 ⟨G', I', st', nf', m', hm, w'⟩ => ⟨m', hm, i + 1, G', I', st', nf', w'⟩
  exact codeAny_compStart_dict goes (T.self X.A 0 _ _ _ st4 goes)
end
/-! ### entries: what is put, sums, the sorted ones -/
def keysD (es : DEs) : List Sh := es.map (·.1)
theorem valD_cons (e : Sh × Addr × Int) (es : DEs) (y : Sh) : valD (e :: es) y = if e.1 = y then some e.2.2 else valD es y := by
  unfold valD
  by_cases h : e.1 = y
  · simp [List.find?_cons, h]
  · simp [List.find?_cons, h]
theorem valD_none {es : DEs} {y : Sh} : valD es y = none ↔ y ∉ keysD es := by
  induction es with
  | nil => simp [valD, keysD]
  | cons e es ih =>
    rw [valD_cons]
    show _ ↔ y ∉ e.1 :: keysD es
    rw [List.mem_cons, not_or, ← ih]
    by_cases h : e.1 = y
    · simp [h]
    · rw [if_neg h]
      exact ⟨fun z => ⟨fun q => h q.symm, z⟩, fun z => z.2⟩
theorem valD_mem {es : DEs} (n : (keysD es).Nodup) : ∀ {e : Sh × Addr × Int}, e ∈ es → valD es e.1 = some e.2.2 := by
  induction es with
  | nil => intro e h; cases h
  | cons f es ih =>
    intro e h
    have n' : f.1 ∉ keysD es ∧ (keysD es).Nodup := List.nodup_cons.mp n
    rw [valD_cons]
    rcases List.mem_cons.mp h with rfl | h
    · rw [if_pos rfl]
    · rw [if_neg fun z => n'.1 (by rw [z]; exact List.mem_map.mpr ⟨e, h, rfl⟩)]
      exact ih n'.2 h
theorem valD_some {es : DEs} {y : Sh} {n : Int} (h : valD es y = some n) : ∃ e ∈ es, e.1 = y ∧ e.2.2 = n := by
  induction es with
  | nil => cases h
  | cons e es ih =>
    rw [valD_cons] at h
    by_cases z : e.1 = y
    · rw [if_pos z] at h
      exact ⟨e, List.mem_cons_self, z, Option.some.inj h⟩
    · rw [if_neg z] at h
      obtain ⟨f, hf, r⟩ := ih h
      exact ⟨f, List.mem_cons_of_mem _ hf, r⟩
theorem keysD_put (es : DEs) (x : Sh) (p : Addr) (n : Int) : keysD (putD es x p n) = if (valD es x).isSome then keysD es else keysD es ++ [x] := by
  unfold putD
  split
  · unfold keysD
    rw [List.map_map]
    refine List.map_congr_left fun e _ => ?_
    show (if e.1 = x then (e.1, e.2.1, n) else e).1 = e.1
    split <;> rfl
  · unfold keysD
    rw [List.map_append]
    rfl
theorem put_nodup {es : DEs} (h : (keysD es).Nodup) (x : Sh) (p : Addr) (n : Int) : (keysD (putD es x p n)).Nodup := by
  rw [keysD_put]
  cases e : valD es x with
  | some v => exact h
  | none =>
    have := valD_none.mp e
    show (keysD es ++ [x]).Nodup
    rw [List.nodup_append]
    refine ⟨h, by simp, fun a ha b hb => ?_⟩
    rw [List.mem_singleton.mp hb]
    intro z
    rw [z] at ha
    exact this ha
theorem valD_repl (x y : Sh) (n : Int) : ∀ es : DEs, valD (es.map fun e => if e.1 = x then (e.1, e.2.1, n) else e) y = if y = x then (valD es x).map (fun _ => n) else valD es y
  | [] => by simp [valD]
  | e :: es => by
    rw [List.map_cons, valD_cons, valD_repl x y n es, valD_cons, valD_cons]
    by_cases h1 : e.1 = x
    · by_cases h2 : y = x
      · simp [h1, h2]
      · have h3 : ¬ x = y := fun z => h2 z.symm
        simp [h1, h2, h3]
    · by_cases h2 : y = x
      · subst h2
        simp [h1]
      · simp [h1, h2]
theorem valD_app (es fs : DEs) (y : Sh) : valD (es ++ fs) y = (valD es y).or (valD fs y) := by
  induction es with
  | nil => rfl
  | cons e es ih =>
    rw [List.cons_append, valD_cons, valD_cons, ih]
    split <;> rfl
theorem valD_put (es : DEs) (x : Sh) (p : Addr) (n : Int) (y : Sh) : valD (putD es x p n) y = if y = x then some n else valD es y := by
  unfold putD
  cases e : valD es x with
  | some v =>
    rw [if_pos (show (some v : Option Int).isSome = true from rfl), valD_repl, e]
    rfl
  | none =>
    rw [if_neg (show ¬ (none : Option Int).isSome = true by simp), valD_app, valD_cons]
    by_cases h : y = x
    · subst h
      rw [e, if_pos rfl, if_pos rfl]
      rfl
    · rw [if_neg h, if_neg fun z => h z.symm]
      show (valD es y).or none = _
      simp
/-- the sum of a measure, each times its number -/
def wsum (φ : Sh → Int) (es : DEs) : Int := (es.map fun e => e.2.2 * φ e.1).sum
theorem wsum_cons (φ : Sh → Int) (e : Sh × Addr × Int) (es : DEs) : wsum φ (e :: es) = e.2.2 * φ e.1 + wsum φ es := by
  unfold wsum
  rw [List.map_cons, List.sum_cons]
theorem wsum_app (φ : Sh → Int) : ∀ es fs : DEs, wsum φ (es ++ fs) = wsum φ es + wsum φ fs
  | [], fs => by simp [wsum]
  | e :: es, fs => by
    rw [List.cons_append, wsum_cons, wsum_cons, wsum_app φ es fs]
    omega
theorem wsum_perm {φ : Sh → Int} {es fs : DEs} (h : es.Perm fs) : wsum φ es = wsum φ fs := by
  induction h with
  | nil => rfl
  | cons x _ ih => rw [wsum_cons, wsum_cons, ih]
  | swap x y l => rw [wsum_cons, wsum_cons, wsum_cons, wsum_cons]; omega
  | trans _ _ a b => exact a.trans b
theorem wsum_repl {φ : Sh → Int} {x : Sh} {n v : Int} : ∀ {es : DEs}, (keysD es).Nodup → valD es x = some v → wsum φ (es.map fun e => if e.1 = x then (e.1, e.2.1, n) else e) = wsum φ es + (n - v) * φ x
  | [], _, h => by cases h
  | e :: es, nd, h => by
    have nd' : e.1 ∉ keysD es ∧ (keysD es).Nodup := List.nodup_cons.mp nd
    rw [List.map_cons, wsum_cons, wsum_cons]
    rw [valD_cons] at h
    by_cases z : e.1 = x
    · rw [if_pos z] at h
      have h := Option.some.inj h
      have stay : (es.map fun f => if f.1 = x then (f.1, f.2.1, n) else f) = es := by
        rw [List.map_congr_left (g := id) fun f hf => ?_, List.map_id]
        show (if f.1 = x then (f.1, f.2.1, n) else f) = f
        rw [if_neg fun q => nd'.1 (List.mem_map.mpr ⟨f, hf, q.trans z.symm⟩)]
      rw [stay, if_pos z]
      show n * φ e.1 + _ = _
      rw [z, h]
      grind
    · rw [if_neg z] at h
      rw [wsum_repl nd'.2 h, if_neg z]
      omega
theorem wsum_put {φ : Sh → Int} {es : DEs} (nd : (keysD es).Nodup) (x : Sh) (p : Addr) (c : Int) : wsum φ (putD es x p ((valD es x).getD 0 + c)) = wsum φ es + c * φ x := by
  unfold putD
  cases e : valD es x with
  | some v =>
    rw [if_pos (show (some v : Option Int).isSome = true from rfl), wsum_repl nd e]
    show _ + (v + c - v) * φ x = _
    rw [show v + c - v = c by omega]
  | none =>
    rw [if_neg (show ¬ (none : Option Int).isSome = true by simp), wsum_app, wsum_cons]
    show _ + ((0 + c) * φ x + 0) = _
    rw [Int.zero_add, Int.add_zero]
/-- the entries in ascending order -/
def sortK (es : DEs) : List (Sh × Addr) := (es.map fun e => (e.1, e.2.1)).mergeSort fun a b => leS a.1 b.1
def sortE (es : DEs) : DEs := (sortK es).map fun b => (b.1, b.2, (valD es b.1).getD 0)
theorem sortK_perm (es : DEs) : (sortK es).Perm (es.map fun e => (e.1, e.2.1)) := List.mergeSort_perm _ _
theorem sortE_perm {es : DEs} (nd : (keysD es).Nodup) : (sortE es).Perm es := by
  refine ((sortK_perm es).map _).trans ?_
  rw [List.map_map, List.map_congr_left (g := id) fun e he => ?_, List.map_id]
  show (e.1, e.2.1, (valD es e.1).getD 0) = e
  rw [valD_mem nd he]
  rfl
theorem keys_perm {es fs : DEs} (h : es.Perm fs) : (keysD es).Perm (keysD fs) := h.map _
theorem sortE_keys {es : DEs} (nd : (keysD es).Nodup) : (keysD (sortE es)).Nodup := (keys_perm (sortE_perm nd)).nodup_iff.mpr nd
theorem ltS_of {x y : Sh} (h : leS x y = true) (n : x ≠ y) : ltS x y := by
  by_cases z : ltS x y
  · exact z
  · refine absurd (leS_antisymm h ?_) n
    unfold leS
    rw [decide_eq_false z]
    rfl
theorem sortE_up {es : DEs} (nd : (keysD es).Nodup) : (sortE es).Pairwise fun a b => ltS a.1 b.1 := by
  have h1 : (sortK es).Pairwise fun a b => leS a.1 b.1 = true := List.pairwise_mergeSort (fun a b c => leS_trans a.1 b.1 c.1) (fun a b => leS_total a.1 b.1) _
  have h2 : ((sortK es).map (·.1)).Nodup := by
    have := sortE_keys nd
    unfold keysD sortE at this
    rw [List.map_map] at this
    exact this
  have h3 : (sortK es).Pairwise fun a b => a.1 ≠ b.1 := List.pairwise_map.mp h2
  unfold sortE
  rw [List.pairwise_map]
  exact (h1.and h3).imp fun h => ltS_of h.1 h.2
theorem valD_perm {es fs : DEs} (nd : (keysD es).Nodup) (h : es.Perm fs) (y : Sh) : valD es y = valD fs y := by
  have nd' : (keysD fs).Nodup := (keys_perm h).nodup_iff.mp nd
  cases e : valD es y with
  | some n =>
    obtain ⟨f, hf, rfl, rfl⟩ := valD_some e
    exact (valD_mem nd' (h.mem_iff.mp hf)).symm
  | none =>
    refine (valD_none.mpr fun z => valD_none.mp e ?_).symm
    exact (keys_perm h).mem_iff.mpr z
/-! ### for sheet in d, while d is locked -/
def ItS (P : Program) (w : World) (d : Addr) (o : Obj) (es : DEs) : It where
  go := fun i H => DRd P w H d es ∧ H d = some (.frz o (DS P w d es)) ∧ i < es.length
  yld := fun i H x H' => H' = H ∧ ∃ e, es[i]? = some e ∧ x = .ref e.2.1
  stop := fun i H => H d = some (.frz o (DS P w d es)) ∧ es.length ≤ i
/-- what the lock tells: the very object, and its entries -/
theorem locked {P : Program} {w : World} {H : Hp} {h : Heap} {d : Addr} {o : Obj} {es : DEs} (ok : HOk P w H h) (e : H d = some (.frz o (DS P w d es))) :
    (d == sysModules) = false ∧ h.get? d = some o ∧ o.ExactDict ∧ ∃ en ep, o.data = .dict en ep ∧ en.size = es.length ∧ ∀ (j : Nat) (x : Sh × Addr × Int), es[j]? = some x → ∃ z : DictEntry, en[j]? = some z ∧ z.key = .ref x.2.1 := by
  obtain ⟨ho, ⟨lo, _, xs, r, o', en, ep, ho', hx, hdat, he, _⟩, _⟩ := ok d _ e
  obtain rfl : o = o' := Option.some.inj (ho.symm.trans ho')
  refine ⟨lo, ho, hx, en, ep, hdat, ds_size he r, fun j x hj => ?_⟩
  obtain ⟨hs, v, hz, _⟩ := ds_ent he r hj
  exact ⟨_, hz, rfl⟩
section
variable {X : Cx}
def iKeysDS (P : Program) (w : World) (td : TE) : TI := fun σ H R => td σ H fun v G => ∃ d o es, v = .ref d ∧ G d = some (.frz o (DS P w d es)) ∧ R (ItS P w d o es) G
/-- sorted(xs), a list of sheets -/
def rSortedLS : List V → Hp → VK → Prop := fun vs H Q => ∃ (a : Addr) (bs : List (Sh × Addr)), vs = [.ref a] ∧ H a = some (.lst (bs.map fun b : Sh × Addr => V.ref b.2)) ∧ (∀ b ∈ bs, ShAt H b.2 b.1) ∧ ∀ p, H p = none → Q (.ref p) (upd H p (.lst ((bs.mergeSort fun a b => leS a.1 b.1).map fun b => V.ref b.2)))
theorem cr_sortedLS (hu : X.A.units + 64 < cLine) : CallR X (.builtin "sorted") rSortedLS := by
  intro pins s σ H vs us Q I r q
  obtain ⟨a, bs, rfl, ha, hk, q⟩ := q
  obtain ⟨u, rfl, rx⟩ := r.one
  cases rx
  obtain ⟨hz, its, c, rv, ho⟩ := I.hok a _ ha
  rw [List.length_map] at hz
  have ei : its = bs.map fun b => Value.ref b.2 := by
    have e : ((bs.map fun b : Sh × Addr => b.2).map V.ref) = bs.map fun b => V.ref b.2 := by rw [List.map_map]; rfl
    rw [← e] at rv
    rw [refs_at rv, List.map_map]
    rfl
  subst ei
  have hl : s.heap.IsList a (bs.map fun b => Value.ref b.2).toArray := PySem.IsL.isList ho
  refine PySem.W.sorted_data (enc := fun b : Sh × Addr => encS b.1) (R := fun v b => v = Value.ref b.2) hl (each_of fun b hb => rfl) (each_of fun b hb => ⟨[], sh_reads I.hok (hk b hb)⟩) (PySem.W.AllAlike.of fun _ _ => by simp [PySem.W.alike, PySem.W.alikeAll, encS]) (PySem.W.Sortable.tuples fun _ => ⟨_, _, rfl⟩) hz (fun b _ => ?_) fun out hlen eo => ?_
  · have : (encS b.1).depth = 2 := by simp [encS, PyData.depth, PyData.depthAll]
    omega
  · rw [le_encS (fun b : Sh × Addr => b.1)] at eo
    have eo := each_refs eo
    obtain ⟨c', hat⟩ := PyProof.Rows.sortedAll_at s.heap (bs.map fun b => Value.ref b.2) out.toArray
    refine ⟨.ref (s.heap.objs.size + 1), _, I.laid (t' := s.toks) (o := .lst ((bs.mergeSort fun a b => leS a.1 b.1).map fun b => V.ref b.2)) ?_ (Nat.le_succ _) ?_, rfl, q _ (I.hok.fresh (Nat.le_succ _))⟩
    · intro b u e
      exact PyProof.Rows.sortedAll_old e
    · refine ⟨by rw [List.length_map, List.length_mergeSort]; exact hz, out, c', ?_, hat⟩
      rw [eo, show ((bs.mergeSort fun a b => leS a.1 b.1).map fun b => V.ref b.2) = ((bs.mergeSort fun a b => leS a.1 b.1).map (·.2)).map V.ref by rw [List.map_map]; rfl, show ((bs.mergeSort fun a b => leS a.1 b.1).map fun b => Value.ref b.2) = ((bs.mergeSort fun a b => leS a.1 b.1).map (·.2)).map Value.ref by rw [List.map_map]; rfl]
      exact vals_refs _
end
/-- a comprehension of sheets over a list that stays -/
theorem dcS_list {P : Program} {w : World} {K : PySem.W.Frag} {a : Addr} {xs : List V} {g : TG} {tk tv : TE} {vs : List Nat} {σ : L2.St} {D : Addr} {G0 : Hp} {Qd : Hp → Prop} (Pv : Nat → Hp → Prop) (h0 : Pv 0 G0) (hl : ∀ i G, i ≤ xs.length → Pv i G → SqL K G a xs)
    (turn : ∀ i x G, xs[i]? = some x → Pv i G → TurnS P w g tk tv vs σ D (Pv (i + 1)) x G) (fin : ∀ G, Pv xs.length G → Qd G) (mono : ∀ (N N' : Hp → Prop) x G, (∀ G', N G' → N' G') → TurnS P w g tk tv vs σ D N x G → TurnS P w g tk tv vs σ D N' x G) :
    ∃ W : Nat → Nat → Hp → Prop, (∃ m, W 0 m G0) ∧ ∀ i m G, W i m G → ((Itl K a).stop i G ∧ Qd G) ∨ ((Itl K a).go i G ∧ ∀ x G2, (Itl K a).yld i G x G2 → TurnS P w g tk tv vs σ D (fun G3 => ∃ m', m' < m ∧ W (i + 1) m' G3) x G2) := by
  refine ⟨fun i m G => m = xs.length - i ∧ i ≤ xs.length ∧ Pv i G, ⟨_, rfl, Nat.zero_le _, h0⟩, ?_⟩
  rintro i m G ⟨rfl, hi, pv⟩
  have sq := hl i G hi pv
  rcases Nat.lt_or_ge i xs.length with lt | ge
  · refine .inr ⟨⟨xs, xs[i], sq, List.getElem?_eq_getElem lt⟩, ?_⟩
    rintro x G2 ⟨rfl, at_⟩
    exact mono _ _ _ _ (fun G' z => ⟨_, Nat.sub_lt_sub_left lt (Nat.lt_succ_self i), rfl, lt, z⟩) (turn i x _ (at_ xs sq) pv)
  · obtain rfl : i = xs.length := Nat.le_antisymm hi ge
    exact .inl ⟨⟨xs, sq, Nat.le_refl _⟩, fin G pv⟩
/-! ### enumerate of an empty tuple; a walk of one kind or another -/
section
variable {X : Cx}
/-- enumerate(v), where iter(v) is told by B -/
theorem enum_new {P : Program} {w : World} {A : Around} {E : Value → Shared → Prop} {s : Shared} {v : Value} {Q : Fin → Shared → Prop} (h : wpAny (model P w) A (pyIter v) (fun it s1 => wpAny (model P w) A (newObj (.type "enumerate") (.fields #[.none, .bool false, it, rawInt 0, .none, .none])) (fun e s2 => Q (.done (.ret e)) s2) E s1) E s) :
    wpAny (model P w) A (Builtin.«enumerate.__new__» ⟨[.type "enumerate", v], []⟩) Q E s := by
  have cls : Builtin.SmallTypes.newClass "enumerate" ⟨[.type "enumerate", v], []⟩ = pure (.type "enumerate", [v]) := by
    simp only [Builtin.SmallTypes.newClass, PySem.sub_enumerate]
    rfl
  unfold Builtin.«enumerate.__new__»
  refine wpAny_bind (wpAny_of_eq cls ?_)
  show wpAny _ _ (Builtin.SmallTypes.calledThroughType (.type "enumerate") >>= _) _ _ _
  refine wpAny_bind (wpAny_bind (wpAny_stack_any fun st => wpAny_pure ?_))
  dsimp only
  split <;> try split
  all_goals
    refine wpAny_bind (wpAny_of_eq (a := (v, none)) rfl ?_)
    refine wpAny_bind (wpAny_mono h (fun it s1 h1 => ?_) fun _ _ z => z)
    exact wpAny_bind (wpAny_mono h1 (fun e s2 h2 => wpAny_pure h2) fun _ _ z => z)
/-- nothing to draw -/
def ItN (K : PySem.W.Frag) (a : Addr) : It where
  go := fun _ _ => False
  yld := fun _ _ _ _ => False
  stop := fun _ H => SqT K H a []
def iEnumN (K : PySem.W.Frag) (ta : TA) : TI := fun σ H R => ta σ H fun vs G => ∃ a, vs = [.ref a] ∧ SqT K G a [] ∧ R (ItN K a) G
theorem PI.or {tg e : Expr} {a b : TI} (h1 : PI X tg e a) (h2 : PI X tg e b) : PI X tg e (fun σ H R => a σ H R ∨ b σ H R) := ⟨fun pins s σ H R I h => h.elim (h1.run pins s σ H R I) (h2.run pins s σ H R I)⟩
end
/-! ### enumerate of a tuple -/
def ItU (K : PySem.W.Frag) (a : Addr) : It where
  go := fun i H => ∃ (xs : List V) (x : V), SqT K H a xs ∧ xs[i]? = some x
  yld := fun i H v H' => ∃ T x, v = .ref T ∧ H T = none ∧ H' = upd H T (.tup [.int (i : Nat), x]) ∧ ∀ xs, SqT K H a xs → xs[i]? = some x
  stop := fun i H => ∃ xs : List V, SqT K H a xs ∧ xs.length = i
section
variable {X : Cx}
theorem turnU {P : Program} {w : World} {K : PySem.W.Frag} {elts : List Expr} {kk : Nat} {tpos : Pos} {a e it : Addr} (ne : e ≠ it) (na : a ≠ it) (nb : a ≠ e) : Turn P w K (.Tuple elts kk tpos) (ItU K a) [e, it] e (fun i h => (∃ old, IsEnum h e it ((i : Nat) : Int) old) ∧ h.IsTupleIter it a i) where
  mem := List.mem_cons_self
  obj := by
    rintro i h ⟨⟨old, he⟩, oi, h1, _, h3⟩ b hb
    rcases List.mem_cons.mp hb with rfl | hb
    · exact ⟨_, he, fun _ z => nomatch z⟩
    · rw [List.mem_singleton.mp hb]
      exact ⟨oi, h1, fun _ z => by rw [h3] at z; cases z⟩
  keep := by
    rintro i h h' ⟨⟨old, he⟩, hi⟩ k
    exact ⟨⟨old, k e List.mem_cons_self _ he⟩, hi.at fun o z => k it (List.mem_cons_of_mem _ List.mem_cons_self) o z⟩
  self := by
    rintro A i s Q E ⟨⟨old, he⟩, _⟩ q
    exact wpAny_pyIter_enum he q
  item := by
    intro Y hP hw hK hc i pins s σ H E I hf st go
    subst hP hw hK
    obtain ⟨⟨old, he⟩, hi⟩ := st
    obtain ⟨xs, x, sq, hx⟩ := go
    obtain ⟨its, rv, tp, _⟩ := I.tuple sq
    obtain ⟨u, hu, ru⟩ := rv.get hx
    have lt : i < its.toArray.size := by
      rw [List.size_toArray]
      exact (List.getElem?_eq_some_iff.mp hu).1
    refine wpAny_pyNext_enum_itemD (Draws.tuple (A := Y.A.in1) (I.ok.hd hc) it a na its.toArray) he ⟨hi, tp⟩ lt ne (by simp [ne, nb.symm]) ?_
    intro y h' tk hy out st' hT hsz hk
    obtain rfl : u = y := by
      have : its.toArray[i]? = some u := by simpa using hu
      exact Option.some.inj (this.symm.trans hy)
    refine ⟨_, rfl, wpAny_letOwnedTupleGo_enum (s := { s with heap := h', toks := tk + 1 }) out ?_⟩
    intro h2 he2 sb
    have low : e < s.heap.objs.size := Heap.lt_size he
    have tup2 : h2.get? s.heap.objs.size = some { cls := .type "tuple", data := .seq #[.int i tk, u] } := (sb.2 _ (Nat.ne_of_gt low)).trans hT
    have new : ObjOk Y.prog Y.w (upd H s.heap.objs.size (.tup [.int (i : Nat), x])) h2 s.heap.objs.size (.tup [.int (i : Nat), x]) := ⟨by show 2 ≤ sizeLine; decide, _, .cons ⟨_, rfl⟩ (.cons ru .nil), ⟨_, tup2, rfl, _, rfl⟩⟩
    have stay : ∀ b ob, b ∉ [e, it] → s.heap.get? b = some ob → h2.get? b = some ob := by
      intro b ob hb z
      rw [List.mem_cons, List.mem_singleton, not_or] at hb
      exact (sb.2 b hb.1).trans (hk b ob hb.1 hb.2 z)
    refine ⟨.ref s.heap.objs.size, _, I.turnedNew stay hf (Nat.le_refl _) new, rfl, ⟨_, x, rfl, I.hok.fresh (Nat.le_refl _), rfl, fun ys hys => by rw [I.tuple_inj hys sq]; exact hx⟩, ⟨⟨u, ?_⟩, st'.1.at fun o z => (sb.2 it ne.symm).trans z⟩, fun b hb => ?_⟩
    · rw [Int.natCast_add]
      exact he2
    · have lb : b < s.heap.objs.size := by
        rcases List.mem_cons.mp hb with rfl | hb
        · exact low
        · rw [List.mem_singleton.mp hb]
          obtain ⟨_, z, _⟩ := hi
          exact Heap.lt_size z
      rw [upd_ne (Nat.ne_of_lt lb)]
      exact (hf b hb).1
  done := by
    intro Y hP hw hK hc i pins s σ H E I hf st stop
    subst hP hw hK
    obtain ⟨⟨old, he⟩, hi⟩ := st
    obtain ⟨xs, sq, hx⟩ := stop
    obtain ⟨its, rv, tp, _⟩ := I.tuple sq
    obtain ⟨f0, f1, _, f3, f4, f5⟩ := hf it (List.mem_cons_of_mem _ List.mem_cons_self)
    have here : i = its.toArray.size := by
      rw [List.size_toArray, ← rv.length]
      exact hx.symm
    refine wpAny_pyNext_enum_endD (Draws.tuple (A := Y.A.in1) (I.ok.hd hc) it a na its.toArray) he ⟨by rw [← here]; exact hi, tp⟩ fun h' eb => ⟨rfl, ?_⟩
    exact I.turned (t' := s.toks) (fun b o hb z => eb b o hb z) f0 f1 f3 f4 f5
def iEnumT (K : PySem.W.Frag) (ta : TA) : TI := fun σ H R => ta σ H fun vs G => ∃ a xs, vs = [.ref a] ∧ SqT K G a xs ∧ R (ItU K a) G
theorem pi_enumT {e : Expr} {ta : TA} {p pos tpos : Pos} {elts : List Expr} {kk : Nat} (hg : Gl X "enumerate") (hm : X.mg "enumerate" = none) (ha : PA X [e] ta) (hs : starEach [e] X.env = [(false, eval e X.env)] := by rfl) : PI X (.Tuple elts kk tpos) (.Call (.Name "enumerate" p) [e] [] pos) (iEnumT X.K ta) := by
  refine ⟨fun pins s σ H R I h => Call_ (ld_blt I hg hm boot_enumerate (PyProof.Rows.callWith_type1 (thn (ha.run pos pins s σ H _ I h) ?_) hs rfl))⟩
  rintro us s1 ⟨vs, G, I1, r, a, xs, rfl, sq, q⟩
  obtain ⟨u, rfl, ru⟩ := r.one
  cases ru
  obtain ⟨its, rv, tp, _⟩ := I1.tuple sq
  have la : a < s1.heap.objs.size := let ⟨_, z, _⟩ := tp; Heap.lt_size z
  have tp' : s1.heap.IsTuple a its.toArray := tp
  refine callType_new (S := fun A R s => s.heap.IsTuple a its.toArray ∧ R (.ok (.ret (.ref (s.heap.objs.size + 1)))) { s with heap := (s.heap.push { cls := .type "tuple_iterator", data := .fields #[.ref a, .int 0 0] }).push { cls := .type "enumerate", data := .fields #[.none, .bool false, .ref s.heap.objs.size, rawInt 0, .none, .none] } })
    F.called_enumerate (by decide) (F.typeCall_enumerate_1 _) (F.newCall_enumerate_1 _) (fun obj => F.args_object_init_2 obj _) F.entry_enumerate_new (.of_wp fun P w A R s z => enum_new (wpAny_pyIter_tuple z.1 (wpAny_newObj_type ⟨_, rfl, ?_⟩))) ⟨tp', ?_⟩
  · have := z.2
    rwa [← Heap.size_push] at this
  have he : IsEnum ((s1.heap.push { cls := .type "tuple_iterator", data := .fields #[.ref a, .int 0 0] }).push { cls := .type "enumerate", data := .fields #[.none, .bool false, .ref s1.heap.objs.size, rawInt 0, .none, .none] }) (s1.heap.objs.size + 1) s1.heap.objs.size ((0 : Nat) : Int) .none := by
    have z := Heap.get?_push_size (s1.heap.push { cls := .type "tuple_iterator", data := .fields #[.ref a, .int 0 0] }) (o := { cls := .type "enumerate", data := .fields #[.none, .bool false, .ref s1.heap.objs.size, rawInt 0, .none, .none] }) rfl
    rwa [Heap.size_push] at z
  have hit : ((s1.heap.push { cls := .type "tuple_iterator", data := .fields #[.ref a, .int 0 0] }).push { cls := .type "enumerate", data := .fields #[.none, .bool false, .ref s1.heap.objs.size, rawInt 0, .none, .none] }).IsTupleIter s1.heap.objs.size a 0 := ⟨_, Heap.get?_push_of_some _ (Heap.get?_push_size _ rfl), rfl, rfl⟩
  refine ⟨⟨_, he, rfl⟩, wpAny_pyIter_enum he ⟨s1.heap.objs.size + 1, [s1.heap.objs.size + 1, s1.heap.objs.size], _, _, G, rfl, I1.kept (t' := s1.toks) fun b o z => Heap.get?_push_of_some _ (Heap.get?_push_of_some _ z), turnU (Nat.succ_ne_self _) (Nat.ne_of_lt la) (Nat.ne_of_lt (Nat.lt_succ_of_lt la)), ⟨⟨.none, he⟩, hit⟩, fun b hb => ?_, q⟩⟩
  have le : s1.heap.objs.size ≤ b := by
    rcases List.mem_cons.mp hb with rfl | hb
    · exact Nat.le_succ _
    · rw [List.mem_singleton.mp hb]
      exact Nat.le_refl _
  exact I1.fpOk le (I1.hok.fresh le)
end
/-! ### rows put together -/
theorem putD_new {es : DEs} {x : Sh} {p : Addr} {n : Int} (h : valD es x = none) : putD es x p n = es ++ [(x, p, n)] := by
  unfold putD
  rw [h]
  rfl
theorem take_put {fs : DEs} (nd : (keysD fs).Nodup) {i : Nat} {e : Sh × Addr × Int} (he : fs[i]? = some e) : putD (fs.take i) e.1 e.2.1 e.2.2 = fs.take (i + 1) := by
  have hn : valD (fs.take i) e.1 = none := by
    refine valD_none.mpr fun z => ?_
    obtain ⟨f, hf, hfe⟩ := List.mem_map.mp z
    obtain ⟨j, hj⟩ := List.mem_iff_getElem?.mp hf
    have hji : j < i := by
      rcases Nat.lt_or_ge j i with l | l
      · exact l
      · rw [List.getElem?_eq_none (by rw [List.length_take]; omega)] at hj
        cases hj
    rw [List.getElem?_take_of_lt hji] at hj
    have k1 : (keysD fs)[j]? = some e.1 := by
      unfold keysD
      rw [List.getElem?_map, hj, ← hfe]
      rfl
    have k2 : (keysD fs)[i]? = some e.1 := by
      unfold keysD
      rw [List.getElem?_map, he]
      rfl
    obtain ⟨l1, g1⟩ := List.getElem?_eq_some_iff.mp k1
    have := (List.getElem?_inj l1 nd).mp (k1.trans k2.symm)
    omega
  rw [putD_new hn, List.take_add_one, he]
  rfl
theorem putD_in {es : DEs} {x : Sh} {p : Addr} {n : Int} {y : Sh × Addr × Int} (h : y ∈ putD es x p n) : (y.1 = x ∧ y.2.2 = n) ∨ y ∈ es := by
  unfold putD at h
  split at h
  · obtain ⟨z, hz, rfl⟩ := List.mem_map.mp h
    split
    · rename_i e
      exact .inl ⟨e, rfl⟩
    · exact .inr hz
  · rcases List.mem_append.mp h with h | h
    · exact .inr h
    · rw [List.mem_singleton.mp h]
      exact .inl ⟨rfl, rfl⟩
def addE (acc : DEs) (e : Sh × Addr × Int) : DEs := putD acc e.1 e.2.1 ((valD acc e.1).getD 0 + e.2.2)
def mergeTo (es : DEs) (i : Nat) : DEs := (es.take i).foldl addE []
def mergeD (es : DEs) : DEs := es.foldl addE []
theorem mergeTo_all (es : DEs) : mergeTo es es.length = mergeD es := by
  unfold mergeTo mergeD
  rw [List.take_length]
theorem mergeTo_succ {es : DEs} {i : Nat} {e : Sh × Addr × Int} (he : es[i]? = some e) : mergeTo es (i + 1) = addE (mergeTo es i) e := by
  unfold mergeTo
  rw [List.take_add_one, he, List.foldl_append]
  rfl
theorem fold_nodup : ∀ (es acc : DEs), (keysD acc).Nodup → (keysD (es.foldl addE acc)).Nodup
  | [], _, h => h
  | e :: es, acc, h => fold_nodup es (addE acc e) (put_nodup h _ _ _)
theorem merge_nodup (es : DEs) : (keysD (mergeD es)).Nodup := fold_nodup es [] List.nodup_nil
theorem fold_wsum (φ : Sh → Int) : ∀ (es acc : DEs), (keysD acc).Nodup → wsum φ (es.foldl addE acc) = wsum φ acc + wsum φ es
  | [], acc, h => by
    show wsum φ acc = wsum φ acc + 0
    omega
  | e :: es, acc, h => by
    rw [List.foldl_cons, fold_wsum φ es (addE acc e) (put_nodup h _ _ _), wsum_cons]
    unfold addE
    rw [wsum_put h]
    omega
theorem merge_wsum (φ : Sh → Int) (es : DEs) : wsum φ (mergeD es) = wsum φ es := by
  unfold mergeD
  rw [fold_wsum φ es [] List.nodup_nil]
  show 0 + wsum φ es = _
  omega
theorem fold_len : ∀ (es acc : DEs), (es.foldl addE acc).length ≤ acc.length + es.length
  | [], acc => by simp
  | e :: es, acc => by
    have h1 := fold_len es (addE acc e)
    have h2 : (addE acc e).length ≤ acc.length + 1 := putD_len _ _ _ _
    rw [List.foldl_cons, List.length_cons]
    omega
theorem mergeTo_len (es : DEs) (i : Nat) : (mergeTo es i).length ≤ i := by
  have h1 := fold_len (es.take i) []
  have h2 : (es.take i).length ≤ i := by
    rw [List.length_take]
    omega
  unfold mergeTo
  simp only [List.length_nil] at h1
  omega
theorem merge_len (es : DEs) : (mergeD es).length ≤ es.length := by
  have := fold_len es []
  simpa [mergeD] using this
/-- each number from 1 to M, each sheet by S -/
def Within (S : Sh → Prop) (M : Int) (es : DEs) : Prop := ∀ e ∈ es, S e.1 ∧ 1 ≤ e.2.2 ∧ e.2.2 ≤ M
theorem Within.up {S : Sh → Prop} {M N : Int} {es : DEs} (h : Within S M es) (l : M ≤ N) : Within S N es := fun e he => ⟨(h e he).1, (h e he).2.1, Int.le_trans (h e he).2.2 l⟩
theorem Within.perm {S : Sh → Prop} {M : Int} {es fs : DEs} (h : Within S M es) (p : fs.Perm es) : Within S M fs := fun e he => h e (p.mem_iff.mp he)
theorem fold_within {S : Sh → Prop} {M : Int} (hM : 0 ≤ M) : ∀ (es acc : DEs) (N : Int), 0 ≤ N → Within S N acc → Within S M es → Within S (N + es.length * M) (es.foldl addE acc)
  | [], acc, N, hN, ha, _ => by simpa using ha
  | e :: es, acc, N, hN, ha, he => by
    have h1 : Within S (N + M) (addE acc e) := by
      intro y hy
      rcases putD_in hy with ⟨e1, e2⟩ | z
      · obtain ⟨s1, s2, s3⟩ := he e List.mem_cons_self
        have hv : 0 ≤ (valD acc e.1).getD 0 ∧ (valD acc e.1).getD 0 ≤ N := by
          cases hv : valD acc e.1 with
          | none => exact ⟨Int.le_refl _, hN⟩
          | some v =>
            obtain ⟨f, hf, _, rfl⟩ := valD_some hv
            have := ha f hf
            exact ⟨by show 0 ≤ f.2.2; omega, this.2.2⟩
        rw [e1, e2]
        exact ⟨s1, by omega, by omega⟩
      · have := ha y z
        exact ⟨this.1, this.2.1, by omega⟩
    have h2 := fold_within hM es (addE acc e) (N + M) (by omega) h1 fun y hy => he y (List.mem_cons_of_mem _ hy)
    rw [List.foldl_cons, List.length_cons]
    refine h2.up (Int.le_of_eq ?_)
    have : ((es.length + 1 : Nat) : Int) * M = es.length * M + M := by
      rw [Int.natCast_add, Int.add_mul]
      simp
    omega
theorem merge_within {S : Sh → Prop} {M : Int} {es : DEs} (hM : 0 ≤ M) (h : Within S M es) : Within S (es.length * M) (mergeD es) := by
  have := fold_within hM es [] 0 (Int.le_refl _) (fun e he => by cases he) h
  rwa [Int.zero_add] at this
/-! ### d == e, for dicts of sheets -/
def eqE (fs : DEs) (e : Sh × Addr × Int) : Bool := decide (valD fs e.1 = some e.2.2)
def eqD (es fs : DEs) : Bool := decide (es.length = fs.length) && es.all (eqE fs)
theorem drel_keys {fs : DEs} {ys : List (NestedKey × Addr × Value)} (r : Paired DRel fs ys) : ys.map (·.1) = fs.map fun f => shK f.1 := by
  induction r with
  | nil => rfl
  | cons h _ ih => rw [List.map_cons, List.map_cons, ih, h.1]
theorem drel_nodup {fs : DEs} {ys : List (NestedKey × Addr × Value)} (r : Paired DRel fs ys) (n : (ys.map (·.1)).Nodup) : (keysD fs).Nodup := by
  rw [drel_keys r] at n
  exact List.pairwise_map.mpr ((List.pairwise_map.mp n).imp fun ne z => ne (congrArg shK z))
section
variable {X : Cx} {pins : List (Addr × Obj)} {σ : L2.St} {H : Hp} {s : Shared} {a b : Addr} {es fs : DEs} {A : Around} {E : Value → Shared → Prop}
/-- one entry, looked up in the other dict -/
theorem ds_hit {e : Sh × Addr × Int} {v : Value} {ob : Obj} {eb : Array DictEntry} {pb : Nat} {ys : List (NestedKey × Addr × Value)} {Q : Bool → Shared → Prop} (hu : A.units + 8 < cLine) (I : Inv X pins σ H s) (he : ShAt H e.2.1 e.1) (rv : RelV (.int e.2.2) v)
    (ry : Paired DRel fs ys) (hb : s.heap.get? b = some ob) (db : ob.data = .dict eb pb) (tb : eb.toList = ys.map (entryOfKey (nestedKind X.prog X.w))) (kb : ∀ y ∈ ys, (nestedKind X.prog X.w).is s.heap y.1 y.2.1) (nb : (ys.map (·.1)).Nodup) (q : Q (eqE fs e) s) :
    wpAny (model X.prog X.w) A (do
      let some j ← dictFind b (.ref e.2.1) ((nestedKind X.prog X.w).hash (shK e.1)) | pure false
      let some f := (← dictEntries b)[j]? | unsupported "internal:dict-equal"
      holding [f.val] (eqBool v f.val)) Q E s := by
  refine wpAny_bind (wpAny_dictFind_heap (show A.units + 8 < cLine from hu) (sh_key I.hok he) hb db tb kb nb (fun no => ?_) fun j p hj => ?_)
  · have vn : valD fs e.1 = none := by
      cases z : valD fs e.1 with
      | none => rfl
      | some n =>
        obtain ⟨f, hf, f1, _⟩ := valD_some z
        obtain ⟨i, hi⟩ := List.mem_iff_getElem?.mp hf
        obtain ⟨y, hy, y1, _⟩ := Paired.getL ry hi
        refine absurd hy (fun hy => no i y.2 ?_)
        rw [hy, ← f1, ← y1]
    refine wpAny_pure ?_
    unfold eqE at q
    rwa [vn, decide_eq_false (by simp)] at q
  · obtain ⟨f, hf, f1, f2, f3⟩ := Paired.getR ry (List.mem_of_getElem? hj)
    have fe : f.1 = e.1 := shK_inj f1.symm
    have vs : valD fs e.1 = some f.2.2 := by
      rw [← fe]
      exact valD_mem (drel_nodup ry nb) hf
    have at_ : eb[j]? = some ⟨(nestedKind X.prog X.w).hash (shK e.1), .ref p.1, p.2⟩ := by
      rw [entry_at tb j, hj]
      rfl
    refine wpAny_bind (wpAny_dictEntries hb db ?_)
    simp only [at_]
    obtain ⟨t1, rfl⟩ := rv
    obtain ⟨t2, e2⟩ := f3
    replace e2 : p.2 = .int f.2.2 t2 := e2
    rw [e2]
    refine wpAny_holding (wpAny_eqBool_int ?_)
    unfold eqE at q
    rw [vs] at q
    have : (e.2.2 == f.2.2) = decide (some f.2.2 = some e.2.2) := by
      by_cases z : e.2.2 = f.2.2
      · rw [z]
        simp
      · rw [beq_eq_false_iff_ne.mpr z, decide_eq_false fun w => z (Option.some.inj w).symm]
    rwa [this]
theorem ds_samePairs {nm : String} {Q : Bool → Shared → Prop} (hu : A.units + 8 < cLine) (I : Inv X pins σ H s) (D : DRd X.prog X.w H a es) (F : DRd X.prog X.w H b fs) (q : Q (eqD es fs) s) : wpAny (model X.prog X.w) A (Builtin.Dict.samePairs nm a b) Q E s := by
  obtain ⟨la, _, xs, rx, oa, ea, pa, ha, _, da, ta, _, _⟩ := ds_of I.hok D
  obtain ⟨lb, _, ys, ry, ob, eb, pb, hb, _, db, tb, kb, nb⟩ := ds_of I.hok F
  have sa : ea.size = es.length := ds_size ta rx
  have sb : eb.size = fs.length := ds_size tb ry
  have sh : ∀ d, (d == sysModules) = false → Builtin.Dict.showsAll d = pure () := by
    intro d z
    unfold Builtin.Dict.showsAll
    rw [z]
    rfl
  unfold Builtin.Dict.samePairs
  refine wpAny_bind (wpAny_of_eq (sh a la) (wpAny_bind (wpAny_of_eq (sh b lb) ?_)))
  refine wpAny_bind (wpAny_dictEntries ha da (wpAny_bind (wpAny_dictEntries hb db ?_)))
  unfold eqD at q
  rw [sa, sb]
  by_cases hz : es.length = fs.length
  · rw [decide_eq_true hz, Bool.true_and] at q
    rw [if_neg (by rw [hz]; simp)]
    refine wpAny_bind (wpAny_dictEpoch ha da ?_)
    refine wpAny_bind ?_
    rw [Std.Legacy.Range.forIn_eq_forIn_range']
    refine wpAny_forIn_list _ (fun rest st s' => s' = s ∧ st = (none, ()) ∧ ∃ i, rest = List.range' i rest.length ∧ i + rest.length = es.length ∧ es.all (eqE fs) = (es.drop i).all (eqE fs)) _ ?_ ?_ _ _ ⟨rfl, rfl, 0, ?_, ?_, ?_⟩
    · rintro x rest st s' ⟨rfl, rfl, i, hr, hn, hall⟩
      rw [List.length_cons] at hr hn
      rw [List.range'_succ] at hr
      obtain ⟨rfl, hr⟩ := List.cons.inj hr
      obtain ⟨e, he⟩ : ∃ e, es[x]? = some e := ⟨es[x]'(by omega), List.getElem?_eq_getElem (by omega)⟩
      obtain ⟨y, hy, y1, y2, y3⟩ := Paired.getL rx he
      have at_ : ea[x]? = some ⟨(nestedKind X.prog X.w).hash (shK e.1), .ref e.2.1, y.2.2⟩ := by
        rw [entry_at ta x, hy, ← y1, ← y2]
        rfl
      have dr : (es.drop x).all (eqE fs) = (eqE fs e && (es.drop (x + 1)).all (eqE fs)) := by
        rw [List.drop_eq_getElem?_toList_append, he]
        rfl
      refine wpAny_bind (wpAny_dictEntries ha da ?_)
      simp only [at_]
      refine wpAny_bind (wpAny_holding (ds_hit hu I (D.ks e (List.mem_of_getElem? he)) y3 ry hb db tb kb nb ?_))
      cases hq : eqE fs e with
      | false =>
        rw [hall, dr, hq, Bool.false_and] at q
        exact wpAny_pure (wpAny_pure q)
      | true =>
        rw [if_neg (by decide)]
        refine wpAny_bind (wpAny_dictEpoch ha da ?_)
        rw [if_neg (by simp)]
        refine wpAny_pure ⟨rfl, rfl, x + 1, hr, by omega, ?_⟩
        rw [hall, dr, hq, Bool.true_and]
    · rintro st s' ⟨rfl, rfl, i, hr, hn, hall⟩
      have : i = es.length := by simpa using hn
      subst this
      rw [hall, List.drop_length] at q
      exact wpAny_pure q
    · simp
    · simp [Std.Legacy.Range.size]
    · rw [List.drop_zero]
  · rw [decide_eq_false hz, Bool.false_and] at q
    rw [if_pos (by simpa using hz)]
    exact wpAny_bind (wpAny_rule (wpAny_pure q))
theorem ds_eq {Q : Value → Shared → Prop} (hu : A.units + 9 < cLine) (I : Inv X pins σ H s) (D : DRd X.prog X.w H a es) (F : DRd X.prog X.w H b fs) (q : Q (.bool (eqD es fs)) s) : wpAny (model X.prog X.w) A (compareOp .Eq (.ref a) (.ref b)) Q E s := by
  have ta := (ds_dict (X := X) I D).1
  have tb := (ds_dict (X := X) I F).1
  refine wpAny_richCompare_same_room (op := .Eq) ta tb PySem.F.slot_dict_eq (wpAny_call_entry PySem.F.slot_dict_eq ta PySem.F.entry_dict_eq ?_ (PySem.F.args_dict_eq_2 _ _)) (by omega)
  have args : wpAny (model X.prog X.w) A.in1 (Builtin.Dict.dictSlotArgs "__eq__" ⟨[.ref a, .ref b], []⟩) (fun r s' => r = (.ref a, .ref b) ∧ s' = s) E s := by
    unfold Builtin.Dict.dictSlotArgs
    refine wpAny_bind (wpAny_notOrdered_dict ta ?_)
    exact wpAny_pure ⟨rfl, rfl⟩
  refine wpAny_bind (m := Builtin.Dict.dictSlotArgs "__eq__" ⟨[.ref a, .ref b], []⟩) (wpAny_mono args ?_ fun _ _ z => z)
  rintro r s' ⟨rfl, rfl⟩
  refine wpAny_bind (wpAny_isInstance (T := "dict") tb PySem.F.sub_dict_dict ?_)
  simp only [Bool.not_true, Bool.false_eq_true, if_false]
  refine wpAny_bind (wpAny_pure (wpAny_bind (wpAny_pure (wpAny_bind (ds_samePairs (show A.in1.units + 8 < cLine from by show A.units + 1 + 8 < cLine; omega) I D F ?_)))))
  exact wpAny_pure ⟨_, rfl, by simp, by simpa using q⟩
end
def rEqDS (P : Program) (w : World) : R2 := fun x y H Q => ∃ a b es fs, x = .ref a ∧ y = .ref b ∧ DRd P w H a es ∧ DRd P w H b fs ∧ Q (.bl (eqD es fs)) H
theorem op_eqDS {X : Cx} (hu : X.A.units + 64 < cLine) : OpR X (compareOp .Eq) (rEqDS X.prog X.w) := by
  intro pins s σ H x y u v Q I rx ry q
  obtain ⟨a, b, es, fs, rfl, rfl, D, F, q⟩ := q
  cases rx
  cases ry
  exact ds_eq (by omega) I D F ⟨.bl (eqD es fs), H, I, rfl, q⟩
/-! ### the law's own draws -/
section
variable {base : Heap} {K : PySem.W.Frag} {mg : Str → Option Value} {P : Program} {w : World}
def spPull : Sp := fun vs H Q _ => ∃ (b sb : Addr) (n : Int), vs = [.ref b, .int n] ∧ Bag H b sb ∧ 0 < n ∧ n.natAbs < 2 ^ 100 ∧ ∀ z H', 0 ≤ z → z < n → Bag H' b sb → Keep b H H' → Q (.int z) H'
theorem ok_pull (T : Txt K mg) : FnOk P w K mg base CX0 1 T.f_pull T.d_pull ["_law_bag", "_law_size"] spPull := by
  refine T.F_pull.ok sc_pull (fun vs H Q E h => ?_) (fun cdv A outer s H vs Q E hr h => ?_)
  · obtain ⟨b, sb, n, rfl, _⟩ := h
    rfl
  · obtain ⟨b, s1, n, rfl, ⟨ns, i, j, m, c, B⟩, h0, h1, q⟩ := h
    refine ⟨_, (pss_cons (ps_asg (pe_op op_add (pe_ix ix_list (pv 0) pe_int (fun _ _ => rfl)) pe_int) (pg_sub (pv 0) pe_int set_list))
      (Evl.pss_cut (ps_if (PW.pt (pw_and (pt_cmpR op_eq (pe_ix ix_list (pv 0) pe_int (fun _ _ => rfl)) pe_int (nomark _)) (pw_and1 (pt_cmpR op_lt (pe_ix ix_list (pv 0) pe_int (fun _ _ => rfl)) (pe_callB call_len_seq (by rfl) T.n_len (by decide +kernel) (pa_cons (pe_ix ix_list (pv 0) pe_int (fun _ _ => rfl)) pa_nil)) (nomark _))))) (pss_cons (ps_set (i := 3) sc_pull.nd rfl (Or.inl rfl) (pe_ix ix_list (pe_ix ix_list (pv 0) pe_int (fun _ _ => rfl)) (pe_ix ix_list (pv 0) pe_int (fun _ _ => rfl)) (fun _ _ => rfl)))
      (pss_cons (ps_asg (pe_op op_add (pe_ix ix_list (pv 0) pe_int (fun _ _ => rfl)) pe_int) (pg_sub (pv 0) pe_int set_list))
      (pss_one (ps_if (pt_cmpR op_ge (pv 3) (pe_op op_pow pe_int pe_int) (nomark _)) (pss_one (ps_asg (pv 3) (pg_sub (pv 0) pe_int set_list))) (pss_cons (ps_set (i := 2) sc_pull.nd rfl (Or.inl rfl) (pe_op op_add (pe_op op_mul (pe_ix ix_list (pv 0) pe_int (fun _ _ => rfl)) pe_int) (pe_op op_mul (pe_op op_mod (pv 3) pe_int) pe_int)))
      (pss_one (ps_asg (pe_op op_mod (pe_op op_add (pv 2) pe_int) pe_int) (pg_sub (pv 0) pe_int set_list)))))))) pss_nil)
      (pss_cons (ps_if (pt_cmpR op_gt (pe_ix ix_list (pv 0) pe_int (fun _ _ => rfl)) pe_int (nomark _)) (pss_cons (ps_set (i := 4) sc_pull.nd rfl (Or.inl rfl) (pe_op op_mod (pe_ix ix_list (pv 0) pe_int (fun _ _ => rfl)) (pv 1)))
      (pss_cons (ps_asg (pe_op op_fdivW (pe_ix ix_list (pv 0) pe_int (fun _ _ => rfl)) (pv 1)) (pg_sub (pv 0) pe_int set_list))
      (pss_one (ps_ret (pv 4))))) pss_nil)
      (pss_cons (ps_set (i := 2) sc_pull.nd rfl (Or.inl rfl) (pe_op op_add (pe_op op_mul (pe_op op_mul (pe_ix ix_list (pv 0) pe_int (fun _ _ => rfl)) (pe_ix ix_list (pv 0) pe_int (fun _ _ => rfl))) pe_int) (pe_op op_mul (pe_ix ix_list (pv 0) pe_int (fun _ _ => rfl)) pe_int)))
      (pss_cons (ps_asg (pe_op op_mod (pe_op op_add (pv 2) (pe_op op_mul pe_int (pe_ix ix_list (pv 0) pe_int (fun _ _ => rfl)))) pe_int) (pg_sub (pv 0) pe_int set_list))
      (pss_one (ps_ret (pe_op op_mod (pe_op op_fdiv (pe_ix ix_list (pv 0) pe_int (fun _ _ => rfl)) pe_int) (pv 1))))))))), ?_⟩
    -- the count of the draws
    have B1 := B.put (j' := j) (c' := c + 1) B.i0 B.i1 B.m0 B.m1
    refine use_ixL rfl (B.hb) (atI_nat (j := 4) rfl) ⟨c, 1, rfl, rfl, .ref b, rfl, b, _, 4, 4, rfl, rfl, B.hb, rfl, ?_⟩
    refine ⟨fun σ H' => ∃ y2 y3 y4, σ = [some (.ref b), some (.int n), y2, y3, y4] ∧ Bag H' b s1 ∧ Keep b H H', ?_, ?_⟩
    · -- the next cell of the script
      refine use_ixL rfl (B1.hb) (atI_nat (j := 2) rfl) ⟨rfl, _, rfl, ite2 (fun e => ?_) (fun e => ?_)⟩
      · refine use_ixL rfl (B1.hb) (atI_nat (j := 1) rfl) (use_ixL rfl (B1.hb) (atI_nat (j := 0) rfl) ⟨s1, _, rfl, .inl (SqL.of B1.hs), i, _, rfl, rfl, _, rfl, ite2 (fun e2 => ?_) (fun e2 => ?_)⟩)
        · have e3 : i < (ns.length : Int) := by
            have := of_decide_eq_true e2
            rw [List.length_map] at this
            exact this
          obtain ⟨z, hz⟩ := at_ex B.i0 e3
          have B2 := B1.put (j' := j) (c' := c + 1) (show 0 ≤ i + 1 by have := B.i0; omega) (show i + 1 ≤ (ns.length : Int) by omega) B.m0 B.m1
          refine use_ixL rfl (B1.hb) (atI_nat (j := 0) rfl) (use_ixL rfl (B1.hb) (atI_nat (j := 1) rfl) ⟨s1, _, i, _, rfl, rfl, SqL.of B1.hs, hz, ?_⟩)
          refine use_ixL rfl (B1.hb) (atI_nat (j := 1) rfl) ⟨i, 1, rfl, rfl, .ref b, rfl, b, _, 1, 1, rfl, rfl, B1.hb, rfl, ?_⟩
          refine ⟨_, rfl, 10, 18, rfl, rfl, ⟨by decide, by decide, by decide⟩, z, _, rfl, rfl, _, rfl, ite2 (fun e4 => ?_) (fun e4 => ?_)⟩
          · have B3 := B2.put (j' := z) (c' := c + 1) (show 0 ≤ i + 1 by have := B.i0; omega) (show i + 1 ≤ (ns.length : Int) by omega) B.m0 B.m1
            refine ⟨_, rfl, .ref b, rfl, b, _, 2, 2, rfl, rfl, B2.hb, rfl, ?_⟩
            exact ⟨_, _, _, rfl, ⟨ns, _, _, _, _, B3⟩, keep_put.trans (keep_put.trans keep_put)⟩
          · refine use_ixL rfl (B2.hb) (atI_nat (j := 3) rfl) ⟨m, 40014, rfl, rfl, .inr ⟨by decide, by decide⟩, _, rfl, z, 2147483399, rfl, rfl, (by show (0 : Int) < 2147483399; decide), _, 69069, rfl, rfl, .inr ⟨by decide, by decide⟩, _, _, rfl, rfl, ?_⟩
            refine ⟨_, rfl, _, 11, rfl, rfl, _, 2147483399, rfl, rfl, (by show (0 : Int) < 2147483399; decide), .ref b, rfl, b, _, 3, 3, rfl, rfl, B2.hb, rfl, ?_⟩
            have B3 := B2.put (j' := j) (m' := (m * 40014 + z % 2147483399 * 69069 + 11) % 2147483399) (c' := c + 1) (show 0 ≤ i + 1 by have := B.i0; omega) (show i + 1 ≤ (ns.length : Int) by omega) (by omega) (by omega)
            exact ⟨_, _, _, rfl, ⟨ns, _, _, _, _, B3⟩, keep_put.trans (keep_put.trans keep_put)⟩
        · exact ⟨_, _, _, rfl, ⟨ns, _, _, _, _, B1⟩, keep_put⟩
      · exact ⟨_, _, _, rfl, ⟨ns, _, _, _, _, B1⟩, keep_put⟩
    · rintro σ H' ⟨y2, y3, y4, rfl, ⟨ns2, i2, j2, m2, c2, B2⟩, k2⟩
      refine use_ixL rfl (B2.hb) (atI_nat (j := 2) rfl) ⟨j2, 0, rfl, rfl, _, rfl, ite2 (fun e => ?_) (fun e => ?_)⟩
      · have B3 := B2.put (j' := j2 / n) (c' := c2) B2.i0 B2.i1 B2.m0 B2.m1
        refine use_ixL rfl (B2.hb) (atI_nat (j := 2) rfl) ⟨.int n, rfl, j2, n, rfl, rfl, h0, ?_⟩
        refine use_ixL rfl (B2.hb) (atI_nat (j := 2) rfl) ⟨.int n, rfl, j2, n, rfl, rfl, wide_div h0 h1 (by decide) (by decide), .ref b, rfl, b, _, 2, 2, rfl, rfl, B2.hb, rfl, ?_⟩
        exact ⟨_, rfl, q _ _ (Int.emod_nonneg _ (by omega)) (Int.emod_lt_of_pos _ h0) ⟨ns2, _, _, _, _, B3⟩ (k2.trans keep_put)⟩
      · have hm : -(2 ^ 64) < m2 ∧ m2 < 2 ^ 64 := ⟨by have := B2.m0; omega, by have := B2.m1; omega⟩
        refine ⟨.ref b, rfl, b, _, 3, .int m2, rfl, rfl, SqL.of B2.hb, atI_nat (j := 3) rfl, .ref b, rfl, b, _, 3, .int m2, rfl, rfl, SqL.of B2.hb, atI_nat (j := 3) rfl, m2, m2, rfl, rfl, .inl hm, _, 7, rfl, rfl, .inr ⟨by decide, by decide⟩,
          .ref b, rfl, b, _, 3, .int m2, rfl, rfl, SqL.of B2.hb, atI_nat (j := 3) rfl, m2, 40692, rfl, rfl, .inr ⟨by decide, by decide⟩, _, _, rfl, rfl, ?_⟩
        refine ⟨_, rfl, use_ixL rfl (B2.hb) (atI_nat (j := 4) rfl) ⟨1013904223, c2, rfl, rfl, .inl ⟨by decide, by decide⟩, _, _, rfl, rfl, _, 2147483399, rfl, rfl, (by show (0 : Int) < 2147483399; decide), .ref b, rfl, b, _, 3, 3, rfl, rfl, B2.hb, rfl, ?_⟩⟩
        have B3 := B2.put (j' := j2) (m' := (m2 * m2 * 7 + m2 * 40692 + 1013904223 * c2) % 2147483399) (c' := c2) B2.i0 B2.i1 (Int.emod_nonneg _ (by decide)) (Int.emod_lt_of_pos _ (by decide))
        refine use_ixL rfl (B3.hb) (atI_nat (j := 3) rfl) ⟨_, 37, rfl, rfl, ⟨by decide, by decide⟩, .int n, rfl, _, n, rfl, rfl, h0, ?_⟩
        exact q _ _ (Int.emod_nonneg _ (by omega)) (Int.emod_lt_of_pos _ h0) ⟨ns2, _, _, _, _, B3⟩ (k2.trans keep_put)
def spOf : Sp := fun vs H Q _ => ∃ (b sb l : Addr) (xs : List V), vs = [.ref b, .ref l] ∧ Bag H b sb ∧ H l = some (.lst xs) ∧ l ≠ b ∧ 0 < xs.length ∧ xs.length ≤ 1000 ∧ ∀ (i : Nat) (v : V) (H' : Hp), xs[i]? = some v → Bag H' b sb → Keep b H H' → Q v H'
theorem ok_of (T : Txt K mg) : FnOk P w K mg base CX0 2 T.f_of T.d_of ["_law_bag", "_law_some"] spOf := by
  refine T.F_of.ok sc_of (fun vs H Q E h => ?_) (fun cdv A outer s H vs Q E hr h => ?_)
  · obtain ⟨b, sb, l, xs, rfl, _⟩ := h
    rfl
  · obtain ⟨b, sb, l, xs, rfl, B, hl, nl, h0, h1, q⟩ := h
    refine ⟨_, (pss_one (ps_ret (pe_ix ix_list (pv 1) (pe_call (ok_pull T) (hr.mono (by decide)) (by rfl) T.g_pull T.F_pull.kp T.b_pull .nil pass0 (pa_cons (pv 0) (pa_cons (pe_callB call_len_seq (by rfl) T.n_len (by decide +kernel) (pa_cons (pv 1) pa_nil)) pa_nil))) (fun _ _ => rfl)))), ?_⟩
    have hn : ((xs.length : Int)).natAbs < 2 ^ 100 := Nat.lt_of_le_of_lt (show (xs.length : Int).natAbs ≤ 1000 by omega) (by decide)
    refine ⟨.ref l, rfl, .ref b, rfl, .ref l, rfl, l, xs, rfl, .inl (SqL.of hl), b, sb, _, rfl, B, (by show (0 : Int) < (xs.length : Int); omega), hn, fun z H' z0 z1 B' k' => ?_⟩
    obtain ⟨v, e1, e2⟩ := at_some z0 z1
    exact ⟨l, xs, z, v, rfl, rfl, k'.list nl hl, e2, q _ _ _ e1 B' k'⟩
end
section
variable {base : Heap} {K : PySem.W.Frag} {mg : Str → Option Value} {P : Program} {w : World}
def okR (x : Int) : Bool := !inV (.int x) [.int 4, .int 9, .int 16, .int 25, .int 36, .int 49, .int 64, .int 81]
def rootsTo : Nat → List Int
  | 0 => []
  | n + 1 => if okR (2 + (n : Int)) = true then rootsTo n ++ [2 + (n : Int)] else rootsTo n
theorem rootsTo_len : ∀ n, (rootsTo n).length ≤ n
  | 0 => Nat.le_refl _
  | n + 1 => by
    have := rootsTo_len n
    unfold rootsTo
    split
    · rw [List.length_append]
      simp
      omega
    · omega
def IsRoot (d : Int) : Prop := 2 ≤ d ∧ d ≤ 99 ∧ ∃ k : Int, 0 ≤ k ∧ k * k < d ∧ d < (k + 1) * (k + 1)
def kOf (d : Int) : Int := if d < 4 then 1 else if d < 9 then 2 else if d < 16 then 3 else if d < 25 then 4 else if d < 36 then 5 else if d < 49 then 6 else if d < 64 then 7 else if d < 81 then 8 else 9
theorem roots_are {d : Int} (h : d ∈ rootsTo 98) : IsRoot d := by
  have z : ∀ d ∈ rootsTo 98, 2 ≤ d ∧ d ≤ 99 ∧ 0 ≤ kOf d ∧ kOf d * kOf d < d ∧ d < (kOf d + 1) * (kOf d + 1) := by decide +kernel
  obtain ⟨a, b, c⟩ := z d h
  exact ⟨a, b, kOf d, c⟩
theorem isRoot_by {d : Int} (h : 2 ≤ d ∧ d ≤ 99 ∧ 0 ≤ kOf d ∧ kOf d * kOf d < d ∧ d < (kOf d + 1) * (kOf d + 1)) : IsRoot d := ⟨h.1, h.2.1, kOf d, h.2.2⟩
def spRoots : Sp := fun vs H Q _ => vs = [] ∧ ∀ p H', H p = none → Same H H' → H' p = some (.lst ((rootsTo 98).map V.int)) → Q (.ref p) H'
theorem ok_roots (T : Txt K mg) : FnOk P w K mg base CX0 1 T.f_roots T.d_roots [] spRoots := by
  refine T.F_roots.ok sc_roots (fun vs H Q E h => ?_) (fun cdv A outer s H vs Q E hr h => ?_)
  · obtain ⟨rfl, _⟩ := h
    rfl
  · obtain ⟨rfl, q⟩ := h
    refine ⟨_, (pss_one (ps_ret (pe_lc (own := [("_law_d", 0)]) (g := (gName 0)) (tt := tTest (tOp (rIn K true) _ _)) (by rfl) sc_roots.nd (pi_range2 (by rfl) T.n_range (pa_cons pe_int (pa_cons pe_int pa_nil))) (blkOk_by (own := [("_law_d", 0)]) (N := ["_law_d"]) (sc := defScope s_roots) (by decide +kernel)) (fun _ _ _ _ _ => (pg_name (i := 0) sc_roots.nd rfl (Or.inl rfl))) (fun _ _ _ _ _ => (pts_one (pt_cmpR op_notIn_seq (pv 0) (pe_tup (pa_cons pe_int (pa_cons pe_int (pa_cons pe_int (pa_cons pe_int (pa_cons pe_int (pa_cons pe_int (pa_cons pe_int (pa_cons pe_int pa_nil))))))))) (by rfl)))) (fun _ _ _ _ _ => (pv 0))))), ?_⟩
    refine ⟨2, 100, rfl, ⟨by decide, by decide, by decide, by decide⟩, fun D hD => ?_⟩
    refine lc_range (lo := 2) (n := 98) (fun i H' => Same H H' ∧ H' D = some (.lst ((rootsTo i).map V.int))) ⟨same_new hD, upd_same⟩ ?_ ?_
    · rintro i H' hi ⟨sm, hd⟩
      refine ⟨rfl, _, rfl, (by show 8 ≤ sizeLine; decide), fun t ht => ?_⟩
      refine ⟨t, _, rfl, .inr (SqT.of upd_same), rfl, rfl, _, rfl, ?_⟩
      have hd2 : (upd H' t (.tup [.int 4, .int 9, .int 16, .int 25, .int 36, .int 49, .int 64, .int 81])) D = some (.lst ((rootsTo i).map V.int)) := (upd_ne (ne_of_none hd ht)).trans hd
      refine ite2 (fun e => ?_) (fun e => ?_)
      · refine ⟨_, rfl, _, hd2, ?_, ?_, ?_⟩
        · rw [List.length_map]
          have := rootsTo_len i
          exact small1000 (by omega)
        · exact fun a o z => (upd_ne (ne_of_none z hD)).trans ((sm.trans (same_new ht)) a o z)
        · rw [upd_same]
          have e' : okR (2 + (i : Int)) = true := e
          rw [show rootsTo (i + 1) = rootsTo i ++ [2 + (i : Int)] by
            show (if okR (2 + (i : Int)) = true then rootsTo i ++ [2 + (i : Int)] else rootsTo i) = _
            rw [if_pos e'], List.map_append]
          rfl
      · refine ⟨sm.trans (same_new ht), ?_⟩
        have e' : ¬ okR (2 + (i : Int)) = true := e
        rw [show rootsTo (i + 1) = rootsTo i by
          show (if okR (2 + (i : Int)) = true then rootsTo i ++ [2 + (i : Int)] else rootsTo i) = _
          rw [if_neg e']]
        exact hd2
    · rintro H' ⟨sm, hd⟩
      exact q D H' hD sm hd
end
section
variable {base : Heap} {K : PySem.W.Frag} {mg : Str → Option Value} {P : Program} {w : World}
def spARoot : Sp := fun vs H Q _ => ∃ b sb : Addr, vs = [.ref b] ∧ Bag H b sb ∧ ∀ d H', IsRoot d → Bag H' b sb → Keep b H H' → Q (.int d) H'
theorem root_in {i : Nat} {v : V} (h : ((rootsTo 98).map V.int)[i]? = some v) : ∃ d, v = .int d ∧ IsRoot d := by
  rw [List.getElem?_map] at h
  cases e : (rootsTo 98)[i]? with
  | none =>
    rw [e] at h
    cases h
  | some d =>
    rw [e] at h
    exact ⟨d, (Option.some.inj h).symm, roots_are (List.mem_of_getElem? e)⟩
theorem ok_a_root (T : Txt K mg) : FnOk P w K mg base CX0 3 T.f_a_root T.d_a_root ["_law_bag"] spARoot := by
  refine T.F_a_root.ok sc_a_root (fun vs H Q E h => ?_) (fun cdv A outer s H vs Q E hr h => ?_)
  · obtain ⟨b, sb, rfl, _⟩ := h
    rfl
  · obtain ⟨b, sb, rfl, B, q⟩ := h
    refine ⟨_, (pss_one (ps_ret (pe_call (ok_of T) (hr.mono (by decide)) (by rfl) T.g_of T.F_of.kp T.b_of .nil pass0 (pa_cons (pv 0) (pa_cons (pe_lst (pa_cons pe_int (pa_cons pe_int (pa_cons pe_int (pa_cons pe_int (pa_cons (pe_call (ok_of T) (hr.mono (by decide)) (by rfl) T.g_of T.F_of.kp T.b_of .nil pass0 (pa_cons (pv 0) (pa_cons (pe_call0 (ok_roots T) (hr.mono (by decide)) (by rfl) T.g_roots T.F_roots.kp T.b_roots .nil pass0) pa_nil))) (pa_cons (pe_call (ok_of T) (hr.mono (by decide)) (by rfl) T.g_of T.F_of.kp T.b_of .nil pass0 (pa_cons (pv 0) (pa_cons (pe_call0 (ok_roots T) (hr.mono (by decide)) (by rfl) T.g_roots T.F_roots.kp T.b_roots .nil pass0) pa_nil))) pa_nil))))))) pa_nil))))), ?_⟩
    have hz : ((rootsTo 98).map V.int).length = 90 := by decide +kernel
    refine ⟨.ref b, rfl, .ref b, rfl, rfl, fun p H1 hp s1 h1 => ?_⟩
    refine ⟨b, sb, p, _, rfl, B.same s1, h1, B.ne hp, by omega, by omega, fun i v H2 hv B2 k2 => ?_⟩
    obtain ⟨r1, rfl, i1⟩ := root_in hv
    refine ⟨.ref b, rfl, rfl, fun p' H3 hp' s3 h3 => ?_⟩
    refine ⟨b, sb, p', _, rfl, B2.same s3, h3, B2.ne hp', by omega, by omega, fun i' v' H4 hv' B4 k4 => ?_⟩
    obtain ⟨r2, rfl, i2⟩ := root_in hv'
    refine ⟨(by show 6 ≤ sizeLine; decide), fun l hl => ?_⟩
    refine ⟨b, sb, l, _, rfl, B4.new hl, upd_same, B4.ne hl, by simp, by simp, fun i v H5 hv B5 k5 => ?_⟩
    have kk : Keep b H H5 := (keep_of s1).trans (k2.trans ((keep_of s3).trans (k4.trans ((keep_new hl).trans k5))))
    match i, hv with
    | 0, hv => cases hv; exact q 2 H5 (isRoot_by (by decide)) B5 kk
    | 1, hv => cases hv; exact q 3 H5 (isRoot_by (by decide)) B5 kk
    | 2, hv => cases hv; exact q 5 H5 (isRoot_by (by decide)) B5 kk
    | 3, hv => cases hv; exact q 99 H5 (isRoot_by (by decide)) B5 kk
    | 4, hv => cases hv; exact q r1 H5 i1 B5 kk
    | 5, hv => cases hv; exact q r2 H5 i2 B5 kk
    | n + 6, hv => simp at hv
end
section
variable {base : Heap} {K : PySem.W.Frag} {mg : Str → Option Value} {P : Program} {w : World}
def spAnyPair : Sp := fun vs H Q _ => ∃ b sb : Addr, vs = [.ref b] ∧ Bag H b sb ∧ ∀ x y p H', -(10 ^ 6) ≤ x → x ≤ 10 ^ 6 → -(10 ^ 6) ≤ y → y ≤ 10 ^ 6 → H p = none → H' p = some (.tup [.int x, .int y]) → Bag H' b sb → Keep b H H' → Q (.ref p) H'
theorem ok_any_pair (T : Txt K mg) : FnOk P w K mg base CX0 3 T.f_any_pair T.d_any_pair ["_law_bag"] spAnyPair := by
  refine T.F_any_pair.ok sc_any_pair (fun vs H Q E h => ?_) (fun cdv A outer s H vs Q E hr h => ?_)
  · obtain ⟨b, sb, rfl, _⟩ := h
    rfl
  · obtain ⟨b, sb, rfl, B, q⟩ := h
    refine ⟨_, (pss_cons (ps_set (i := 1) sc_any_pair.nd rfl (Or.inl rfl) (pe_call (ok_of T) (hr.mono (by decide)) (by rfl) T.g_of T.F_of.kp T.b_of .nil pass0 (pa_cons (pv 0) (pa_cons (pe_lst (pa_cons pe_int (pa_cons pe_int (pa_cons pe_int (pa_cons pe_int (pa_cons (pe_op op_pow pe_int pe_int) pa_nil)))))) pa_nil))))
      (pss_one (ps_ret (pe_tup (pa_cons (pe_op op_sub (pe_call (ok_pull T) (hr.mono (by decide)) (by rfl) T.g_pull T.F_pull.kp T.b_pull .nil pass0 (pa_cons (pv 0) (pa_cons (pe_op op_add (pe_op op_mul pe_int (pv 1)) pe_int) pa_nil))) (pv 1)) (pa_cons (pe_op op_sub (pe_call (ok_pull T) (hr.mono (by decide)) (by rfl) T.g_pull T.F_pull.kp T.b_pull .nil pass0 (pa_cons (pv 0) (pa_cons (pe_op op_add (pe_op op_mul pe_int (pv 1)) pe_int) pa_nil))) (pv 1)) pa_nil)))))), ?_⟩
    refine ⟨.ref b, rfl, 10, 6, rfl, rfl, ⟨by decide, by decide, by decide⟩, (by show 5 ≤ sizeLine; decide), fun l hl => ?_⟩
    refine ⟨b, sb, l, _, rfl, B.new hl, upd_same, B.ne hl, by decide, by decide, fun i v H1 hv B1 k1 => ?_⟩
    obtain ⟨n, rfl, n0, n1⟩ : ∃ n : Int, v = .int n ∧ 1 ≤ n ∧ n ≤ 10 ^ 6 := by
      match i, hv with
      | 0, hv => cases hv; exact ⟨2, rfl, by decide, by decide⟩
      | 1, hv => cases hv; exact ⟨5, rfl, by decide, by decide⟩
      | 2, hv => cases hv; exact ⟨9, rfl, by decide, by decide⟩
      | 3, hv => cases hv; exact ⟨30, rfl, by decide, by decide⟩
      | 4, hv => cases hv; exact ⟨10 ^ 6, rfl, by decide, by decide⟩
      | n + 5, hv => simp at hv
    have hn : (2 * n + 1).natAbs < 2 ^ 100 := Nat.lt_of_le_of_lt (show (2 * n + 1).natAbs ≤ 2000001 by omega) (by decide)
    refine ⟨.ref b, rfl, _, rfl, 2, n, rfl, rfl, .inl ⟨by decide, by decide⟩, _, 1, rfl, rfl, b, sb, _, rfl, B1, (show (0 : Int) < 2 * n + 1 by omega), hn, fun z H2 z0 z1 B2 k2 => ?_⟩
    refine ⟨_, rfl, z, n, rfl, rfl, .ref b, rfl, _, rfl, 2, n, rfl, rfl, .inl ⟨by decide, by decide⟩, _, 1, rfl, rfl, b, sb, _, rfl, B2, (show (0 : Int) < 2 * n + 1 by omega), hn, fun z' H3 z0' z1' B3 k3 => ?_⟩
    refine ⟨_, rfl, z', n, rfl, rfl, (by show 2 ≤ sizeLine; decide), fun p hp => ?_⟩
    have kk : Keep b H H3 := (keep_new hl).trans (k1.trans (k2.trans k3))
    have hpn : H p = none := by
      cases e : H p with
      | none => rfl
      | some o => exact absurd (kk p o (B3.ne hp) e) (by rw [hp]; simp)
    exact q _ _ p _ (by omega) (by omega) (by omega) (by omega) hpn upd_same (B3.new hp) (kk.trans (keep_new hp))
end
section
variable {base : Heap} {K : PySem.W.Frag} {mg : Str → Option Value} {P : Program} {w : World}
def spSource (K : PySem.W.Frag) : Sp := fun vs H Q _ => ∃ (a : Addr) (ns : List Int), vs = [.ref a] ∧ SqL K H a (ns.map V.int) ∧ ns.length ≤ 63 ∧ ∀ b sb H', H b = none → Same H H' → Bag H' b sb → Q (.ref b) H'
theorem ok_source (T : Txt K mg) : FnOk P w K mg base CX0 1 T.f_source T.d_source ["_law_script"] (spSource K) := by
  refine T.F_source.ok sc_source (fun vs H Q E h => ?_) (fun cdv A outer s H vs Q E hr h => ?_)
  · obtain ⟨a, ns, rfl, _⟩ := h
    rfl
  · obtain ⟨a, ns, rfl, hS, hlen, q⟩ := h
    refine ⟨_, (pss_cons (ps_set (i := 1) sc_source.nd rfl (Or.inl rfl) pe_int)
      (pss_cons (ps_for PassesOwn.never rfl (pi_list (pe_slice sl_list (pv 0) po_none (po_some pe_int))) (pg_name (i := 2) sc_source.nd rfl (Or.inl rfl)) (pss_one (ps_set (i := 1) sc_source.nd rfl (Or.inl rfl) (pe_op op_mod (pe_op op_add (pe_op op_add (pe_op op_mul (pv 1) pe_int) (pe_op op_mod (pv 2) pe_int)) pe_int) pe_int))))
      (pss_one (ps_ret (pe_lst (pa_cons (pe_callTy call_list_of (by rfl) T.n_list (by decide +kernel) (pa_cons (pe_slice sl_list (pv 0) po_none (po_some pe_int)) pa_nil)) (pa_cons pe_int (pa_cons pe_int (pa_cons (pv 1) (pa_cons pe_int pa_nil)))))))))), ?_⟩
    have hcut : cutV (ns.map V.int) none (some 63) = ns.map V.int := by
      unfold cutV
      rw [HT.sIx_none, show HT.sIx (ns.map V.int).length (ns.map V.int).length (some 63) = min 63 (ns.map V.int).length from HT.sIx_nat _ _ 63]
      rw [List.drop_zero, List.length_map, Nat.sub_zero, Nat.min_eq_right hlen]
      exact List.take_of_length_le (by rw [List.length_map]; exact Nat.le_refl _)
    refine ⟨.ref a, rfl, 63, rfl, a, _, rfl, hS, fun p hp => ?_⟩
    rw [hcut]
    refine ⟨p, rfl, ⟨_, SqL.of upd_same⟩, for_list (K := K) (a := p) (xs := ns.map V.int) (fun i σ H2 => ∃ (m : Int) (y : Option V), σ = [some (.ref a), some (.int m), y] ∧ 0 ≤ m ∧ m < 2147483399 ∧ H2 = upd H p (.lst (ns.map V.int)))
      ⟨3812, none, rfl, by decide, by decide, rfl⟩ (fun i σ H2 _ ⟨_, _, _, _, _, e⟩ => by rw [e]; exact SqL.of upd_same) ?_ ?_⟩
    · rintro i x σ H2 hx ⟨m, y, rfl, m0, m1, rfl⟩
      obtain ⟨z, rfl⟩ : ∃ z, x = V.int z := by
        rw [List.getElem?_map] at hx
        cases e : ns[i]? with
        | none =>
          rw [e] at hx
          cases hx
        | some z =>
          rw [e] at hx
          exact ⟨z, (Option.some.inj hx).symm⟩
      refine ⟨_, rfl, m, 40692, rfl, rfl, .inr ⟨by decide, by decide⟩, _, rfl, z, 2147483399, rfl, rfl, (by show (0 : Int) < 2147483399; decide), _, _, rfl, rfl, _, 17, rfl, rfl, _, 2147483399, rfl, rfl, (by show (0 : Int) < 2147483399; decide), ?_⟩
      exact ⟨_, _, rfl, Int.emod_nonneg _ (by decide), Int.emod_lt_of_pos _ (by decide), rfl⟩
    · rintro σ H2 ⟨m, y, rfl, m0, m1, rfl⟩
      have hS2 : SqL K (upd H p (.lst (ns.map V.int))) a (ns.map V.int) := (same_new hp).seq hS
      refine ⟨.ref a, rfl, 63, rfl, a, _, rfl, hS2, fun p2 hp2 => ?_⟩
      rw [hcut]
      refine ⟨p2, _, rfl, .inl (SqL.of upd_same), fun l hl => ?_⟩
      refine ⟨_, rfl, (by show 5 ≤ sizeLine; decide), fun b hb => ?_⟩
      have sm : Same H (upd (upd (upd (upd H p (.lst (ns.map V.int))) p2 (.lst (ns.map V.int))) l (.lst (ns.map V.int))) b (.lst [.ref l, .int 0, .int 0, .int m, .int 0])) := (same_new hp).trans ((same_new hp2).trans ((same_new hl).trans (same_new hb)))
      exact q b l _ (((same_new hp).trans ((same_new hp2).trans (same_new hl))).free hb) sm ⟨ns, 0, 0, m, 0, upd_same, same_new hb _ _ upd_same, Int.le_refl _, by omega, m0, m1⟩
end
/-! ### like -/
def Flat (x y : V) : Prop := (∃ i, x = .int i ∧ y = .int i) ∨ (∃ b, x = .bl b ∧ y = .bl b) ∨ (x = .non ∧ y = .non) ∨ (∃ t, x = .str t ∧ y = .str t)
def Two (H : Hp) (p q : Addr) (xs ys : List V) : Prop := (H p = some (.tup xs) ∧ H q = some (.tup ys)) ∨ (H p = some (.lst xs) ∧ H q = some (.lst ys))
def Lk (H : Hp) : Nat → V → V → Prop
  | 0, x, y => Flat x y
  | n + 1, x, y => Flat x y ∨ ∃ (p q : Addr) (xs ys : List V), x = .ref p ∧ y = .ref q ∧ Two H p q xs ys ∧ xs.length = ys.length ∧ xs.length ≤ 1000 ∧ ∀ (i : Nat) (x y : V), xs[i]? = some x → ys[i]? = some y → Lk H n x y
theorem Two.same {H H' : Hp} {p q : Addr} {xs ys : List V} (h : Two H p q xs ys) (s : Same H H') : Two H' p q xs ys := by
  rcases h with ⟨a, b⟩ | ⟨a, b⟩
  · exact .inl ⟨s _ _ a, s _ _ b⟩
  · exact .inr ⟨s _ _ a, s _ _ b⟩
theorem Lk.same {H H' : Hp} (s : Same H H') : ∀ {n : Nat} {x y : V}, Lk H n x y → Lk H' n x y
  | 0, _, _, h => h
  | n + 1, _, _, h => by
    rcases h with h | ⟨p, q, xs, ys, e1, e2, t, l1, l2, a⟩
    · exact .inl h
    · exact .inr ⟨p, q, xs, ys, e1, e2, t.same s, l1, l2, fun i x y h1 h2 => (a i x y h1 h2).same s⟩
theorem Lk.flat {H : Hp} {n : Nat} {x y : V} (h : Flat x y) : Lk H n x y := match n with
  | 0 => h
  | _ + 1 => .inl h
section
variable {base : Heap} {K : PySem.W.Frag} {mg : Str → Option Value} {P : Program} {w : World}
def spLL (L : V → V → Hp → Prop) : Sp := fun vs H Q _ => ∃ x y : V, vs = [x, y] ∧ L x y H ∧ ∀ H', Same H H' → Q (.bl true) H'
theorem kit2 {a : String} {r1 r2 : Bool} (h1 : kitB a "tuple" = some r1) (h2 : kitB a "list" = some r2) : PySem.W.kitAny K (.type a) [.type "tuple", .type "list"] = some (r1 || r2) := by
  refine kitAny_cons (kit_ty h1) (fun e => ?_) (fun e => by rw [e]; rfl)
  subst e
  exact kitAny_cons (kit_ty h2) (fun e => by rw [e]; exact kitAny_nil) (fun e => by rw [e]; rfl)
theorem lk_core (T : Txt K mg) {k : Nat} {L L' : V → V → Hp → Prop} (G : FnOk P w K mg base CX0 k T.f_like T.d_like ["_law_found", "_law_due"] (spLL L')) (hs : ∀ x y H H', Same H H' → L' x y H → L' x y H')
    (hne : ∀ x y H, L x y H → Flat x y ∨ ∃ (p q : Addr) (xs ys : List V), x = .ref p ∧ y = .ref q ∧ Two H p q xs ys ∧ xs.length = ys.length ∧ xs.length ≤ 1000 ∧ ∀ (i : Nat) (x y : V), xs[i]? = some x → ys[i]? = some y → L' x y H) :
    FnOk P w K mg base CX0 (k + 1) T.f_like T.d_like ["_law_found", "_law_due"] (spLL L) := by
  refine T.F_like.ok sc_like (fun vs H Q E h => ?_) (fun cdv A outer s H vs Q E hr h => ?_)
  · obtain ⟨x, y, rfl, _⟩ := h
    rfl
  · obtain ⟨x, y, rfl, hl, qq⟩ := h
    refine ⟨_, (pss_cons (ps_if (pt_val (pe_callB call_isiT (by rfl) T.n_isinstance (by decide +kernel) (pa_cons (pv 1) (pa_cons (pe_tup (pa_cons (pe_bltn (v := .ty "tuple") (by rfl) T.n_tuple (by decide +kernel) rfl) (pa_cons (pe_bltn (v := .ty "list") (by rfl) T.n_list (by decide +kernel) rfl) pa_nil))) pa_nil)))) (pss_cons (ps_if (PW.pt (pw_or (pt_cmpR op_ne (pe_callB call_isi (by rfl) T.n_isinstance (by decide +kernel) (pa_cons (pv 0) (pa_cons (pe_bltn (v := .ty "tuple") (by rfl) T.n_tuple (by decide +kernel) rfl) pa_nil))) (pe_callB call_isi (by rfl) T.n_isinstance (by decide +kernel) (pa_cons (pv 1) (pa_cons (pe_bltn (v := .ty "tuple") (by rfl) T.n_tuple (by decide +kernel) rfl) pa_nil))) (nomark _)) (pw_or1 (pt_cmpR op_ne (pe_callB call_isi (by rfl) T.n_isinstance (by decide +kernel) (pa_cons (pv 0) (pa_cons (pe_bltn (v := .ty "list") (by rfl) T.n_list (by decide +kernel) rfl) pa_nil))) (pe_callB call_isi (by rfl) T.n_isinstance (by decide +kernel) (pa_cons (pv 1) (pa_cons (pe_bltn (v := .ty "list") (by rfl) T.n_list (by decide +kernel) rfl) pa_nil))) (nomark _))))) (pss_one (ps_ret pe_bl)) pss_nil)
      (pss_one (ps_ret (pe_and (pe_cmpR op_eq (pe_callB call_len_seq (by rfl) T.n_len (by decide +kernel) (pa_cons (pv 0) pa_nil)) (pe_callB call_len_seq (by rfl) T.n_len (by decide +kernel) (pa_cons (pv 1) pa_nil)) (nomark _)) (pe_one (pe_callB (cr_all rfl) (by rfl) T.n_all (by decide +kernel) (pa_cons (pe_lc (own := [("_law_k", 2)]) (g := (gName 2)) (tt := tYes) (te := tCall (spLL L') [] E0 (tCons (tOp (rIx K) _ _) (tCons (tOp (rIx K) _ _) _))) (by rfl) sc_like.nd (pi_range1 (by rfl) T.n_range (pa_cons (pe_callB call_len_seq (by rfl) T.n_len (by decide +kernel) (pa_cons (pv 1) pa_nil)) pa_nil)) (blkOk_by (own := [("_law_k", 2)]) (N := ["_law_found", "_law_due", "_law_k"]) (sc := defScope s_like) (by decide +kernel)) (fun _ _ _ _ _ => (pg_name (i := 2) sc_like.nd rfl (Or.inl rfl))) (fun _ _ _ _ _ => pts_nil) (fun _ _ _ _ _ => (pe_call G hr (by rfl) T.g_like T.F_like.kp T.b_like .nil pass0 (pa_cons (pe_ix ix_seq (pv 0) (pv 2) (fun _ _ => rfl)) (pa_cons (pe_ix ix_seq (pv 1) (pv 2) (fun _ _ => rfl)) pa_nil))))) pa_nil))))))) pss_nil)
      (pss_cons (ps_if (PW.pt (pw_or (pt_cmpR op_isN (pv 1) pe_non (nomark _)) (pw_or1 (pt_cmpR op_isN (pv 0) pe_non (nomark _))))) (pss_one (ps_ret (pe_and (pe_cmpR op_isN (pv 1) pe_non (nomark _)) (pe_one (pe_cmpR op_isN (pv 0) pe_non (nomark _)))))) pss_nil)
      (pss_one (ps_ret (pe_and (pe_cmpR op_eq (pe_callB call_isi (by rfl) T.n_isinstance (by decide +kernel) (pa_cons (pv 0) (pa_cons (pe_bltn (v := .ty "bool") (by rfl) T.n_bool (by decide +kernel) rfl) pa_nil))) (pe_callB call_isi (by rfl) T.n_isinstance (by decide +kernel) (pa_cons (pv 1) (pa_cons (pe_bltn (v := .ty "bool") (by rfl) T.n_bool (by decide +kernel) rfl) pa_nil))) (nomark _)) (pe_one (pe_cmpR op_eq (pv 0) (pv 1) (nomark _)))))))), ?_⟩
    refine ⟨_, rfl, by show 2 ≤ sizeLine; decide, fun tp htp => ?_⟩
    have sm := same_new (o := .tup [.ty "tuple", .ty "list"]) htp
    rcases hne x y H hl with (⟨i, rfl, rfl⟩ | ⟨b, rfl, rfl⟩ | ⟨rfl, rfl⟩ | ⟨i, rfl, rfl⟩) | ⟨p, q, xs, ys, rfl, rfl, hT, l1, l2, hA⟩
    · refine ⟨.int i, tp, [.ty "tuple", .ty "list"], .type "int", [.type "tuple", .type "list"], (false || false), rfl, upd_same, .cons (ClsV.ty _) (.cons (ClsV.ty _) .nil), TyX.base (TyOf.int _), kit2 (by decide +kernel) (by decide +kernel), _, rfl, iteF ?_⟩
      refine ⟨_, rfl, rfl, _, rfl, iteF ?_⟩
      refine ⟨_, rfl, rfl, _, rfl, iteF ?_⟩
      refine ⟨_, rfl, .int i, .ty "bool", _, _, false, rfl, ClsV.ty _, TyX.base (TyOf.int _), kit_ty (by decide +kernel), _, rfl, .int i, .ty "bool", _, _, false, rfl, ClsV.ty _, TyX.base (TyOf.int _), kit_ty (by decide +kernel), rfl, true, rfl, iteT ?_⟩
      refine ⟨_, rfl, _, rfl, rfl, ?_⟩
      rw [decide_eq_true rfl]
      exact qq _ sm
    · refine ⟨.bl b, tp, [.ty "tuple", .ty "list"], .type "bool", [.type "tuple", .type "list"], (false || false), rfl, upd_same, .cons (ClsV.ty _) (.cons (ClsV.ty _) .nil), TyX.base (TyOf.bl _), kit2 (by decide +kernel) (by decide +kernel), _, rfl, iteF ?_⟩
      refine ⟨_, rfl, rfl, _, rfl, iteF ?_⟩
      refine ⟨_, rfl, rfl, _, rfl, iteF ?_⟩
      refine ⟨_, rfl, .bl b, .ty "bool", _, _, true, rfl, ClsV.ty _, TyX.base (TyOf.bl _), kit_ty (by decide +kernel), _, rfl, .bl b, .ty "bool", _, _, true, rfl, ClsV.ty _, TyX.base (TyOf.bl _), kit_ty (by decide +kernel), rfl, true, rfl, iteT ?_⟩
      refine ⟨_, rfl, _, rfl, rfl, ?_⟩
      rw [decide_eq_true rfl]
      exact qq _ sm
    · refine ⟨.non, tp, [.ty "tuple", .ty "list"], .type "NoneType", [.type "tuple", .type "list"], (false || false), rfl, upd_same, .cons (ClsV.ty _) (.cons (ClsV.ty _) .nil), TyX.base TyOf.non, kit2 (by decide +kernel) (by decide +kernel), _, rfl, iteF ?_⟩
      refine ⟨_, rfl, rfl, _, rfl, iteT ?_⟩
      exact ⟨_, rfl, rfl, true, rfl, iteT ⟨_, rfl, rfl, qq _ sm⟩⟩
    · refine ⟨.str i, tp, [.ty "tuple", .ty "list"], .type "str", [.type "tuple", .type "list"], (false || false), rfl, upd_same, .cons (ClsV.ty _) (.cons (ClsV.ty _) .nil), TyX.base (TyOf.str _), kit2 (by decide +kernel) (by decide +kernel), _, rfl, iteF ?_⟩
      refine ⟨_, rfl, rfl, _, rfl, iteF ?_⟩
      refine ⟨_, rfl, rfl, _, rfl, iteF ?_⟩
      refine ⟨_, rfl, .str i, .ty "bool", _, _, false, rfl, ClsV.ty _, TyX.base (TyOf.str _), kit_ty (by decide +kernel), _, rfl, .str i, .ty "bool", _, _, false, rfl, ClsV.ty _, TyX.base (TyOf.str _), kit_ty (by decide +kernel), rfl, true, rfl, iteT ?_⟩
      refine ⟨_, rfl, _, rfl, rfl, ?_⟩
      rw [decide_eq_true rfl]
      exact qq _ sm
    · have hT' := hT.same sm
      rcases hT' with ⟨hp, hq⟩ | ⟨hp, hq⟩
      · refine ⟨.ref q, tp, [.ty "tuple", .ty "list"], .type "tuple", [.type "tuple", .type "list"], (true || false), rfl, upd_same, .cons (ClsV.ty _) (.cons (ClsV.ty _) .nil), TyX.base (TyOf.tup hq), kit2 (by decide +kernel) (by decide +kernel), _, rfl, iteT ?_⟩
        refine ⟨_, rfl, .ref p, .ty "tuple", _, _, true, rfl, ClsV.ty _, TyX.base (TyOf.tup hp), kit_ty (by decide +kernel), _, rfl, .ref q, .ty "tuple", _, _, true, rfl, ClsV.ty _, TyX.base (TyOf.tup hq), kit_ty (by decide +kernel), rfl, _, rfl, iteF ?_⟩
        refine ⟨_, rfl, .ref p, .ty "list", _, _, false, rfl, ClsV.ty _, TyX.base (TyOf.tup hp), kit_ty (by decide +kernel), _, rfl, .ref q, .ty "list", _, _, false, rfl, ClsV.ty _, TyX.base (TyOf.tup hq), kit_ty (by decide +kernel), rfl, _, rfl, iteF ?_⟩
        refine ⟨_, rfl, p, xs, rfl, .inr (SqT.of hp), _, rfl, q, ys, rfl, .inr (SqT.of hq), rfl, true, (by rw [l1, decide_eq_true rfl]), iteT ?_⟩
        refine ⟨_, rfl, q, ys, rfl, .inr (SqT.of hq), _, rfl, (by omega), (by omega), fun D hD => ?_⟩
        refine lc_range (lo := 0) (n := ys.length) (fun i H' => Same H H' ∧ H' D = some (.lst ((List.replicate i true).map V.bl))) ⟨sm.trans (same_new hD), upd_same⟩ ?_ ?_
        · rintro i H' hi ⟨sm', hd⟩
          obtain ⟨x1, e1, f1⟩ := at_some (xs := xs) (show 0 ≤ (0 : Int) + (i : Int) by omega) (by omega)
          obtain ⟨y1, e2, f2⟩ := at_some (xs := ys) (show 0 ≤ (0 : Int) + (i : Int) by omega) (by omega)
          rcases hT with ⟨hp0, hq0⟩ | ⟨hp0, hq0⟩
          · refine ⟨rfl, ⟨_, rfl, _, rfl, .inr (.inl ⟨p, xs, _, x1, rfl, rfl, SqT.of (sm' _ _ hp0), f1, _, rfl, _, rfl, .inr (.inl ⟨q, ys, _, y1, rfl, rfl, SqT.of (sm' _ _ hq0), f2, x1, y1, rfl, hs _ _ _ _ sm' (hA _ _ _ e1 e2), fun H2 s2 => ?_⟩)⟩)⟩⟩
            refine ⟨_, s2 _ _ hd, ?_, ?_, ?_⟩
            · rw [List.length_map, List.length_replicate]
              exact small1000 (by omega)
            · exact fun a o z => (upd_ne (ne_of_none z (sm.free hD))).trans (s2 _ _ (sm' a o z))
            · rw [upd_same, List.replicate_succ', List.map_append]
              rfl
          · exact absurd (sm _ _ hp0) (by rw [hp]; simp)
        · rintro H' ⟨sm', hd⟩
          refine ⟨D, _, rfl, SqL.of hd, ?_⟩
          rw [show (List.replicate ys.length true).all id = true by simp]
          exact qq _ sm'
      · refine ⟨.ref q, tp, [.ty "tuple", .ty "list"], .type "list", [.type "tuple", .type "list"], (false || true), rfl, upd_same, .cons (ClsV.ty _) (.cons (ClsV.ty _) .nil), TyX.base (TyOf.lst hq), kit2 (by decide +kernel) (by decide +kernel), _, rfl, iteT ?_⟩
        refine ⟨_, rfl, .ref p, .ty "tuple", _, _, false, rfl, ClsV.ty _, TyX.base (TyOf.lst hp), kit_ty (by decide +kernel), _, rfl, .ref q, .ty "tuple", _, _, false, rfl, ClsV.ty _, TyX.base (TyOf.lst hq), kit_ty (by decide +kernel), rfl, _, rfl, iteF ?_⟩
        refine ⟨_, rfl, .ref p, .ty "list", _, _, true, rfl, ClsV.ty _, TyX.base (TyOf.lst hp), kit_ty (by decide +kernel), _, rfl, .ref q, .ty "list", _, _, true, rfl, ClsV.ty _, TyX.base (TyOf.lst hq), kit_ty (by decide +kernel), rfl, _, rfl, iteF ?_⟩
        refine ⟨_, rfl, p, xs, rfl, .inl (SqL.of hp), _, rfl, q, ys, rfl, .inl (SqL.of hq), rfl, true, (by rw [l1, decide_eq_true rfl]), iteT ?_⟩
        refine ⟨_, rfl, q, ys, rfl, .inl (SqL.of hq), _, rfl, (by omega), (by omega), fun D hD => ?_⟩
        refine lc_range (lo := 0) (n := ys.length) (fun i H' => Same H H' ∧ H' D = some (.lst ((List.replicate i true).map V.bl))) ⟨sm.trans (same_new hD), upd_same⟩ ?_ ?_
        · rintro i H' hi ⟨sm', hd⟩
          obtain ⟨x1, e1, f1⟩ := at_some (xs := xs) (show 0 ≤ (0 : Int) + (i : Int) by omega) (by omega)
          obtain ⟨y1, e2, f2⟩ := at_some (xs := ys) (show 0 ≤ (0 : Int) + (i : Int) by omega) (by omega)
          rcases hT with ⟨hp0, hq0⟩ | ⟨hp0, hq0⟩
          · exact absurd (sm _ _ hp0) (by rw [hp]; simp)
          · refine ⟨rfl, ⟨_, rfl, _, rfl, .inl ⟨p, xs, _, x1, rfl, rfl, SqL.of (sm' _ _ hp0), f1, _, rfl, _, rfl, .inl ⟨q, ys, _, y1, rfl, rfl, SqL.of (sm' _ _ hq0), f2, x1, y1, rfl, hs _ _ _ _ sm' (hA _ _ _ e1 e2), fun H2 s2 => ?_⟩⟩⟩⟩
            refine ⟨_, s2 _ _ hd, ?_, ?_, ?_⟩
            · rw [List.length_map, List.length_replicate]
              exact small1000 (by omega)
            · exact fun a o z => (upd_ne (ne_of_none z (sm.free hD))).trans (s2 _ _ (sm' a o z))
            · rw [upd_same, List.replicate_succ', List.map_append]
              rfl
        · rintro H' ⟨sm', hd⟩
          refine ⟨D, _, rfl, SqL.of hd, ?_⟩
          rw [show (List.replicate ys.length true).all id = true by simp]
          exact qq _ sm'
theorem ok_likeN (T : Txt K mg) : ∀ n : Nat, FnOk P w K mg base CX0 (n + 1) T.f_like T.d_like ["_law_found", "_law_due"] (spLL fun x y H => Lk H n x y)
  | 0 => lk_core T (L' := fun _ _ _ => False) ⟨fun _ _ _ _ ⟨_, _, _, h, _⟩ => h.elim, fun _ _ _ _ _ _ _ _ _ _ _ _ _ ⟨_, _, _, h, _⟩ => h.elim⟩ (fun _ _ _ _ _ h => h) fun x y H h => .inl h
  | n + 1 => lk_core T (ok_likeN T n) (fun _ _ _ _ s h => h.same s) fun x y H h => h
theorem ok_like (T : Txt K mg) : FnOk P w K mg base CX0 6 T.f_like T.d_like ["_law_found", "_law_due"] (spLL fun x y H => Lk H 5 x y) := ok_likeN T 5
end
inductive LkAll (H : Hp) (n : Nat) : List V → List V → Prop
  | nil : LkAll H n [] []
  | cons {x y : V} {xs ys : List V} : Lk H n x y → LkAll H n xs ys → LkAll H n (x :: xs) (y :: ys)
theorem LkAll.get {H : Hp} {n : Nat} : ∀ {xs ys : List V}, LkAll H n xs ys → xs.length = ys.length ∧ ∀ (i : Nat) (x y : V), xs[i]? = some x → ys[i]? = some y → Lk H n x y := by
  intro xs ys h
  induction h with
  | nil => exact ⟨rfl, fun i x y h => by simp at h⟩
  | cons h t ih =>
    refine ⟨congrArg Nat.succ ih.1, fun i x y h1 h2 => ?_⟩
    cases i with
    | zero =>
      cases h1
      cases h2
      exact h
    | succ i => exact ih.2 i x y (by simpa using h1) (by simpa using h2)
theorem Lk.lists {H : Hp} {n : Nat} {p q : Addr} {xs ys : List V} (hp : H p = some (.lst xs)) (hq : H q = some (.lst ys)) (hl : xs.length ≤ 1000) (h : LkAll H n xs ys) : Lk H (n + 1) (.ref p) (.ref q) := .inr ⟨p, q, xs, ys, rfl, rfl, .inr ⟨hp, hq⟩, h.get.1, hl, h.get.2⟩
theorem Lk.tups {H : Hp} {n : Nat} {p q : Addr} {xs ys : List V} (hp : H p = some (.tup xs)) (hq : H q = some (.tup ys)) (hl : xs.length ≤ 1000) (h : LkAll H n xs ys) : Lk H (n + 1) (.ref p) (.ref q) := .inr ⟨p, q, xs, ys, rfl, rfl, .inl ⟨hp, hq⟩, h.get.1, hl, h.get.2⟩
theorem Lk.int {H : Hp} {n : Nat} {i j : Int} (e : i = j) : Lk H n (.int i) (.int j) := Lk.flat (.inl ⟨i, rfl, by rw [e]⟩)
theorem Lk.bl {H : Hp} {n : Nat} {i j : Bool} (e : i = j) : Lk H n (.bl i) (.bl j) := Lk.flat (.inr (.inl ⟨i, rfl, by rw [e]⟩))
theorem Lk.pair {H : Hp} {n : Nat} {p q : Addr} {x y x' y' : Int} (hp : H p = some (.tup [.int x, .int y])) (hq : H q = some (.tup [.int x', .int y'])) (e1 : x = x') (e2 : y = y') : Lk H (n + 1) (.ref p) (.ref q) :=
  .tups hp hq (by simp) (.cons (.int e1) (.cons (.int e2) .nil))
/-! ### the field of a caught error -/
/-- the error of the class cls with its dict at d: its word, its other field -/
structure ErrIs (K : PySem.W.Frag) (H : Hp) (cls : Value) (d : Option Addr) (w : Str) (fs : List (Str × V)) : Prop where
  ex : ∃ C dd : Addr, cls = .ref C ∧ d = some dd ∧ XfC K C ∧ H dd = some (.xd fs) ∧ ∀ f v, fs.lookup f = some v → PySem.W.findIn K (.ref C) f = some none
  wd : fs.lookup ("word" : Str) = some (.str w)
theorem ErrIs.same {K : PySem.W.Frag} {H H' : Hp} {cls : Value} {d : Option Addr} {w : Str} {fs : List (Str × V)} (h : ErrIs K H cls d w fs) (s : Same H H') : ErrIs K H' cls d w fs := by
  obtain ⟨⟨C, dd, e1, e2, x, hd, no⟩, wd⟩ := h
  exact ⟨⟨C, dd, e1, e2, x, s _ _ hd, no⟩, wd⟩
/-- a field is read -/
theorem ErrIs.read {K : PySem.W.Frag} {H : Hp} {a : Addr} {cls : Value} {d : Option Addr} {w : Str} {fs : List (Str × V)} (h : ErrIs K H cls d w fs) {f : Str} {v : V} {R : V → Prop} (hl : fs.lookup f = some v) (q : R v) :
    (V.ref a) = .ref a ∧ ∃ (C dd : Addr) (fs : List (Str × V)) (v : V), cls = .ref C ∧ d = some dd ∧ XfC K C ∧ PySem.W.findIn K (.ref C) f = some none ∧ H dd = some (.xd fs) ∧ fs.lookup f = some v ∧ R v := by
  obtain ⟨⟨C, dd, e1, e2, x, hd, no⟩, wd⟩ := h
  exact ⟨rfl, C, dd, fs, v, e1, e2, x, no _ _ hl, hd, hl, q⟩
def fieldOf (w : Str) : Option Str :=
  if inV (.str w) [.str "BadRoot", .str "BadCount", .str "NotLinked"] = true then some "number"
  else if inV (.str w) [.str "BadLength", .str "BadRow", .str "BadStep", .str "BadText", .str "BadDeed"] = true then some "at"
  else if inV (.str w) [.str "BadName", .str "Taken"] = true then some "name"
  else if inV (.str w) [.str "TooGreat", .str "Full"] = true then some "most"
  else if decide (V.str w = .str "NoSquares") = true then some "reason" else none
theorem fo0 {w : Str}  (e : inV (.str w) [.str "BadRoot", .str "BadCount", .str "NotLinked"] = true) : fieldOf w = some ("number" : Str) := by unfold fieldOf; rw [if_pos e]
theorem fo1 {w : Str} (b0 : ¬ (inV (.str w) [.str "BadRoot", .str "BadCount", .str "NotLinked"] = true)) (e : inV (.str w) [.str "BadLength", .str "BadRow", .str "BadStep", .str "BadText", .str "BadDeed"] = true) : fieldOf w = some ("at" : Str) := by unfold fieldOf; rw [if_neg b0, if_pos e]
theorem fo2 {w : Str} (b0 : ¬ (inV (.str w) [.str "BadRoot", .str "BadCount", .str "NotLinked"] = true)) (b1 : ¬ (inV (.str w) [.str "BadLength", .str "BadRow", .str "BadStep", .str "BadText", .str "BadDeed"] = true)) (e : inV (.str w) [.str "BadName", .str "Taken"] = true) : fieldOf w = some ("name" : Str) := by unfold fieldOf; rw [if_neg b0, if_neg b1, if_pos e]
theorem fo3 {w : Str} (b0 : ¬ (inV (.str w) [.str "BadRoot", .str "BadCount", .str "NotLinked"] = true)) (b1 : ¬ (inV (.str w) [.str "BadLength", .str "BadRow", .str "BadStep", .str "BadText", .str "BadDeed"] = true)) (b2 : ¬ (inV (.str w) [.str "BadName", .str "Taken"] = true)) (e : inV (.str w) [.str "TooGreat", .str "Full"] = true) : fieldOf w = some ("most" : Str) := by unfold fieldOf; rw [if_neg b0, if_neg b1, if_neg b2, if_pos e]
theorem fo4 {w : Str} (b0 : ¬ (inV (.str w) [.str "BadRoot", .str "BadCount", .str "NotLinked"] = true)) (b1 : ¬ (inV (.str w) [.str "BadLength", .str "BadRow", .str "BadStep", .str "BadText", .str "BadDeed"] = true)) (b2 : ¬ (inV (.str w) [.str "BadName", .str "Taken"] = true)) (b3 : ¬ (inV (.str w) [.str "TooGreat", .str "Full"] = true)) (e : decide (V.str w = .str "NoSquares") = true) : fieldOf w = some ("reason" : Str) := by unfold fieldOf; rw [if_neg b0, if_neg b1, if_neg b2, if_neg b3, if_pos e]
theorem fo5 {w : Str} (b0 : ¬ (inV (.str w) [.str "BadRoot", .str "BadCount", .str "NotLinked"] = true)) (b1 : ¬ (inV (.str w) [.str "BadLength", .str "BadRow", .str "BadStep", .str "BadText", .str "BadDeed"] = true)) (b2 : ¬ (inV (.str w) [.str "BadName", .str "Taken"] = true)) (b3 : ¬ (inV (.str w) [.str "TooGreat", .str "Full"] = true)) (b4 : ¬ (decide (V.str w = .str "NoSquares") = true)) : fieldOf w = none := by unfold fieldOf; rw [if_neg b0, if_neg b1, if_neg b2, if_neg b3, if_neg b4]
def fieldVal (w : Str) (fs : List (Str × V)) : Option V := match fieldOf w with
  | some f => fs.lookup f
  | none => some .non
section
variable {base : Heap} {K : PySem.W.Frag} {mg : Str → Option Value} {P : Program} {w : World}
def spFld (K : PySem.W.Frag) : Addr → Value → Option Addr → Sp := fun a cls d vs H Q _ => ∃ (wd : Str) (fs : List (Str × V)) (v : V), vs = [.ref a] ∧ ErrIs K H cls d wd fs ∧ fieldVal wd fs = some v ∧ ∀ H', Same H H' → Q v H'
theorem ok_field_of (T : Txt K mg) : FnP P w K mg base 1 T.f_field_of T.d_field_of ["_law_e"] (spFld K) := by
  refine fn_ofP T.F_field_of sc_field_of (fun a cls d vs H Q E h => ?_) (fun cdv A outer s H vs Q E p cls d zc dat hr h => ?_)
  · obtain ⟨wd, fs, v, rfl, _⟩ := h
    rfl
  · obtain ⟨wd, fs, v, rfl, E0, hv, q⟩ := h
    refine ⟨_, (pss_cons (ps_if (pt_cmpR op_in_seq (pe_xfG (a := p.1) (oe := p.2) (cls := cls) (d := d) List.mem_cons_self zc dat (pv 0)) (pe_tup (pa_cons pe_str (pa_cons pe_str (pa_cons pe_str pa_nil)))) (by rfl)) (pss_one (ps_ret (pe_xfG (a := p.1) (oe := p.2) (cls := cls) (d := d) List.mem_cons_self zc dat (pv 0)))) pss_nil)
      (pss_cons (ps_if (pt_cmpR op_in_seq (pe_xfG (a := p.1) (oe := p.2) (cls := cls) (d := d) List.mem_cons_self zc dat (pv 0)) (pe_tup (pa_cons pe_str (pa_cons pe_str (pa_cons pe_str (pa_cons pe_str (pa_cons pe_str pa_nil)))))) (by rfl)) (pss_one (ps_ret (pe_xfG (a := p.1) (oe := p.2) (cls := cls) (d := d) List.mem_cons_self zc dat (pv 0)))) pss_nil)
      (pss_cons (ps_if (pt_cmpR op_in_seq (pe_xfG (a := p.1) (oe := p.2) (cls := cls) (d := d) List.mem_cons_self zc dat (pv 0)) (pe_tup (pa_cons pe_str (pa_cons pe_str pa_nil))) (by rfl)) (pss_one (ps_ret (pe_xfG (a := p.1) (oe := p.2) (cls := cls) (d := d) List.mem_cons_self zc dat (pv 0)))) pss_nil)
      (pss_cons (ps_if (pt_cmpR op_in_seq (pe_xfG (a := p.1) (oe := p.2) (cls := cls) (d := d) List.mem_cons_self zc dat (pv 0)) (pe_tup (pa_cons pe_str (pa_cons pe_str pa_nil))) (by rfl)) (pss_one (ps_ret (pe_xfG (a := p.1) (oe := p.2) (cls := cls) (d := d) List.mem_cons_self zc dat (pv 0)))) pss_nil)
      (pss_one (ps_ret (pe_ifExp (pt_cmpR op_eq (pe_xfG (a := p.1) (oe := p.2) (cls := cls) (d := d) List.mem_cons_self zc dat (pv 0)) pe_str (nomark _)) (pe_xfG (a := p.1) (oe := p.2) (cls := cls) (d := d) List.mem_cons_self zc dat (pv 0)) pe_non))))))), ?_⟩
    have fv : ∀ {f : Str}, fieldOf wd = some f → fs.lookup f = some v := fun {f} e => by
      unfold fieldVal at hv
      rw [e] at hv
      exact hv
    refine ⟨_, rfl, E0.read E0.wd ?_⟩
    refine ⟨by show 3 ≤ sizeLine; decide, fun t0 n0 => ?_⟩
    have S1 := same_new (o := .tup [.str "BadRoot", .str "BadCount", .str "NotLinked"]) n0
    have E1 := E0.same S1
    refine ⟨t0, _, rfl, .inr (SqT.of upd_same), rfl, rfl, _, rfl, ite2 (fun e => ?_) (fun b0 => ?_)⟩
    · exact ⟨_, rfl, E1.read (fv (fo0  e)) (q _ S1)⟩
    refine ⟨_, rfl, E1.read E1.wd ?_⟩
    refine ⟨by show 5 ≤ sizeLine; decide, fun t1 n1 => ?_⟩
    have S2 := S1.trans (same_new (o := .tup [.str "BadLength", .str "BadRow", .str "BadStep", .str "BadText", .str "BadDeed"]) n1)
    have E2 := E0.same S2
    refine ⟨t1, _, rfl, .inr (SqT.of upd_same), rfl, rfl, _, rfl, ite2 (fun e => ?_) (fun b1 => ?_)⟩
    · exact ⟨_, rfl, E2.read (fv (fo1 b0 e)) (q _ S2)⟩
    refine ⟨_, rfl, E2.read E2.wd ?_⟩
    refine ⟨by show 2 ≤ sizeLine; decide, fun t2 n2 => ?_⟩
    have S3 := S2.trans (same_new (o := .tup [.str "BadName", .str "Taken"]) n2)
    have E3 := E0.same S3
    refine ⟨t2, _, rfl, .inr (SqT.of upd_same), rfl, rfl, _, rfl, ite2 (fun e => ?_) (fun b2 => ?_)⟩
    · exact ⟨_, rfl, E3.read (fv (fo2 b0 b1 e)) (q _ S3)⟩
    refine ⟨_, rfl, E3.read E3.wd ?_⟩
    refine ⟨by show 2 ≤ sizeLine; decide, fun t3 n3 => ?_⟩
    have S4 := S3.trans (same_new (o := .tup [.str "TooGreat", .str "Full"]) n3)
    have E4 := E0.same S4
    refine ⟨t3, _, rfl, .inr (SqT.of upd_same), rfl, rfl, _, rfl, ite2 (fun e => ?_) (fun b3 => ?_)⟩
    · exact ⟨_, rfl, E4.read (fv (fo3 b0 b1 b2 e)) (q _ S4)⟩
    refine ⟨_, rfl, E4.read E4.wd ?_⟩
    refine ⟨rfl, _, rfl, ite2 (fun e => ?_) (fun b4 => ?_)⟩
    · exact ⟨_, rfl, E4.read (fv (fo4 b0 b1 b2 b3 e)) (q _ S4)⟩
    · have e : fieldOf wd = none := fo5 b0 b1 b2 b3 b4
      have ev : v = .non := by
        unfold fieldVal at hv
        rw [e] at hv
        exact (Option.some.inj hv).symm
      rw [ev] at q
      exact q _ S4
end
/-! ### the def that asks, and tells what was raised -/
section
variable {K : PySem.W.Frag} {mg : Str → Option Value}
/-- what is told of an answer, of an error of the first, of the second, of the third kind -/
def Told (Q : VK) (w : Str) (v : V) (H : Hp) : Prop := ∀ H' p, Same H H' → H' p = some (.tup [.str w, v]) → Q (.ref p) H'
def Raised (K : PySem.W.Frag) (G : Addr) (Q : VK) : XK := fun cls d H => PySem.W.exmOne K cls (.ref G) = some true ∧ ∃ (w : Str) (fs : List (Str × V)) (v : V), ErrIs K H cls d w fs ∧ fieldVal w fs = some v ∧ Told Q w v H
def TTry (K : PySem.W.Frag) (G : Addr) : (XK → Hp → VK → Prop) → Hp → VK → Prop := fun tl H Q => tl (Raised K G Q) H fun v H1 => [V.str "told", v].length ≤ sizeLine ∧ ∀ p, H1 p = none → Q (.ref p) (upd H1 p (.tup [.str "told", v]))
end
section
variable {base : Heap} {K : PySem.W.Frag} {mg : Str → Option Value} {w : World}
theorem try_gives {X : Cx} (T : Txt K mg) (hP : X.K = K) (hm : X.mg = mg) {k : Nat} (hr : Room (k + 3) X.A) {cdg : Value} {q : Str} :
    LamX.GivesTo X ["_law_ask", "_law_e"] "_law_try" (defScope s_try) T.f_try cdg (defBody s_try) "_law_ask" q (TTry K T.r_GrainError) := by
  subst hP
  subst hm
  intro f c' s H Q tl act hc h
  have hr2 : Room (k + 2) (X.A.deeper (envOfC "_law_try" (defScope s_try) s.heap.objs.size T.f_try cdg)) := hr.deeper _
  refine ⟨_, pss_one (ps_tryAs (X := (cxOf CX0 X.prog X.w X.K X.mg X.base ["_law_ask", "_law_e"] "_law_try" (defScope s_try) T.f_try cdg X.A X.stack s H E0).nox) (i := 1)
      (tb := fun W D σ H => ∃ Ech : XK, (∀ cls d σ' H', Ech cls d H' → W cls d σ' H') ∧ σ[0]? = some (some (.ref f)) ∧ H c' = some (LamX.CodeO c' q) ∧ tl Ech H fun v H1 => [V.str "told", v].length ≤ sizeLine ∧ ∀ p, H1 p = none → D.rt (.ref p) (upd H1 p (.tup [.str "told", v])))
      rfl rfl sc_try.nd rfl rfl (fun W pn xe tk _ => ?_)
      (.cons (c := .ref T.r_GrainError) (ts := fun a cls d => tRet (tTup (tCons (tXfA X.K a cls d "word" (tVar 1)) (tCons (fun σ H Q => tCons (tVar 1) tNil σ H fun vs H1 => spFld X.K a cls d vs H1 Q E0) tNil)))) ⟨by rfl, by decide, .inl T.g_GrainError⟩ (fun a oe cls d pn zc dat => pss_one (ps_ret (pe_tup (pa_cons (pe_xfG (a := a) (oe := oe) (cls := cls) (d := d) List.mem_cons_self zc dat (pv 1)) (pa_cons (pe_callP (a := a) (oe := oe) (cls := cls) (d := d) List.mem_cons_self zc dat (ok_field_of T) ?_ (by rfl) T.g_field_of T.F_field_of.kp T.b_field_of (pa_cons (pv 1) pa_nil)) pa_nil)))))
      (.cons (c := .ref T.r_GrainMissing) (ts := fun a cls d => tRet (tTup (tCons (tXfA X.K a cls d "word" (tVar 1)) (tCons (tIf (tTest (tOp rEq (tXfA X.K a cls d "word" (tVar 1)) (tC (.str "NoSheet")))) (tXfA X.K a cls d "sheet" (tVar 1)) (tXfA X.K a cls d "name" (tVar 1))) tNil)))) ⟨by rfl, by decide, .inl T.g_GrainMissing⟩ (fun a oe cls d pn zc dat => pss_one (ps_ret (pe_tup (pa_cons (pe_xfG (a := a) (oe := oe) (cls := cls) (d := d) List.mem_cons_self zc dat (pv 1)) (pa_cons (pe_ifExp (pt_cmpR op_eq (pe_xfG (a := a) (oe := oe) (cls := cls) (d := d) List.mem_cons_self zc dat (pv 1)) pe_str (nomark _)) (pe_xfG (a := a) (oe := oe) (cls := cls) (d := d) List.mem_cons_self zc dat (pv 1)) (pe_xfG (a := a) (oe := oe) (cls := cls) (d := d) List.mem_cons_self zc dat (pv 1))) pa_nil)))))
      (.cons (c := .ref T.e_NothingLeft.C) (ts := fun a cls d => tRet (tTup (tCons (tXfA X.K a cls d "word" (tVar 1)) (tCons (tC .non) tNil)))) ⟨by rfl, by decide, .inl T.e_NothingLeft.g⟩ (fun a oe cls d pn zc dat => pss_one (ps_ret (pe_tup (pa_cons (pe_xfG (a := a) (oe := oe) (cls := cls) (d := d) List.mem_cons_self zc dat (pv 1)) (pa_cons pe_non pa_nil))))) .nil)))), ?_⟩
  · constructor
    intro pins s' σ H' D I h'
    obtain ⟨Ech, hW, h1, h2, h3⟩ := h'
    have asked := fun p1 p2 => act W pn xe Ech p1 p2 tk hW
    exact (pss_one (ps_ret (pe_tup (pa_cons pe_str (pa_cons (asked _ _) pa_nil))))).run pins s' σ H' D I ⟨h1, h2, h3⟩
  · exact ⟨by have := hr.dp; show X.A.depth + 1 + 3 * 1 + 5 < _; omega, by have := hr.un; show X.A.units + 3 + 16 * 1 + 200 < _; omega⟩
  · refine ⟨Raised X.K T.r_GrainError Q, fun cls d σ' H' hR => ?_, rfl, hc, h⟩
    obtain ⟨em, wd, fs, v, er, fv, q1⟩ := hR
    refine ⟨true, em, fun _ a na hl => ?_, fun z => nomatch z⟩
    have at1 : (σ'.set 1 (some (V.ref a)))[1]? = some (some (V.ref a)) := by
      rw [List.getElem?_set_self hl]
    refine ⟨_, at1, er.read er.wd ?_⟩
    refine ⟨_, at1, wd, fs, v, rfl, er, fv, fun H2 s2 => ⟨by show 2 ≤ sizeLine; decide, fun p hp => q1 _ p (s2.trans (same_new hp)) upd_same⟩⟩
end
/-! ### calls of a def with a star parameter -/
section
variable {X : Cx}
theorem pe_callR {CX : CXT} {k : Nat} {f : Addr} {sp : Sp} {E : XK} {x : Str} {p pos : Pos} {e : Expr} {es : List Expr} {t : TA}
    (F : FnR X.prog X.w X.K X.mg X.base CX k f sp) (hr : Room k X.A) (hg : Gl X x) (hm : X.mg x = some (.ref f)) (hk : PySem.W.keepIn X.K (.ref f) = true) (hx : Passes CX X E) (ha : PA X (e :: es) t)
    (hdb : (x == ("__debug__" : Str)) = false := by decide) (he : starEach (e :: es) X.env = (false, eval e X.env) :: starEach es X.env := by rfl)
    (hpl : (backTo pos (starEach es X.env)).any (·.1) = false := by rfl) :
    PE X (.Call (.Name x p) (e :: es) [] pos) (fun σ H Q => t σ H fun vs H1 => sp vs H1 Q E) :=
  ⟨fun pins s σ H Q I h => wpAny_Call_Name_kw (ld_glob I hg hm (PySem.W.callWith_K (h₀ := X.base) I.ok.mod.kin hk
    (thn (ha.run pos pins s σ H _ I h) fun us s1 ⟨vs, H1, I1, r, q⟩ => ⟨I1.kIn, wpAny_call (run_fnR F hr hx I1 r q)⟩) he hpl) hdb)⟩
end
/-! ### lists of ints that comprehensions make -/
def Pt (H : Hp) (D : Addr) (ns : List Int) (i : Nat) (H' : Hp) : Prop := Same H H' ∧ H' D = some (.lst ((ns.take i).map V.int))
theorem pt_step {H H' : Hp} {D : Addr} {ns : List Int} {i : Nat} {z : Int} (h : Pt H D ns i H') (hD : H D = none) (hz : ns[i]? = some z) : Pt H D ns (i + 1) (upd H' D (.lst ((ns.take i).map V.int ++ [.int z]))) := by
  refine ⟨fun a o e => (upd_ne (ne_of_none e hD)).trans (h.1 a o e), ?_⟩
  rw [upd_same, List.take_add_one, hz, List.map_append]
  rfl
theorem pt_size {ns : List Int} {i : Nat} (h : ns.length ≤ 1000) : ((ns.take i).map V.int).length < sizeLine := by
  rw [List.length_map, List.length_take]
  exact small1000 (by omega)
theorem pt_end {H H' : Hp} {D : Addr} {ns : List Int} {i : Nat} (h : Pt H D ns i H') (hi : ns.length ≤ i) : Same H H' ∧ H' D = some (.lst (ns.map V.int)) := by
  have := h.2
  rw [List.take_of_length_le hi] at this
  exact ⟨h.1, this⟩
/-! ### pairs -/
def PairAt (K : PySem.W.Frag) (H : Hp) (v : V) (x y : Int) : Prop := ∃ t : Addr, v = .ref t ∧ SqT K H t [.int x, .int y]
theorem PairAt.same {K : PySem.W.Frag} {H H' : Hp} {v : V} {x y : Int} (h : PairAt K H v x y) (s : Same H H') : PairAt K H' v x y := by
  obtain ⟨t, e, h⟩ := h
  exact ⟨t, e, Evl.ex_t (show Evl.Ex H H' from s) h⟩
inductive PairsAt (K : PySem.W.Frag) (H : Hp) : List V → List (Int × Int) → Prop
  | nil : PairsAt K H [] []
  | cons {v : V} {vs : List V} {x y : Int} {ps : List (Int × Int)} : PairAt K H v x y → PairsAt K H vs ps → PairsAt K H (v :: vs) ((x, y) :: ps)
theorem PairsAt.get {K : PySem.W.Frag} {H : Hp} : ∀ {vs : List V} {ps : List (Int × Int)}, PairsAt K H vs ps → ∀ {i : Nat} {v : V}, vs[i]? = some v → ∃ x y, ps[i]? = some (x, y) ∧ PairAt K H v x y := by
  intro vs ps h
  induction h with
  | nil =>
    intro i v h
    simp at h
  | cons p t ih =>
    intro i v h
    cases i with
    | zero =>
      cases h
      exact ⟨_, _, rfl, p⟩
    | succ i => exact ih (i := i) (by simpa using h)
theorem PairsAt.same {K : PySem.W.Frag} {H H' : Hp} (s : Same H H') : ∀ {vs : List V} {ps : List (Int × Int)}, PairsAt K H vs ps → PairsAt K H' vs ps := by
  intro vs ps h
  induction h with
  | nil => exact .nil
  | cons p t ih => exact .cons (p.same s) ih
theorem PairsAt.len {K : PySem.W.Frag} {H : Hp} : ∀ {vs : List V} {ps : List (Int × Int)}, PairsAt K H vs ps → vs.length = ps.length
  | _, _, .nil => rfl
  | _, _, .cons p t => congrArg Nat.succ t.len
def s1 (ps : List (Int × Int)) : Int := (ps.map (·.1)).sum
def s2 (ps : List (Int × Int)) : Int := (ps.map (·.2)).sum
/-- a new pair -/
def NewPair (H : Hp) (x y : Int) (Q : VK) : Prop := ∀ p H', H p = none → Same H H' → H' p = some (.tup [.int x, .int y]) → Q (.ref p) H'
/-! ### added -/
section
variable {base : Heap} {K : PySem.W.Frag} {mg : Str → Option Value} {P : Program} {w : World}
def spAdded (K : PySem.W.Frag) : Sp := fun vs H Q _ => ∃ ps : List (Int × Int), PairsAt K H vs ps ∧ ps.length ≤ 1000 ∧ NewPair H (s1 ps) (s2 ps) Q
def spAddedB (K : PySem.W.Frag) : Sp := fun vs H Q _ => ∃ (t : Addr) (xs : List V) (ps : List (Int × Int)), vs = [.ref t] ∧ H t = some (.tup xs) ∧ PairsAt K H xs ps ∧ ps.length ≤ 1000 ∧ NewPair H (s1 ps) (s2 ps) Q
theorem ok_added (T : Txt K mg) : FnR P w K mg base CX0 1 T.f_added (spAdded K) := by
  obtain ⟨o1, o2, v1, v2, v3, a1, v4, v5, sl1, e1, r1, r2⟩ := T.F_added.ex
  have r1' := r1
  rw [e1] at r1'
  refine FnR.imp (StX.fn_star (ps := []) (pv := "pairs") (sp := spAddedB K) (N := ["pairs", "a", "b"]) r1' r2 sc_added StX.cxUp_none ?_ ?_) ?_
  · intro us rest hu
    match us, rest, hu with
    | [], [], _ => rfl
    | [], _ :: _, _ => rfl
  · intro A outer s H vs Q E hr h
    obtain ⟨t, xs, ps, rfl, ht, hp, hn, q⟩ := h
    refine ⟨_, PSs.nox (pss_one (ps_ret (pe_tup (pa_cons (pe_callB (cr_sum rfl) (by rfl) T.n_sum (by decide +kernel) (pa_cons (pe_lc (own := [("a", 1), ("b", 2)]) (g := (gTup K 2 (gCons (gName 1) (gCons (gName 2) gNil)))) (tt := tYes) (by rfl) sc_added.nd (pi_tup (pv 0)) (blkOk_by (own := [("a", 1), ("b", 2)]) (N := ["pairs", "a", "b"]) (sc := defScope s_added) (by decide +kernel)) (fun _ _ _ _ _ => (pg_tup (by rfl) (pgs_cons (pg_name (i := 1) sc_added.nd rfl (Or.inl rfl)) (pgs_cons (pg_name (i := 2) sc_added.nd rfl (Or.inl rfl)) pgs_nil)))) (fun _ _ _ _ _ => pts_nil) (fun _ _ _ _ _ => (pv 1))) pa_nil)) (pa_cons (pe_callB (cr_sum rfl) (by rfl) T.n_sum (by decide +kernel) (pa_cons (pe_lc (own := [("a", 1), ("b", 2)]) (g := (gTup K 2 (gCons (gName 1) (gCons (gName 2) gNil)))) (tt := tYes) (by rfl) sc_added.nd (pi_tup (pv 0)) (blkOk_by (own := [("a", 1), ("b", 2)]) (N := ["pairs", "a", "b"]) (sc := defScope s_added) (by decide +kernel)) (fun _ _ _ _ _ => (pg_tup (by rfl) (pgs_cons (pg_name (i := 1) sc_added.nd rfl (Or.inl rfl)) (pgs_cons (pg_name (i := 2) sc_added.nd rfl (Or.inl rfl)) pgs_nil)))) (fun _ _ _ _ _ => pts_nil) (fun _ _ _ _ _ => (pv 2))) pa_nil)) pa_nil))))), ?_⟩
    have hl := hp.len
    refine ⟨_, rfl, t, rfl, ⟨_, SqT.of ht⟩, fun D hD => lc_tup (K := K) (a := t) (xs := xs) (Pt H D (ps.map (·.1))) ⟨same_new hD, upd_same⟩ (fun i H' _ h => SqT.of (h.1 _ _ ht)) (fun i x H' hx hP => ?_) (fun H1 hP => ?_)⟩
    · obtain ⟨c, e, hc, u, rfl, hu⟩ := hp.get hx
      refine ⟨u, _, rfl, Evl.ex_t (show Evl.Ex H H' from hP.1) hu, rfl, .int c, [.int e], rfl, .int e, [], rfl, rfl, rfl, ⟨_, rfl, _, hP.2, pt_size (by rw [List.length_map]; exact hn), pt_step hP hD ?_⟩⟩
      rw [List.getElem?_map, hc]
      rfl
    obtain ⟨e1, f1⟩ := pt_end hP (by rw [List.length_map]; omega)
    refine ⟨D, _, rfl, SqL.of f1, ?_⟩
    refine ⟨_, rfl, t, rfl, ⟨_, SqT.of (e1 _ _ ht)⟩, fun D2 hD2 => lc_tup (K := K) (a := t) (xs := xs) (Pt H1 D2 (ps.map (·.2))) ⟨same_new hD2, upd_same⟩ (fun i H' _ h => SqT.of (h.1 _ _ (e1 _ _ ht))) (fun i x H' hx hP => ?_) (fun H2 hP => ?_)⟩
    · obtain ⟨c, e, hc, u, rfl, hu⟩ := hp.get hx
      refine ⟨u, _, rfl, Evl.ex_t (show Evl.Ex H H' from e1.trans hP.1) hu, rfl, .int c, [.int e], rfl, .int e, [], rfl, rfl, rfl, ⟨_, rfl, _, hP.2, pt_size (by rw [List.length_map]; exact hn), pt_step hP hD2 ?_⟩⟩
      rw [List.getElem?_map, hc]
      rfl
    obtain ⟨e2, f2⟩ := pt_end hP (by rw [List.length_map]; omega)
    exact ⟨D2, _, rfl, SqL.of f2, by show 2 ≤ sizeLine; decide, fun p hp => q p _ ((e1.trans e2).free hp) ((e1.trans e2).trans (same_new hp)) upd_same⟩
  · rintro vs H Q E ⟨ps, hp, hl, q⟩
    refine ⟨[], vs, rfl, rfl, Nat.le_of_lt (small1000 (by rw [hp.len]; exact hl)), fun p hpn => ⟨p, vs, ps, rfl, upd_same, hp.same (same_new hpn), hl, fun p' H' hp' sm h' => ?_⟩⟩
    exact q p' H' ((same_new hpn).free hp') ((same_new hpn).trans sm) h'
end
/-! ### scaled -/
section
variable {base : Heap} {K : PySem.W.Frag} {mg : Str → Option Value} {P : Program} {w : World}
def spScaled (K : PySem.W.Frag) : Sp := fun vs H Q _ => ∃ (v : V) (x y n : Int), vs = [v, .int n] ∧ PairAt K H v x y ∧ x.natAbs < 2 ^ 9000 ∧ y.natAbs < 2 ^ 9000 ∧ n.natAbs < 2 ^ 9000 ∧ NewPair H (x * n) (y * n) Q
theorem ok_scaled (T : Txt K mg) : FnOk P w K mg base CX0 1 T.f_scaled T.d_scaled ["pair", "number"] (spScaled K) := by
  refine T.F_scaled.ok sc_scaled (fun vs H Q E h => ?_) (fun cdv A outer s H vs Q E hr h => ?_)
  · obtain ⟨v, x, y, n, rfl, _⟩ := h
    rfl
  · obtain ⟨v, x, y, n, rfl, ⟨t, rfl, ht⟩, x1, y1, n1, q⟩ := h
    refine ⟨_, (pss_cons (ps_asg (pv 0) (pg_tup (by rfl) (pgs_cons (pg_name (i := 2) sc_scaled.nd rfl (Or.inl rfl)) (pgs_cons (pg_name (i := 3) sc_scaled.nd rfl (Or.inl rfl)) pgs_nil))))
      (pss_one (ps_ret (pe_tup (pa_cons (pe_op op_mulW (pv 2) (pv 1)) (pa_cons (pe_op op_mulW (pv 3) (pv 1)) pa_nil)))))), ?_⟩
    refine ⟨_, rfl, t, _, rfl, ht, rfl, .int x, [.int y], rfl, .int y, [], rfl, rfl, ?_⟩
    exact ⟨_, rfl, _, rfl, x, n, rfl, rfl, wide_mul x1 n1 (by decide) (by decide) (by decide), _, rfl, _, rfl, y, n, rfl, rfl, wide_mul y1 n1 (by decide) (by decide) (by decide), by show 2 ≤ sizeLine; decide, fun p hp => q p _ hp (same_new hp) upd_same⟩
end
/-! ### tuples stay -/
theorem tup_keep {H H' : Hp} {b sb : Addr} (B : Bag H b sb) (k : Keep b H H') (p : Addr) (xs : List V) (h : H p = some (.tup xs)) : H' p = some (.tup xs) := k _ _ (B.tup h) h
theorem tup_put {H : Hp} {l : Addr} {ys zs : List V} (hl : H l = some (.lst ys)) (p : Addr) (xs : List V) (h : H p = some (.tup xs)) : (upd H l (.lst zs)) p = some (.tup xs) := (upd_ne (ne_of h hl (by intro z; cases z))).trans h
/-! ### alike, from its parts -/
/-! ### the sign by squares -/
def ab (i : Int) : Int := if i < 0 then -i else i
def vl (a b d : Int) : Int := a * ab a + d * b * ab b
def sgnI (x : Int) : Int := (if decide (0 < x) = true then 1 else 0) - (if decide (x < 0) = true then 1 else 0)
theorem sgnI_pos {x : Int} (h : 0 < x) : sgnI x = 1 := by
  unfold sgnI
  rw [if_pos (decide_eq_true h), if_neg (by simp; omega)]
  rfl
theorem sgnI_neg {x : Int} (h : x < 0) : sgnI x = -1 := by
  unfold sgnI
  rw [if_neg (by simp; omega), if_pos (decide_eq_true h)]
  rfl
theorem sgnI_zero : sgnI 0 = 0 := by decide
theorem ab_abs (i : Int) : (ab i).natAbs = i.natAbs := by
  unfold ab
  split <;> omega
theorem ab_neg {i : Int} (h : i < 0) : ab i = -i := if_pos h
theorem ab_nn {i : Int} (h : 0 ≤ i) : ab i = i := if_neg (by omega)
section
variable {base : Heap} {K : PySem.W.Frag} {mg : Str → Option Value} {P : Program} {w : World}
def spSign (K : PySem.W.Frag) : Sp := fun vs H Q _ => ∃ (t : Addr) (d a b : Int), vs = [.ref t, .int d] ∧ SqT K H t [.int a, .int b] ∧ d.natAbs < 2 ^ 64 ∧ a.natAbs < 2 ^ 9000 ∧ b.natAbs < 2 ^ 9000 ∧ Q (.int (sgnI (vl a b d))) H
theorem ok_lsign (T : Txt K mg) : FnOk P w K mg base CX0 1 T.f_lsign T.d_lsign ["_law_pair", "_law_root"] (spSign K) := by
  refine T.F_lsign.ok sc_lsign (fun vs H Q E h => ?_) (fun cdv A outer s H vs Q E hr h => ?_)
  · obtain ⟨t, d, a, b, rfl, _⟩ := h
    rfl
  · obtain ⟨t, d, a, b, rfl, hT, d1, a1, b1, q⟩ := h
    refine ⟨_, (pss_cons (ps_set (i := 2) sc_lsign.nd rfl (Or.inl rfl) (pe_op op_add (pe_op op_mulW (pe_ix ix_tup (pv 0) pe_int (fun _ _ => rfl)) (pe_callB call_abs (by rfl) T.n_abs (by decide +kernel) (pa_cons (pe_ix ix_tup (pv 0) pe_int (fun _ _ => rfl)) pa_nil))) (pe_op op_mulW (pe_op op_mulW (pv 1) (pe_ix ix_tup (pv 0) pe_int (fun _ _ => rfl))) (pe_callB call_abs (by rfl) T.n_abs (by decide +kernel) (pa_cons (pe_ix ix_tup (pv 0) pe_int (fun _ _ => rfl)) pa_nil)))))
      (pss_one (ps_ret (pe_op op_sub (pe_callTy call_int1 (by rfl) T.n_int (by decide +kernel) (pa_cons (pe_cmpR op_gt (pv 2) pe_int (nomark _)) pa_nil)) (pe_callTy call_int1 (by rfl) T.n_int (by decide +kernel) (pa_cons (pe_cmpR op_lt (pv 2) pe_int (nomark _)) pa_nil)))))), ?_⟩
    have a2 : (ab a).natAbs < 2 ^ 9000 := by rw [ab_abs]; exact a1
    have b2 : (ab b).natAbs < 2 ^ 9000 := by rw [ab_abs]; exact b1
    have m1 : (d * b).natAbs < 2 ^ (64 + 9000) := wide_lt d1 b1
    refine ⟨_, rfl, t, _, 0, .int a, rfl, rfl, hT, atI_nat (j := 0) rfl, _, rfl, t, _, 0, .int a, rfl, rfl, hT, atI_nat (j := 0) rfl, a, rfl, a, _, rfl, rfl, wide_mul a1 a2 (by decide) (by decide) (by decide),
      _, rfl, _, rfl, t, _, 1, .int b, rfl, rfl, hT, atI_nat (j := 1) rfl, d, b, rfl, rfl, wide_mul d1 b1 (by decide) (by decide) (by decide), _, rfl, t, _, 1, .int b, rfl, rfl, hT, atI_nat (j := 1) rfl, b, rfl, _, _, rfl, rfl, wide_mul m1 b2 (by decide) (by decide) (by decide), _, _, rfl, rfl, ?_⟩
    exact ⟨_, rfl, vl a b d, 0, rfl, rfl, .inr ⟨_, rfl, _, rfl, vl a b d, 0, rfl, rfl, .inr ⟨_, rfl, _, _, rfl, rfl, q⟩⟩⟩
end
/-! ### sign, compare, is_length -/
section
variable {base : Heap} {K : PySem.W.Frag} {mg : Str → Option Value} {P : Program} {w : World}
def spPSign (K : PySem.W.Frag) : Sp := fun vs H Q _ => ∃ (v : V) (d a b : Int), vs = [v, .int d] ∧ PairAt K H v a b ∧ d.natAbs < 2 ^ 64 ∧ a.natAbs < 2 ^ 9000 ∧ b.natAbs < 2 ^ 9000 ∧ Q (.int (sgnI (vl a b d))) H
theorem ok_sign (T : Txt K mg) : FnOk P w K mg base CX0 1 T.f_sign T.d_sign ["pair", "root"] (spPSign K) := by
  refine T.F_sign.ok sc_sign (fun vs H Q E h => ?_) (fun cdv A outer s H vs Q E hr h => ?_)
  · obtain ⟨t, d, a, b, rfl, _⟩ := h
    rfl
  · obtain ⟨v, d, a, b, rfl, ⟨t, rfl, hT⟩, d1, a1, b1, q⟩ := h
    refine ⟨_, (pss_cons (ps_asg (pv 0) (pg_tup (by rfl) (pgs_cons (pg_name (i := 3) sc_sign.nd rfl (Or.inl rfl)) (pgs_cons (pg_name (i := 4) sc_sign.nd rfl (Or.inl rfl)) pgs_nil))))
      (pss_cons (ps_set (i := 2) sc_sign.nd rfl (Or.inl rfl) (pe_op op_add (pe_op op_mulW (pv 3) (pe_callB call_abs (by rfl) T.n_abs (by decide +kernel) (pa_cons (pv 3) pa_nil))) (pe_op op_mulW (pe_op op_mulW (pv 1) (pv 4)) (pe_callB call_abs (by rfl) T.n_abs (by decide +kernel) (pa_cons (pv 4) pa_nil)))))
      (pss_cons (ps_if (pt_cmpR op_gt (pv 2) pe_int (nomark _)) (pss_one (ps_ret pe_int)) pss_nil)
      (pss_cons (ps_if (pt_cmpR op_lt (pv 2) pe_int (nomark _)) (pss_one (ps_ret (pe_un un_neg pe_int))) pss_nil)
      (pss_one (ps_ret pe_int)))))), ?_⟩
    have a2 : (ab a).natAbs < 2 ^ 9000 := by rw [ab_abs]; exact a1
    have b2 : (ab b).natAbs < 2 ^ 9000 := by rw [ab_abs]; exact b1
    have m1 : (d * b).natAbs < 2 ^ (64 + 9000) := wide_lt d1 b1
    refine ⟨_, rfl, t, _, rfl, hT, rfl, .int a, [.int b], rfl, .int b, [], rfl, rfl, ?_⟩
    refine ⟨_, rfl, _, rfl, a, rfl, a, _, rfl, rfl, wide_mul a1 a2 (by decide) (by decide) (by decide),
      _, rfl, _, rfl, d, b, rfl, rfl, wide_mul d1 b1 (by decide) (by decide) (by decide), _, rfl, b, rfl, _, _, rfl, rfl, wide_mul m1 b2 (by decide) (by decide) (by decide), _, _, rfl, rfl, ?_⟩
    refine ⟨_, rfl, vl a b d, 0, rfl, rfl, _, rfl, ite2 (fun e => ?_) (fun e => ?_)⟩
    · rw [sgnI_pos (of_decide_eq_true e)] at q
      exact q
    · have e1 : ¬ 0 < vl a b d := fun z => e (decide_eq_true z)
      refine ⟨_, rfl, vl a b d, 0, rfl, rfl, _, rfl, ite2 (fun e => ?_) (fun e => ?_)⟩
      · rw [sgnI_neg (of_decide_eq_true e)] at q
        exact ⟨1, rfl, q⟩
      · have e2 : ¬ vl a b d < 0 := fun z => e (decide_eq_true z)
        rw [show vl a b d = 0 by omega, sgnI_zero] at q
        exact q
end
section
variable {base : Heap} {K : PySem.W.Frag} {mg : Str → Option Value} {P : Program} {w : World}
def spIsLen (K : PySem.W.Frag) : Sp := fun vs H Q _ => ∃ (v : V) (d a b : Int), vs = [v, .int d] ∧ PairAt K H v a b ∧ d.natAbs < 2 ^ 64 ∧ a.natAbs < 2 ^ 9000 ∧ b.natAbs < 2 ^ 9000 ∧ Q (.bl (decide (0 < sgnI (vl a b d)))) H
theorem ok_is_length (T : Txt K mg) : FnOk P w K mg base CX0 2 T.f_is_length T.d_is_length ["pair", "root"] (spIsLen K) := by
  refine T.F_is_length.ok sc_is_length (fun vs H Q E h => ?_) (fun cdv A outer s H vs Q E hr h => ?_)
  · obtain ⟨v, d, a, b, rfl, _⟩ := h
    rfl
  · obtain ⟨v, d, a, b, rfl, h1, d1, a1, b1, q⟩ := h
    refine ⟨_, (pss_one (ps_ret (pe_cmpR op_gt (pe_call (ok_sign T) (hr.mono (by decide)) (by rfl) T.g_sign T.F_sign.kp T.b_sign .nil pass0 (pa_cons (pv 0) (pa_cons (pv 1) pa_nil))) pe_int (nomark _)))), ?_⟩
    exact ⟨_, rfl, _, rfl, v, d, a, b, rfl, h1, d1, a1, b1, _, 0, rfl, rfl, q⟩
end
/-! ### whole_root, floor_of -/
theorem bits_up {n : Int} (h : 0 ≤ n) : n < 2 ^ (Builtin.Int.intBits n) := by
  obtain ⟨m, rfl⟩ := Int.eq_ofNat_of_zero_le h
  have h1 : (m : Int).natAbs = m := rfl
  have h2 : m < 2 ^ (Builtin.Int.intBits (m : Int)) := by
    unfold Builtin.Int.intBits
    rw [h1]
    split
    · rename_i z
      have z' : m = 0 := by
        first
          | exact z
          | (have := z; simp at this; omega)
      subst z'
      decide
    · exact Nat.lt_log2_self
  have h3 : ((m : Nat) : Int) < ((2 ^ (Builtin.Int.intBits (m : Int)) : Nat) : Int) := by exact_mod_cast h2
  rw [Int.natCast_pow] at h3
  exact h3
theorem bits_le {n : Int} {k : Nat} (hk : 0 < k) (h : n.natAbs < 2 ^ k) : Builtin.Int.intBits n ≤ k := by
  have := PySem.Flt.log2_lt_of hk h
  unfold Builtin.Int.intBits
  split
  · omega
  · omega
theorem guess_up {n : Int} {k : Nat} (h : 0 ≤ n) (hk : Builtin.Int.intBits n ≤ 2 * k) : n < (1 * 2 ^ k + 1) * (1 * 2 ^ k + 1) := by
  have h1 := bits_up h
  have h2 : (2 : Int) ^ (Builtin.Int.intBits n) ≤ 2 ^ (2 * k) := by
    have : 2 ^ (Builtin.Int.intBits n) ≤ 2 ^ (2 * k) := Nat.pow_le_pow_right (by decide) hk
    exact_mod_cast this
  have h3 : (2 : Int) ^ (2 * k) = 2 ^ k * 2 ^ k := by
    rw [Nat.two_mul, Int.pow_add]
  have h4 : (0 : Int) ≤ 2 ^ k := by
    have : 0 ≤ (2 ^ k : Nat) := Nat.zero_le _
    exact_mod_cast this
  rw [h3] at h2
  generalize (2 : Int) ^ k = x at h2 h4 ⊢
  grind
section
variable {base : Heap} {K : PySem.W.Frag} {mg : Str → Option Value} {P : Program} {w : World}
def spWhole : Sp := fun vs H Q _ => ∃ n : Int, vs = [.int n] ∧ 0 ≤ n ∧ n.natAbs < 2 ^ 8000 ∧ ∀ g : Int, 0 ≤ g → g * g ≤ n → n < (g + 1) * (g + 1) → Q (.int g) H
def WRoot (n : Int) (H : Hp) (m : Nat) (σ : L2.St) (H' : Hp) : Prop := ∃ g : Int, σ = [some (.int n), some (.int g)] ∧ H' = H ∧ 0 ≤ g ∧ g.natAbs < 2 ^ 4002 ∧ n < (g + 1) * (g + 1) ∧ m = g.toNat
theorem ok_whole_root (T : Txt K mg) : FnOk P w K mg base CX0 1 T.f_whole_root T.d_whole_root ["number"] spWhole := by
  refine T.F_whole_root.ok sc_whole_root (fun vs H Q E h => ?_) (fun cdv A outer s H vs Q E hr h => ?_)
  · obtain ⟨n, rfl, _⟩ := h
    rfl
  · obtain ⟨n, rfl, n0, n1, q⟩ := h
    refine ⟨_, (pss_cons (ps_set (i := 1) sc_whole_root.nd rfl (Or.inl rfl) (pe_op op_shl pe_int (pe_op op_fdiv (pe_op op_add (pe_bits (pv 0)) pe_int) pe_int)))
      (pss_cons (ps_while PassesOwn.never (pt_cmpR op_gt (pe_op op_mulW (pv 1) (pv 1)) (pv 0) (nomark _)) (pss_one (ps_set (i := 1) sc_whole_root.nd rfl (Or.inl rfl) (pe_op op_fdiv (pe_op op_add (pv 1) (pe_op op_fdivW (pv 0) (pv 1))) pe_int))))
      (pss_one (ps_ret (pv 1))))), ?_⟩
    have hb := bits_le (by decide) n1
    have e1 : (((Builtin.Int.intBits n : Nat) : Int) + 1) / 2 = (((Builtin.Int.intBits n + 1) / 2 : Nat) : Int) := by omega
    have e2 : ((((Builtin.Int.intBits n : Nat) : Int) + 1) / 2).toNat = (Builtin.Int.intBits n + 1) / 2 := by rw [e1]; rfl
    refine ⟨_, rfl, n, rfl, _, 1, rfl, rfl, _, 2, rfl, rfl, ⟨by decide, by decide⟩, 1, _, rfl, rfl, ⟨by omega, by omega, by decide⟩, ?_⟩
    dsimp only
    rw [e2]
    refine ⟨WRoot n H, ⟨_, (1 * 2 ^ ((Builtin.Int.intBits n + 1) / 2)), rfl, rfl, ?_, ?_, guess_up n0 (by omega), rfl⟩, ?_⟩
    · have : 0 ≤ (2 ^ ((Builtin.Int.intBits n + 1) / 2) : Nat) := Nat.zero_le _
      have z : (0 : Int) ≤ 2 ^ ((Builtin.Int.intBits n + 1) / 2) := by exact_mod_cast this
      omega
    · rw [Int.one_mul, Int.natAbs_pow]
      exact Nat.pow_lt_pow_right (by decide) (by omega)
    · rintro m σ H' ⟨g, rfl, rfl, g0, g1, g2, rfl⟩
      refine ⟨_, rfl, _, rfl, g, g, rfl, rfl, wide_mul g1 g1 (by decide) (by decide) (by decide), _, rfl, _, n, rfl, rfl, _, rfl, ite2 (fun e => ?_) (fun e => ?_)⟩
      · have e' : n < g * g := of_decide_eq_true e
        have gp : 0 < g := by
          rcases Int.lt_or_le 0 g with z | z
          · exact z
          · have : g = 0 := by omega
            rw [this] at e'
            omega
        refine ⟨fun σ' H'' => ∃ m', m' < g.toNat ∧ WRoot n H' m' σ' H'', fun _ _ z => z, ?_⟩
        have d1 := newton_dn gp e'
        have d2 := newton_nn gp n0
        refine ⟨_, rfl, _, rfl, _, rfl, n, g, rfl, rfl, wide_div gp g1 (by decide) (by decide), g, _, rfl, rfl, _, 2, rfl, rfl, ⟨by decide, by decide⟩, ?_⟩
        exact ⟨_, by omega, (g + n / g) / 2, rfl, rfl, d2, Nat.lt_of_le_of_lt (by omega) g1, newton_up gp n0, rfl⟩
      · have e' : ¬ n < g * g := fun z => e (decide_eq_true z)
        exact ⟨_, rfl, q g g0 (by omega) g2⟩
end
/-! ### is_root, check_root -/
def isRB (n : Int) : Bool := decide (2 ≤ n ∧ n ≤ 99) && okR n
theorem sq_dec : ∀ n : Nat, n < 100 → 2 ≤ n → ∀ g : Nat, g < 10 → g * g ≤ n → n < (g + 1) * (g + 1) → (!decide (g * g = n)) = okR (n : Int) := by decide +kernel
theorem isR_of {n g : Int} (h0 : 2 ≤ n) (h1 : n ≤ 99) (g0 : 0 ≤ g) (g1 : g * g ≤ n) (g2 : n < (g + 1) * (g + 1)) : (!decide (V.int (g * g) = V.int n)) = isRB n := by
  obtain ⟨m, rfl⟩ := Int.eq_ofNat_of_zero_le (show 0 ≤ n by omega)
  obtain ⟨k, rfl⟩ := Int.eq_ofNat_of_zero_le g0
  have hk : k < 10 := by
    rcases Nat.lt_or_ge k 10 with z | z
    · exact z
    · have := sq_le (show (0 : Int) ≤ 10 by decide) (show (10 : Int) ≤ (k : Int) by omega)
      omega
  have := sq_dec m (by omega) (by omega) k hk (by exact_mod_cast g1) (by exact_mod_cast g2)
  unfold isRB
  have e99 : decide (2 ≤ (m : Int) ∧ (m : Int) ≤ 99) = true := decide_eq_true ⟨h0, h1⟩
  rw [e99, Bool.true_and, ← this]
  congr 1
  by_cases z : k * k = m
  · rw [decide_eq_true z, decide_eq_true (by subst z; rw [Int.natCast_mul])]
  · rw [decide_eq_false z, decide_eq_false (fun e => z (by have := V.int.inj e; exact_mod_cast this))]
section
variable {base : Heap} {K : PySem.W.Frag} {mg : Str → Option Value} {w : World}
def spIsRoot : Sp := fun vs H Q _ => ∃ n : Int, vs = [.int n] ∧ Q (.bl (isRB n)) H
theorem ok_is_root {P : Program} (T : Txt K mg) : FnOk P w K mg base CX0 2 T.f_is_root T.d_is_root ["number"] spIsRoot := by
  refine T.F_is_root.ok sc_is_root (fun vs H Q E h => ?_) (fun cdv A outer s H vs Q E hr h => ?_)
  · obtain ⟨n, rfl, _⟩ := h
    rfl
  · obtain ⟨n, rfl, q⟩ := h
    refine ⟨_, (pss_cons (ps_if (PW.pt (pw_or (pt_cmpR op_lt (pv 0) pe_int (nomark _)) (pw_or1 (pt_cmpR op_gt (pv 0) pe_int (nomark _))))) (pss_one (ps_ret pe_bl)) pss_nil)
      (pss_cons (ps_set (i := 1) sc_is_root.nd rfl (Or.inl rfl) (pe_call (ok_whole_root T) (hr.mono (by decide)) (by rfl) T.g_whole_root T.F_whole_root.kp T.b_whole_root .nil pass0 (pa_cons (pv 0) pa_nil)))
      (pss_one (ps_ret (pe_cmpR op_ne (pe_op op_mulW (pv 1) (pv 1)) (pv 0) (nomark _)))))), ?_⟩
    refine ⟨_, rfl, n, 2, rfl, rfl, _, rfl, ite2 (fun e => ?_) (fun e => ?_)⟩
    · have : ¬ (2 ≤ n ∧ n ≤ 99) := by have := of_decide_eq_true e; omega
      unfold isRB at q
      rw [decide_eq_false this] at q
      exact q
    refine ⟨_, rfl, n, 99, rfl, rfl, _, rfl, ite2 (fun e2 => ?_) (fun e2 => ?_)⟩
    · have : ¬ (2 ≤ n ∧ n ≤ 99) := by have := of_decide_eq_true e2; omega
      unfold isRB at q
      rw [decide_eq_false this] at q
      exact q
    have h2 : 2 ≤ n := by
      have : ¬ n < 2 := fun z => e (decide_eq_true z)
      omega
    have h99 : n ≤ 99 := by
      have : ¬ n > 99 := fun z => e2 (decide_eq_true z)
      omega
    refine ⟨_, rfl, n, rfl, by omega, Nat.lt_of_le_of_lt (show n.natAbs ≤ 99 by omega) (Nat.lt_of_lt_of_le (show 99 < 2 ^ 7 by decide) (Nat.pow_le_pow_right (by decide) (by decide))), fun g g0 g1 g2 => ?_⟩
    have gb : g.natAbs < 2 ^ 7 := by
      have : g ≤ 99 := by
        rcases Int.lt_or_le 99 g with z | z
        · have := sq_le (show (0 : Int) ≤ 99 by decide) (Int.le_of_lt z)
          omega
        · exact z
      show g.natAbs < 128
      omega
    refine ⟨_, rfl, _, rfl, g, g, rfl, rfl, wide_mul gb gb (by decide) (by decide) (by decide), _, rfl, rfl, ?_⟩
    rw [isR_of h2 h99 g0 g1 g2]
    exact q
end
/-! ### what is asked of the def that asks -/
section
variable {X : Cx} {k : Nat} {c P0 : Addr} {params : Arguments} {body d : Expr} {v0 : V} {scope : Scope} {t : XK → TE} {p lpos pos : Pos} {b : Str}
theorem one_tab {P0 : Addr} {q : Str} : ∀ p ∈ [(P0, q)], p.1 = P0 → p.2 = q := by
  intro p hp _
  rw [List.mem_singleton.mp hp]
theorem pe_try (T : Txt X.K X.mg) (hg : Gl X "_law_try") (TB : LamX.TabB X.base X.mg c P0) (hcode : X.env.code = .ref c) (hr : Room (k + 3) X.A) (L : LamX.LamS X.env.scope scope) (hdef : defaultsOf params X.env = ([], []))
    (hbind : ∀ (q : Str) (cl : List (Str × Addr)) (pm cv ctv : Value), bindArgs (PySem.W.kla_fn "<lambda>" q params body scope cl pm cv ctv) ⟨[], []⟩ = pure [])
    (hbody : ∀ (A : Around) (outer : List Env) (s : Shared) (H : Hp) (E : XK) (f c' : Addr), Room (k + 1) (A.deeper (LamX.lamEnv X scope s.heap.objs.size f c')) → PE (LamX.lamCx X A outer s H E scope f c') body (t E)) :
    PE X (.Call (.Name "_law_try" p) [.Lambda params body scope lpos] [] pos) (LamX.tLam [(P0, X.env.qual ++ "<lambda>")] (TTry X.K T.r_GrainError) t) := by
  obtain ⟨oc2, od2, kV2, doc2, pm2, an2, cdv2, ct2, osl2, eT, lkT, cdT⟩ := T.F_try.ex
  have bT := T.b_try
  rw [eT] at bT
  rw [eT] at lkT
  exact LamX.pe_lamcall hg T.g_try T.F_try.kp lkT cdT bT sc_try rfl (Or.inl rfl) (try_gives T rfl rfl (k := k) hr) TB hcode (List.mem_singleton.mpr rfl) one_tab hr L hdef hbind hbody
theorem pass_never {X : Cx} {P : Program} {w : World} : Passes (L2.CX P w) X (fun _ _ _ => False) := by
  intro pins σ H s e s' I z
  obtain ⟨_, _, _, _, _, _, _, _, _, _, _, _, he⟩ := z
  exact he.elim
end
/-! ### an error of the first kind, told -/
section
variable {P : Program} {K : PySem.W.Frag} {mg : Str → Option Value} {G : Addr} {st : Stmt} {nm qual : Str} {B newId initId : String} {bmB : List Value}
theorem exm_er (T : Er P K mg B newId initId bmB [.ref G] st nm qual) {cg : ClassData} (hg : PySem.W.clsIn K G = some cg) (tg : PySem.W.typeIn K (.ref G) = some (.type "type")) (sb : PySem.W.subIn K (.ref G) (.type "BaseException") = some true) : PySem.W.exmOne K (.ref T.C) (.ref G) = some true := by
  unfold PySem.W.exmOne
  rw [if_pos (by rw [sb]; rfl)]
  unfold PySem.W.kitCls
  dsimp only
  rw [hg, tg, if_pos (show ((some cg).isSome && some (Value.type "type") == some (Value.type "type")) = true from show (true && some (Value.type "type") == some (Value.type "type")) = true by decide +kernel)]
  show PySem.W.mroIn K T.C (.ref G) = _
  obtain ⟨cd, hc, _, hm⟩ := T.cl
  unfold PySem.W.mroIn
  rw [hc, Option.bind_some, hm]
  show some ((Value.ref T.C :: ([Value.ref G] ++ _)).contains (.ref G)) = some true
  congr 1
  rw [List.contains_cons, List.cons_append, List.contains_cons, beq_self_eq_true]
  simp
theorem raised_er (T : Er P K mg B newId initId bmB [.ref G] st nm qual) {cg : ClassData} (hg : PySem.W.clsIn K G = some cg) (tg : PySem.W.typeIn K (.ref G) = some (.type "type")) (sb : PySem.W.subIn K (.ref G) (.type "BaseException") = some true)
    {w : Str} {fs : List (Str × V)} {v : V} (no : ∀ f v, fs.lookup f = some v → PySem.W.findIn K (.ref T.C) f = some none) (wd : fs.lookup ("word" : Str) = some (.str w)) (fv : fieldVal w fs = some v)
    {Q : VK} {d : Addr} {Hf : Hp} (hd : Hf d = some (.xd fs)) (q : Told Q w v Hf) : Raised K G Q (.ref T.C) (some d) Hf :=
  ⟨exm_er T hg tg sb, w, fs, v, ⟨⟨_, d, rfl, rfl, xfc_of T, hd, no⟩, wd⟩, fv, q⟩
theorem no_two {C : Addr} {f1 : Str} {v1 v2 : V} (h1 : PySem.W.findIn K (.ref C) f1 = some none) (h2 : PySem.W.findIn K (.ref C) "word" = some none) : ∀ f v, List.lookup f [(f1, v1), (("word" : Str), v2)] = some v → PySem.W.findIn K (.ref C) f = some none := by
  intro f v e
  simp only [List.lookup] at e
  split at e
  · rename_i z
    rw [eq_of_beq z]
    exact h1
  · split at e
    · rename_i z
      rw [eq_of_beq z]
      exact h2
    · cases e
end
/-! ### what stays where lambdas are made -/
theorem Bag.extN {H H' : Hp} {b sb : Addr} (B : Bag H b sb) (e : LamX.ExtN H H') : Bag H' b sb := by
  obtain ⟨ns, i, j, m, c, h1, h2, h3, h4, h5, h6⟩ := B
  exact ⟨ns, i, j, m, c, e _ _ h1 (fun _ z => by cases z), e _ _ h2 (fun _ z => by cases z), h3, h4, h5, h6⟩
theorem lst_extN {H H' : Hp} {a : Addr} {xs : List V} (h : H a = some (.lst xs)) (e : LamX.ExtN H H') : H' a = some (.lst xs) := e _ _ h (fun _ z => by cases z)
theorem tup_extN {H H' : Hp} {a : Addr} {xs : List V} (h : H a = some (.tup xs)) (e : LamX.ExtN H H') : H' a = some (.tup xs) := e _ _ h (fun _ z => by cases z)
theorem tabs_keep {H H' : Hp} {b sb : Addr} {T : List (Addr × Str)} (t : LamX.Tabs T H) (B : Bag H b sb) (k : Keep b H H') : LamX.Tabs T H' := by
  intro p hp
  obtain ⟨ps, h1, h2, h3⟩ := t p hp
  obtain ⟨ns, i, j, m, c, B⟩ := B
  refine ⟨ps, k _ _ (ne_of h1 B.hb (by intro z; cases z)) h1, h2, fun pos cv hc => ?_⟩
  obtain ⟨c', e1, e2⟩ := h3 pos cv hc
  exact ⟨c', e1, k _ _ (ne_of e2 B.hb (by intro z; unfold LamX.CodeO at z; cases z)) e2⟩
/-! ### heaps, with what is wrong in them told -/
section
variable {X : Cx}
theorem pi_seq {tg e : Expr} {t : TE} (h : PE X e t) : PI X tg e (fun σ H R => iList X.K t σ H R ∨ iTup X.K t σ H R) := PI.or (pi_list h) (pi_tup h)
/-- d.items() -/
theorem pe_itemsDS {o : Expr} {apos cpos : Pos} {td : TE} (ho : PE X o td) (hb : attributeBase o "items" X.env (eval o X.env) = eval o X.env := by rfl) (hl : (apos.endLine == cpos.line) = true := by rfl) :
    PE X (.Call (.Attribute o "items" apos) [] [] cpos) (fun σ H Q => td σ H fun v G => rItemsDS X.prog X.w v [] G Q) := by
  constructor
  intro pins s σ H Q I h
  apply wpAny_Call_method0_late hb hl
  refine thn (ho.run pins s σ H _ I h) ?_
  rintro u s1 ⟨v, G, I1, rv, d, es, rfl, _, D, q⟩
  cases rv
  obtain ⟨t1, t2⟩ := ds_dict I1 D.rd
  exact ⟨"dict", "dict.items", PySem.F.plainAttrs_dict, PySem.F.slot_dict_items, PySem.F.type_dict_items, t1, t2, Calls.callWith_builtin rfl (PySem.evalArgs_none (mt_itemsDS pins s1 σ G (.ref d) [] (.ref d) [] Q I1 rfl .nil ⟨d, es, rfl, rfl, D, q⟩))⟩
end
/-- a for over enumerate of a list that stays -/
theorem for_enumL {K : PySem.W.Frag} {a : Addr} {xs : List V} {g : TG} {tb : TS} {D : Ends} {σ : L2.St} {H : Hp} (Pv : Nat → L2.St → Hp → Prop) (h0 : Pv 0 σ H) (hl : ∀ i τ G, i ≤ xs.length → Pv i τ G → SqL K G a xs)
    (turn : ∀ i x τ G T, xs[i]? = some x → Pv i τ G → G T = none → g (.ref T) τ (upd G T (.tup [.int (i : Nat), x])) fun τ2 G2 => tb { D with nx := Pv (i + 1), ct := Pv (i + 1), bk := D.nx } τ2 G2) (fin : ∀ τ G, Pv xs.length τ G → D.nx τ G) :
    ∃ W : Nat → Nat → L2.St → Hp → Prop, (∃ m, W 0 m σ H) ∧ ∀ i m τ G, W i m τ G → ((Ite K a).stop i G ∧ D.nx τ G) ∨ ((Ite K a).go i G ∧ ∃ N : L2.St → Hp → Prop, (∀ τ' G', N τ' G' → ∃ m', m' < m ∧ W (i + 1) m' τ' G') ∧
      ∀ x G', (Ite K a).yld i G x G' → g x τ G' fun τ2 G2 => tb { D with nx := N, ct := N, bk := D.nx } τ2 G2) := by
  refine ⟨fun i m τ G => m + i = xs.length ∧ Pv i τ G, ⟨xs.length, rfl, h0⟩, ?_⟩
  rintro i m τ G ⟨hm, pv⟩
  have sq := hl i τ G (by omega) pv
  cases m with
  | zero =>
    obtain rfl : i = xs.length := by omega
    exact .inl ⟨⟨xs, sq, Nat.le_refl _⟩, fin τ G pv⟩
  | succ m =>
    refine .inr ⟨⟨xs, xs[i], sq, List.getElem?_eq_getElem (by omega)⟩, Pv (i + 1), fun τ' G' z => ⟨m, Nat.lt_succ_self m, by omega, z⟩, ?_⟩
    rintro x G' ⟨T, y, rfl, hT, rfl, at_⟩
    exact turn i y τ G T (at_ xs sq) pv hT
/-! rows, as they are handed in -/
def LenOk (d a b : Int) : Prop := 0 < vl a b d ∧ a.natAbs < 2 ^ 100 ∧ b.natAbs < 2 ^ 100
def ShOk (d : Int) (x : Sh) : Prop := LenOk d x.1 x.2.1 ∧ LenOk d x.2.2.1 x.2.2.2
def EsOk (d : Int) (es : DEs) : Prop := ∀ e ∈ es, ShOk d e.1 ∧ 1 ≤ e.2.2
/-- the rows es, in a list -/
inductive Handed (K : PySem.W.Frag) (H : Hp) : V → DEs → Prop
  | list {l : Addr} {as : List Addr} {es : DEs} (hl : SqL K H l (as.map V.ref)) (hr : RowsAt H as es) (hk : ∀ e ∈ es, ShAt H e.2.1 e.1) : Handed K H (.ref l) es
theorem Handed.same {K : PySem.W.Frag} {H H' : Hp} {r : V} {es : DEs} (h : Handed K H r es) (s : Same H H') : Handed K H' r es := by
  cases h with
  | list hl hr hk => exact .list (Same.seq s hl) (hr.mono fun p xs z => s _ _ z) fun e he => (hk e he).same s
theorem RowsAt.row {H : Hp} {as : List Addr} {es : DEs} (h : RowsAt H as es) {i : Nat} {v : V} (hv : (as.map V.ref)[i]? = some v) : ∃ a e, v = .ref a ∧ es[i]? = some e ∧ H a = some (.tup [.ref e.2.1, .int e.2.2]) := by
  rw [List.getElem?_map] at hv
  cases ha : as[i]? with
  | none =>
    rw [ha] at hv
    cases hv
  | some a =>
    rw [ha] at hv
    obtain ⟨e, he, z⟩ := Paired.getL h ha
    exact ⟨a, e, (Option.some.inj hv).symm, he, z⟩
theorem RowsAt.len {H : Hp} {as : List Addr} {es : DEs} (h : RowsAt H as es) : as.length = es.length := Paired.length h
theorem w100 {x : Int} (h : x.natAbs < 2 ^ 100) : x.natAbs < 2 ^ 9000 := Nat.lt_of_lt_of_le h (Nat.pow_le_pow_right (by decide) (by decide))
/-- whether a tuple of two pairs is a sheet, whether a row has a sheet and a count -/
def shB (d : Int) (x : Sh) : Bool := decide (0 < vl x.1 x.2.1 d) && decide (0 < vl x.2.2.1 x.2.2.2 d)
def rowB (d : Int) (e : Sh × Addr × Int) : Bool := decide (1 ≤ e.2.2) && shB d e.1
def Sh100 (x : Sh) : Prop := x.1.natAbs < 2 ^ 100 ∧ x.2.1.natAbs < 2 ^ 100 ∧ x.2.2.1.natAbs < 2 ^ 100 ∧ x.2.2.2.natAbs < 2 ^ 100
theorem ShOk.b {d : Int} {x : Sh} (h : ShOk d x) : shB d x = true ∧ Sh100 x := ⟨by unfold shB; rw [decide_eq_true h.1.1, decide_eq_true h.2.1]; rfl, h.1.2.1, h.1.2.2, h.2.2.1, h.2.2.2⟩
theorem sg_pos (a b d : Int) : decide (0 < sgnI (vl a b d)) = decide (0 < vl a b d) := by
  rcases Int.lt_trichotomy (vl a b d) 0 with h | h | h
  · rw [sgnI_neg h, decide_eq_false (by decide), decide_eq_false (by omega)]
  · rw [h]
    rfl
  · rw [sgnI_pos h, decide_eq_true h]
    rfl
section
variable {base : Heap} {K : PySem.W.Frag} {mg : Str → Option Value} {P : Program} {w : World}
def spIsSheet (K : PySem.W.Frag) : Sp := fun vs H Q _ => ∃ (p : Addr) (d : Int) (x : Sh), vs = [.ref p, .int d] ∧ ShAt H p x ∧ d.natAbs < 2 ^ 64 ∧ Sh100 x ∧ Q (.bl (shB d x)) H
theorem ok_is_sheet (T : Txt K mg) : FnOk P w K mg base CX0 3 T.f_is_sheet T.d_is_sheet ["sheet", "root"] (spIsSheet K) := by
  refine T.F_is_sheet.ok sc_is_sheet (fun vs H Q E h => ?_) (fun cdv A outer s H vs Q E hr h => ?_)
  · obtain ⟨p, d, x, rfl, _⟩ := h
    rfl
  · obtain ⟨p, d, x, rfl, ⟨u, v, h1, h2, h3⟩, hd, ⟨b1, b2, b3, b4⟩, q⟩ := h
    refine ⟨_, (pss_cons (ps_asg (pv 0) (pg_tup (by rfl) (pgs_cons (pg_name (i := 2) sc_is_sheet.nd rfl (Or.inl rfl)) (pgs_cons (pg_name (i := 3) sc_is_sheet.nd rfl (Or.inl rfl)) pgs_nil))))
      (pss_one (ps_ret (pe_and (pe_call (ok_is_length T) (hr.mono (by decide)) (by rfl) T.g_is_length T.F_is_length.kp T.b_is_length .nil pass0 (pa_cons (pv 2) (pa_cons (pv 1) pa_nil))) (pe_one (pe_call (ok_is_length T) (hr.mono (by decide)) (by rfl) T.g_is_length T.F_is_length.kp T.b_is_length .nil pass0 (pa_cons (pv 3) (pa_cons (pv 1) pa_nil)))))))), ?_⟩
    refine ⟨_, rfl, p, _, rfl, SqT.of h1, rfl, .ref u, _, rfl, .ref v, _, rfl, rfl, ?_⟩
    refine ⟨_, rfl, _, rfl, .ref u, d, _, _, rfl, ⟨u, rfl, SqT.of h2⟩, hd, w100 b1, w100 b2, _, (by rw [sg_pos]), ?_⟩
    unfold shB at q
    cases z : decide (0 < vl x.1 x.2.1 d) with
    | false =>
      rw [z, Bool.false_and] at q
      exact iteF q
    | true =>
      rw [z, Bool.true_and] at q
      refine iteT ⟨_, rfl, _, rfl, .ref v, d, _, _, rfl, ⟨v, rfl, SqT.of h3⟩, hd, w100 b3, w100 b4, ?_⟩
      rw [sg_pos]
      exact q
/-- an error of one number, made and raised -/
def Throws (C : Addr) (fs : List (Str × V)) (H : Hp) (E : XK) : Prop := ∀ x Hf, H x = none → Same H Hf → Hf x = some (.xd fs) → E (.ref C) (some x) Hf
theorem Throws.up {C : Addr} {fs : List (Str × V)} {H H1 : Hp} {E : XK} (h : Throws C fs H E) (s : Same H H1) : Throws C fs H1 E := fun x Hf hx s1 f1 => h x Hf (s.free hx) (s.trans s1) f1
def badRow (i : Nat) : List (Str × V) := [("at", .int (i : Int)), ("word", .str "BadRow")]
def badRoot (n : V) : List (Str × V) := [("number", n), ("word", .str "BadRoot")]
end
section
variable {base : Heap} {K : PySem.W.Frag} {mg : Str → Option Value} {w : World}
def spCkRoot (T : Txt K mg) : Sp := fun vs H Q E => ∃ n : Int, vs = [.int n] ∧ (isRB n = true → Q .non H) ∧ (isRB n = false → Throws T.e_BadRoot.C (badRoot (.int n)) H E)
theorem ok_check_root (T : Txt K mg) : FnOk PySem.Challenge.pw_grainyard_k21_reverse_steps w K mg base (L2.CX PySem.Challenge.pw_grainyard_k21_reverse_steps w) 3 T.f_check_root T.d_check_root ["root"] (spCkRoot T) := by
  refine T.F_check_root.okX sc_check_root (fun vs H Q E h => ?_) (fun cdv A outer s H vs Q E hr h => ?_)
  · obtain ⟨n, rfl, _⟩ := h
    rfl
  · obtain ⟨n, rfl, q1, q2⟩ := h
    refine ⟨_, (pss_one (ps_if (pt_not (pt_val (pe_call (ok_is_root T) (hr.mono (by decide)) (by rfl) T.g_is_root T.F_is_root.kp T.b_is_root .nil pass0 (pa_cons (pv 0) pa_nil)))) (pss_one (ps_raise rfl (takes_of rfl rfl rfl rfl) (pmk_oex (oex_of T.e_BadRoot) T.e_BadRoot.iC T.e_BadRoot.tI (ini_BadRoot T) (hr.mono (by decide)) (bi_BadRoot T) .nil pass0 (by rfl) T.e_BadRoot.g (pa_cons (pv 0) pa_nil)))) pss_nil)), ?_⟩
    refine ⟨_, rfl, n, rfl, _, rfl, ?_⟩
    cases e : isRB n with
    | true => exact iteF (q1 e)
    | false => exact iteT ⟨_, rfl, mk_use rfl (by decide) fun d Hf hd s1 f1 => q2 e d Hf hd s1 f1⟩
def Es100 (es : DEs) : Prop := ∀ e ∈ es, Sh100 e.1
def FirstBad (d : Int) (es : DEs) (i : Nat) : Prop := (∃ e, es[i]? = some e ∧ rowB d e = false) ∧ ∀ j f, j < i → es[j]? = some f → rowB d f = true
def spCkRows (T : Txt K mg) : Sp := fun vs H Q E => ∃ (r : V) (d : Int) (es : DEs), vs = [r, .int d] ∧ Handed K H r es ∧ d.natAbs < 2 ^ 64 ∧ Es100 es ∧ ((∀ e ∈ es, rowB d e = true) → ∀ H', Same H H' → Q .non H') ∧ (∀ i, FirstBad d es i → Throws T.e_BadRow.C (badRow i) H E)
theorem ok_check_rows (T : Txt K mg) : FnOk PySem.Challenge.pw_grainyard_k21_reverse_steps w K mg base (L2.CX PySem.Challenge.pw_grainyard_k21_reverse_steps w) 4 T.f_check_rows T.d_check_rows ["rows", "root"] (spCkRows T) := by
  refine T.F_check_rows.okX sc_check_rows (fun vs H Q E h => ?_) (fun cdv A outer s H vs Q E hr h => ?_)
  · obtain ⟨r, d, es, rfl, _⟩ := h
    rfl
  · obtain ⟨r, d, es, rfl, hh, hd, b, q1, q2⟩ := h
    refine ⟨_, (pss_one (ps_for (passes_of rfl) rfl (PI.or (pi_enum (by rfl) T.n_enumerate (pa_cons (pv 0) pa_nil)) (pi_enumT (by rfl) T.n_enumerate (pa_cons (pv 0) pa_nil))) (pg_tup (by rfl) (pgs_cons (pg_name (i := 2) sc_check_rows.nd rfl (Or.inl rfl)) (pgs_cons (pg_tup (by rfl) (pgs_cons (pg_name (i := 3) sc_check_rows.nd rfl (Or.inl rfl)) (pgs_cons (pg_name (i := 4) sc_check_rows.nd rfl (Or.inl rfl)) pgs_nil))) pgs_nil))) (pss_one (ps_if (PW.pt (pw_or (pt_cmpR op_lt (pv 4) pe_int (nomark _)) (pw_or1 (pt_not (pt_val (pe_call (ok_is_sheet T) (hr.mono (by decide)) (by rfl) T.g_is_sheet T.F_is_sheet.kp T.b_is_sheet .nil pass0 (pa_cons (pv 3) (pa_cons (pv 1) pa_nil)))))))) (pss_one (ps_raise rfl (takes_of rfl rfl rfl rfl) (pmk_oex (oex_of T.e_BadRow) T.e_BadRow.iC T.e_BadRow.tI (ini_BadRow T) (hr.mono (by decide)) (bi_BadRow T) .nil pass0 (by rfl) T.e_BadRow.g (pa_cons (pv 2) pa_nil)))) pss_nil)))), ?_⟩
    have all : ∀ n, n = es.length → (∀ j f, j < n → es[j]? = some f → rowB d f = true) → ∀ e ∈ es, rowB d e = true := by
      intro n hn g e he
      obtain ⟨j, hj⟩ := List.mem_iff_getElem?.mp he
      exact g j e (by rw [hn]; exact (List.getElem?_eq_some_iff.mp hj).1) hj
    cases hh with
    | @list l as _ hl hr hk =>
      refine .inl ⟨_, rfl, l, _, rfl, hl, for_enumL (K := K) (a := l) (xs := as.map V.ref) (fun i σ H' => ∃ y2 y3 y4, σ = [some (.ref l), some (.int d), y2, y3, y4] ∧ Same H H' ∧ ∀ j f, j < i → es[j]? = some f → rowB d f = true) ⟨_, _, _, rfl, Same.refl _, fun j f hj => absurd hj (Nat.not_lt_zero _)⟩ ?_ ?_ ?_⟩
      · rintro i τ G hi ⟨_, _, _, _, s, _⟩
        exact Same.seq s hl
      · rintro i x τ G T1 hx ⟨y2, y3, y4, rfl, s, good⟩ hT
        obtain ⟨a, e, rfl, he, ha⟩ := hr.row hx
        have s1 := s.trans (same_new (o := .tup [.int (i : Nat), .ref a]) hT)
        have me := List.mem_of_getElem? he
        refine ⟨T1, _, rfl, SqT.of upd_same, rfl, .int i, _, rfl, .ref a, _, rfl, a, _, rfl, SqT.of (s1 _ _ ha), rfl, .ref e.2.1, _, rfl, .int e.2.2, _, rfl, rfl, rfl, ?_⟩
        have bad : rowB d e = false → Throws T.e_BadRow.C (badRow i) (upd G T1 (.tup [.int (i : Nat), .ref a])) E := fun z => (q2 i ⟨⟨e, he, z⟩, good⟩).up s1
        refine ⟨_, rfl, e.2.2, 1, rfl, rfl, _, rfl, ite2 (fun z => ?_) (fun z => ?_)⟩
        · refine ⟨_, rfl, mk_use rfl (by decide) fun x Hf hx s2 f2 => bad ?_ x Hf hx s2 f2⟩
          have z := of_decide_eq_true z
          unfold rowB
          rw [decide_eq_false (by omega)]
          rfl
        · have z1 : 1 ≤ e.2.2 := by
            have : ¬ e.2.2 < 1 := fun q => z (decide_eq_true q)
            omega
          refine ⟨_, rfl, _, rfl, e.2.1, d, e.1, rfl, (hk e me).same s1, hd, b e me, _, rfl, ?_⟩
          cases q : shB d e.1 with
          | true =>
            refine iteF ⟨_, _, _, rfl, s1, fun j f hj hf => ?_⟩
            rcases Nat.lt_succ_iff_lt_or_eq.mp hj with l | rfl
            · exact good j f l hf
            · cases he.symm.trans hf
              unfold rowB
              rw [decide_eq_true z1, q]
              rfl
          | false =>
            refine iteT ⟨_, rfl, mk_use rfl (by decide) fun x Hf hx s2 f2 => bad ?_ x Hf hx s2 f2⟩
            unfold rowB
            rw [q, Bool.and_false]
      · rintro τ G ⟨_, _, _, rfl, s, good⟩
        rw [List.length_map, hr.len] at good
        exact q1 (all _ rfl good) _ s
end
section
variable {base : Heap} {K : PySem.W.Frag} {mg : Str → Option Value} {P : Program} {w : World}
/-- what a dict that is made is told by -/
def NewD (P : Program) (w : World) (H : Hp) (es : DEs) (Q : VK) : Prop := ∀ d H', H d = none → Same H H' → DAt P w H' d es → Q (.ref d) H'
def spMerged (K : PySem.W.Frag) (P : Program) (w : World) : Sp := fun vs H Q _ => ∃ (r : V) (es : DEs), vs = [r] ∧ Handed K H r es ∧ es.length ≤ 1000 ∧ NewD P w H (sortE (mergeD es)) Q
theorem step_put {H H1 : Hp} {c : Addr} {es : DEs} {e : Sh × Addr × Int} {i : Nat} (hc : H c = none) (s : Same H H1) (D : DAt P w H1 c (mergeTo es i)) (hs : ShAt H1 e.2.1 e.1) (he : es[i]? = some e) :
    Same H (upd H1 c (DS P w c (putD (mergeTo es i) e.1 e.2.1 ((valD (mergeTo es i) e.1).getD 0 + e.2.2)))) ∧ DAt P w (upd H1 c (DS P w c (putD (mergeTo es i) e.1 e.2.1 ((valD (mergeTo es i) e.1).getD 0 + e.2.2)))) c (mergeTo es (i + 1)) := by
  refine ⟨fun a o z => (upd_ne (ne_of_none z hc)).trans (s a o z), ?_⟩
  rw [mergeTo_succ he]
  exact D.put hs
theorem small_of {n : Nat} (h : n ≤ 1000) : n < sizeLine := small1000 h
theorem sortE_at {acc : DEs} (nd : (keysD acc).Nodup) {i : Nat} {b : Sh × Addr} (hb : (sortK acc)[i]? = some b) : ∃ n, valD acc b.1 = some n ∧ (sortE acc)[i]? = some (b.1, b.2, n) ∧ (b.1, b.2, n) ∈ acc := by
  obtain ⟨e, he, e1⟩ := List.mem_map.mp ((sortK_perm acc).mem_iff.mp (List.mem_of_getElem? hb))
  have hv := valD_mem nd he
  have k1 : e.1 = b.1 := congrArg Prod.fst e1
  have k2 : e.2.1 = b.2 := congrArg Prod.snd e1
  rw [k1] at hv
  refine ⟨e.2.2, hv, ?_, ?_⟩
  · unfold sortE
    rw [List.getElem?_map, hb]
    show some (b.1, b.2, (valD acc b.1).getD 0) = _
    rw [hv]
    rfl
  · rw [← k1, ← k2]
    exact he
theorem ok_merged (T : Txt K mg) : FnOk P w K mg base CX0 1 T.f_merged T.d_merged ["rows"] (spMerged K P w) := by
  refine T.F_merged.ok sc_merged (fun vs H Q E h => ?_) (fun cdv A outer s H vs Q E hr h => ?_)
  · obtain ⟨r, es, rfl, _⟩ := h
    rfl
  · obtain ⟨r, es, rfl, hh, hn, q⟩ := h
    refine ⟨_, (pss_cons (ps_set (i := 1) sc_merged.nd rfl (Or.inr rfl) pe_dnewS)
      (Evl.pss_cut (ps_for PassesOwn.never rfl (pi_seq (pv 0)) (pg_tup (by rfl) (pgs_cons (pg_name (i := 2) sc_merged.nd rfl (Or.inl rfl)) (pgs_cons (pg_name (i := 3) sc_merged.nd rfl (Or.inl rfl)) pgs_nil))) (pss_one (ps_sput hr.units (pv 1) (pv 2) (pe_op op_add (pe_sget2 hr.units (pv 1) (pv 2) pe_int ⟨rfl, rfl, rfl, rfl⟩) (pv 3)) rfl)))
      (pss_one (ps_ret (pe_dcS (own := [("sheet", 2)]) (g := (gName 2)) (tk := tVar 2) (tv := tSGet P w (tVar 1) (tVar 2)) (by rfl) hr.units sc_merged.nd (pi_list (pe_callB (cr_sortedDS rfl hr.units) (by rfl) T.n_sorted (by decide +kernel) (pa_cons (pv 1) pa_nil))) (blkOk_by (own := [("sheet", 2)]) (N := ["rows", "counts", "sheet", "count"]) (sc := defScope s_merged) (by decide +kernel)) (fun _ _ _ _ _ => (pg_name (i := 2) sc_merged.nd rfl (Or.inl rfl))) (fun _ _ _ _ _ => (pv 2)) (fun _ _ _ _ _ => (pe_sget hr.units (pv 1) (pv 2) (fun _ _ => rfl)))))))), ?_⟩
    intro c hc
    refine ⟨fun σ H' => ∃ y2 y3, σ = [some r, some (.ref c), y2, y3] ∧ Same H H' ∧ DAt P w H' c (mergeD es), ?_, ?_⟩
    · have D0 : DAt P w (upd H c (DS P w c [])) c [] := ⟨upd_same, fun x hx => by cases hx⟩
      cases hh with
      | @list l as _ hl hr2 hk =>
        refine .inl ⟨_, rfl, l, rfl, ⟨_, (same_new hc).seq hl⟩, for_list (K := K) (a := l) (xs := as.map V.ref) (fun i σ H' => ∃ y2 y3, σ = [some (.ref l), some (.ref c), y2, y3] ∧ Same H H' ∧ DAt P w H' c (mergeTo es i)) ⟨none, none, rfl, same_new hc, D0⟩ ?_ ?_ ?_⟩
        · rintro i σ H' _ ⟨_, _, _, s1, _⟩
          exact s1.seq hl
        · rintro i x σ H' hx ⟨y2, y3, rfl, s1, D⟩
          obtain ⟨a, e, rfl, he, ha⟩ := hr2.row hx
          have hs := (hk e (List.mem_of_getElem? he)).same s1
          have hlt : i < es.length := (List.getElem?_eq_some_iff.mp he).1
          refine ⟨a, _, rfl, SqT.of (s1 _ _ ha), rfl, .ref e.2.1, _, rfl, .int e.2.2, _, rfl, rfl, ?_⟩
          refine ⟨.ref c, rfl, c, _, rfl, D.rd, .ref e.2.1, rfl, e.2.1, e.1, 0, _, rfl, rfl, D.rd, hs, .int e.2.2, rfl, _, _, rfl, rfl, .ref c, rfl, .ref e.2.1, rfl, c, e.2.1, _, e.1, _, rfl, rfl, rfl, D, hs, small_of (by have := mergeTo_len es i; omega), ?_⟩
          obtain ⟨s2, D2⟩ := step_put hc s1 D hs he
          exact ⟨_, _, rfl, s2, D2⟩
        · rintro σ H' ⟨y2, y3, rfl, s1, D⟩
          rw [List.length_map, hr2.len, mergeTo_all] at D
          exact ⟨_, _, rfl, s1, D⟩
    · rintro σ H2 ⟨y2, y3, rfl, s2, D⟩
      have nd := merge_nodup es
      have hlen : (sortE (mergeD es)).length ≤ 1000 := by
        rw [(sortE_perm nd).length_eq]
        exact Nat.le_trans (merge_len es) hn
      refine ⟨.ref c, rfl, c, _, rfl, D, fun p hp => ⟨p, rfl, ⟨_, SqL.of upd_same⟩, fun d hd => ?_⟩⟩
      have ep := same_new (o := .lst ((sortK (mergeD es)).map fun b => V.ref b.2)) hp
      refine dcS_list (K := K) (a := p) (xs := (sortK (mergeD es)).map fun b => V.ref b.2) (fun i G => Same (upd H2 p (.lst ((sortK (mergeD es)).map fun b => V.ref b.2))) G ∧ DAt P w G d ((sortE (mergeD es)).take i)) ⟨same_new hd, upd_same, fun x hx => by cases hx⟩ (fun i G _ z => SqL.of (z.1 _ _ upd_same)) ?_ ?_ ?_
      · rintro i x G hx ⟨sG, DG⟩
        rw [List.getElem?_map] at hx
        cases hb : (sortK (mergeD es))[i]? with
        | none =>
          rw [hb] at hx
          cases hx
        | some b =>
          rw [hb] at hx
          cases hx
          obtain ⟨n, hv, hat, hin⟩ := sortE_at nd hb
          have Dc := (D.same (ep.trans sG))
          have hs := Dc.ks _ hin
          refine ⟨rfl, _, rfl, _, rfl, _, rfl, c, b.2, _, b.1, n, rfl, rfl, Dc.rd, hs, hv, b.2, b.1, n, _, rfl, rfl, DG, hs, small_of (by rw [List.length_take]; omega), ?_⟩
          have e1 := take_put (sortE_keys nd) hat
          rw [e1]
          refine ⟨fun a o z => (upd_ne (ne_of_none z hd)).trans (sG a o z), ?_⟩
          have := DG.put (n := n) hs
          rw [e1] at this
          exact this
      · rintro G ⟨sG, DG⟩
        have hl : ((sortK (mergeD es)).map fun b => V.ref b.2).length = (sortE (mergeD es)).length := by
          unfold sortE
          rw [List.length_map, List.length_map]
        rw [hl, List.take_length] at DG
        exact q d G ((s2.trans ep).free hd) ((s2.trans ep).trans sG) DG
      · rintro N N' x G hN ⟨h1, y, h2, z, h3, z2, h4, c1, p1, es1, x1, n1, h5, h6, h7, h8, h9, p2, k2, n2, es2, h10, h11, h12, h13, h14, h15⟩
        exact ⟨h1, y, h2, z, h3, z2, h4, c1, p1, es1, x1, n1, h5, h6, h7, h8, h9, p2, k2, n2, es2, h10, h11, h12, h13, h14, hN _ h15⟩
theorem Handed.put {H : Hp} {r : V} {es : DEs} {p C dx : Addr} {fs gs : List (Str × V)} (h : Handed K H r es) (hp : H p = some (.ins C dx fs)) : Handed K (upd H p (.ins C dx gs)) r es := by
  have tup : ∀ a xs, H a = some (.tup xs) → (upd H p (.ins C dx gs)) a = some (.tup xs) := fun a xs z => (upd_ne (ne_of z hp (by intro q; cases q))).trans z
  have rd : ∀ a o, o ≠ .ins C dx fs → Rd H a o → Rd (upd H p (.ins C dx gs)) a o := by
    intro a o no z
    rcases z with z | ⟨od, z⟩
    · exact .inl ((upd_ne (ne_of z hp no)).trans z)
    · exact .inr ⟨od, (upd_ne (ne_of z hp (by intro q; cases q))).trans z⟩
  cases h with
  | list hl hr hk =>
    refine .list ?_ (hr.mono tup) fun e he => (hk e he).mono tup
    rcases hl with z | z
    · exact .inl (rd _ _ (by intro q; cases q) z)
    · exact .inr z
def HeapAt (P : Program) (w : World) (C : Addr) (H : Hp) (p : Addr) (d : Int) (es : DEs) : Prop := ∃ dx c : Addr, H p = some (.ins C dx [("held_root", .int d), ("copies", .ref c)]) ∧ DAt P w H c es
theorem HeapAt.same {C : Addr} {H H' : Hp} {p : Addr} {d : Int} {es : DEs} (h : HeapAt P w C H p d es) (s : Same H H') : HeapAt P w C H' p d es := by
  obtain ⟨dx, c, h1, h2⟩ := h
  exact ⟨dx, c, s _ _ h1, h2.same s⟩
theorem isRB_small {n : Int} (h : isRB n = true) : n.natAbs < 2 ^ 64 := by
  unfold isRB at h
  rw [Bool.and_eq_true] at h
  have := of_decide_eq_true h.1
  omega
def spHRows (P : Program) (w : World) (C : Addr) : Sp := fun vs H Q _ => ∃ (p : Addr) (d : Int) (es : DEs), vs = [.ref p] ∧ HeapAt P w C H p d es ∧ ∀ l as H', H l = none → Same H H' → H' l = some (.lst (as.map V.ref)) → RowsAt H' as es → Q (.ref l) H'
theorem ok_Heap_rows (T : Txt K mg) : FnOk P w K mg base CX0 1 T.f_Heap_rows T.d_Heap_rows ["self"] (spHRows P w T.C_Heap) := by
  refine T.F_Heap_rows.ok sc_Heap_rows (fun vs H Q E h => ?_) (fun cdv A outer s H vs Q E hr h => ?_)
  · obtain ⟨p, d, es, rfl, _⟩ := h
    rfl
  · obtain ⟨p, d, es, rfl, ⟨dx, c, hp, D⟩, q⟩ := h
    refine ⟨_, (pss_one (ps_ret (pe_callTy (call_list_itemsDS rfl) (by rfl) T.n_list (by decide +kernel) (pa_cons (pe_itemsDS (pe_fld (pv 0) rfl)) pa_nil)))), ?_⟩
    refine ⟨_, rfl, p, T.C_Heap, dx, _, _, rfl, hp, T.cl_Heap, T.n_Heap_copies, rfl, c, es, rfl, rfl, D, fun v hv => ?_⟩
    refine ⟨v, c, es, rfl, upd_same, D.same (same_new hv), fun l as H' hl s1 hL hR => ?_⟩
    exact q l as H' ((same_new hv).free hl) ((same_new hv).trans s1) hL hR
end
section
variable {base : Heap} {K : PySem.W.Frag} {mg : Str → Option Value} {P : Program} {w : World}
def spRoot (P : Program) (w : World) (C : Addr) : Sp := fun vs H Q _ => ∃ (p : Addr) (d : Int) (es : DEs), vs = [.ref p] ∧ HeapAt P w C H p d es ∧ Q (.int d) H
theorem ok_Heap_root (T : Txt K mg) : FnOk P w K mg base CX0 1 T.f_Heap_root T.d_Heap_root ["self"] (spRoot P w T.C_Heap) := by
  refine T.F_Heap_root.ok sc_Heap_root (fun vs H Q E h => ?_) (fun cdv A outer s H vs Q E hr h => ?_)
  · obtain ⟨p, d, es, rfl, _⟩ := h
    rfl
  · obtain ⟨p, d, es, rfl, ⟨dx, c, hp, _⟩, q⟩ := h
    exact ⟨_, (pss_one (ps_ret (pe_fld (pv 0) rfl))), _, rfl, p, T.C_Heap, dx, _, _, rfl, hp, T.cl_Heap, T.n_Heap_held_root, rfl, q⟩
end
section
variable {base : Heap} {K : PySem.W.Frag} {mg : Str → Option Value} {w : World}
def spHInit (T : Txt K mg) (w : World) : Sp := fun vs H Q E => ∃ (p dx : Addr) (d : Int) (r : V) (es : DEs), vs = [.ref p, .int d, r] ∧ H p = some (.ins T.C_Heap dx []) ∧ Handed K H r es ∧ Es100 es ∧ es.length ≤ 1000 ∧
  (isRB d = true → (∀ e ∈ es, rowB d e = true) → ∀ H', HeapAt PySem.Challenge.pw_grainyard_k21_reverse_steps w T.C_Heap H' p d (sortE (mergeD es)) → (∀ q o, H q = some o → q ≠ p → H' q = some o) → Q .non H') ∧
  (isRB d = true → ∀ i, FirstBad d es i → Throws T.e_BadRow.C (badRow i) H E) ∧ (isRB d = false → Throws T.e_BadRoot.C (badRoot (.int d)) H E)
theorem ok_Heap_init (T : Txt K mg) : FnOk PySem.Challenge.pw_grainyard_k21_reverse_steps w K mg base (L2.CX PySem.Challenge.pw_grainyard_k21_reverse_steps w) 5 T.f_Heap_init T.d_Heap_init ["self", "root", "rows"] (spHInit T w) := by
  refine T.F_Heap_init.ok sc_Heap_init (fun vs H Q E h => ?_) (fun cdv A outer s H vs Q E hr h => ?_)
  · obtain ⟨p, dx, d, r, es, rfl, _⟩ := h
    rfl
  · obtain ⟨p, dx, d, r, es, rfl, hp, hh, b, hn, q1, q2, q3⟩ := h
    refine ⟨_, (pss_cons (ps_expr (pe_call (ok_check_root T) (hr.mono (by decide)) (by rfl) T.g_check_root T.F_check_root.kp T.b_check_root .nil (passes_call (takes_of rfl rfl rfl rfl) (fun _ _ _ _ h => h)) (pa_cons (pv 1) pa_nil)))
      (pss_cons (ps_expr (pe_call (ok_check_rows T) (hr.mono (by decide)) (by rfl) T.g_check_rows T.F_check_rows.kp T.b_check_rows .nil (passes_call (takes_of rfl rfl rfl rfl) (fun _ _ _ _ h => h)) (pa_cons (pv 2) (pa_cons (pv 1) pa_nil))))
      (pss_cons (ps_fld (pv 0) (pv 1) rfl)
      (pss_one (ps_fld (pv 0) (pe_call (ok_merged T) (hr.mono (by decide)) (by rfl) T.g_merged T.F_merged.kp T.b_merged .nil pass0 (pa_cons (pv 2) pa_nil)) rfl))))), ?_⟩
    refine ⟨_, rfl, d, rfl, fun hd => ?_, q3⟩
    refine ⟨_, rfl, _, rfl, r, d, es, rfl, hh, isRB_small hd, b, fun ok H1 s1 => ?_, q2 hd⟩
    refine ⟨_, rfl, _, rfl, p, T.C_Heap, dx, [], rfl, s1 _ _ hp, T.cl_Heap, T.n_Heap_held_root, by decide, ?_⟩
    refine ⟨_, rfl, r, es, rfl, (hh.same s1).put (s1 _ _ hp), hn, fun c H2 hc s2 D => ?_⟩
    have hp2 := s2 _ _ (upd_same (H := H1) (a := p) (o := .ins T.C_Heap dx [("held_root", .int d)]))
    refine ⟨_, rfl, p, T.C_Heap, dx, _, rfl, hp2, T.cl_Heap, T.n_Heap_copies, (by show 1 < 1000; decide), ?_⟩
    refine q1 hd ok _ ⟨dx, c, upd_same, (upd_ne (ne_of D.hd hp2 (by intro z; cases z))).trans D.hd, fun x hx => (D.ks x hx).mono fun a xs z => (upd_ne (ne_of z hp2 (by intro z; cases z))).trans z⟩ fun b o z ne => ?_
    exact (upd_ne ne).trans (s2 _ _ ((upd_ne ne).trans (s1 _ _ z)))
/-- Heap(d, r), where nothing is wrong -/
theorem mk_heap {T : Txt K mg} {H : Hp} {d : Int} {r : V} {es : DEs} {R : Addr → Hp → Prop} {E : XK} (hd : isRB d = true) (hh : Handed K H r es) (b : Es100 es) (ok : ∀ e ∈ es, rowB d e = true) (hn : es.length ≤ 1000) (q : ∀ x H', H x = none → Same H H' → HeapAt PySem.Challenge.pw_grainyard_k21_reverse_steps w T.C_Heap H' x d (sortE (mergeD es)) → R x H') :
    ∀ x dx, H x = none → H dx = none → dx ≠ x → spHInit T w [.ref x, .int d, r] (upd (upd H dx (.own x)) x (.ins T.C_Heap dx [])) (fun v H2 => v = .non ∧ R x H2) E := by
  intro x dx nx nd ne
  have s1 : Same H (upd (upd H dx (.own x)) x (.ins T.C_Heap dx [])) := fun b o z => by
    rw [upd_ne (ne_of_none z nx), upd_ne (ne_of_none z nd)]
    exact z
  refine ⟨x, dx, d, r, es, rfl, upd_same, hh.same s1, b, hn, fun _ _ H' hA hk => ⟨rfl, q x H' nx (fun b o z => hk b o (s1 b o z) (ne_of_none z nx)) hA⟩, fun _ i fb => ?_, fun z => by rw [hd] at z; cases z⟩
  obtain ⟨⟨e, he, ez⟩, _⟩ := fb
  rw [ok e (List.mem_of_getElem? he)] at ez
  cases ez
end
/-! ### heaps by their sums -/
def ind (x y : Sh) : Int := if y = x then 1 else 0
def cnt (es : DEs) (x : Sh) : Int := (valD es x).getD 0
theorem ltS_irr (x : Sh) : ¬ ltS x x := by
  unfold ltS
  omega
theorem ltS_tr {x y z : Sh} (h1 : ltS x y) (h2 : ltS y z) : ltS x z := ltS_go h1 h2
theorem ltS_asym {x y : Sh} (h1 : ltS x y) (h2 : ltS y x) : False := ltS_irr x (ltS_tr h1 h2)
/-- ascending, with numbers from 1 -/
structure Asc (es : DEs) : Prop where
  up : es.Pairwise fun a b => ltS a.1 b.1
  pos : ∀ e ∈ es, 1 ≤ e.2.2
theorem Asc.nd {es : DEs} (h : Asc es) : (keysD es).Nodup := by
  refine List.pairwise_map.mpr (h.up.imp ?_)
  intro a b l z
  rw [z] at l
  exact ltS_irr _ l
theorem Asc.tail {e : Sh × Addr × Int} {es : DEs} (h : Asc (e :: es)) : Asc es := ⟨(List.pairwise_cons.mp h.up).2, fun f hf => h.pos f (List.mem_cons_of_mem _ hf)⟩
theorem asc_made {S : Sh → Prop} {M : Int} {es : DEs} (hM : 0 ≤ M) (h : Within S M es) : Asc (sortE (mergeD es)) := by
  refine ⟨sortE_up (merge_nodup es), fun e he => ?_⟩
  exact ((merge_within hM h) e ((sortE_perm (merge_nodup es)).mem_iff.mp he)).2.1
theorem made_wsum (φ : Sh → Int) (es : DEs) : wsum φ (sortE (mergeD es)) = wsum φ es := by
  rw [wsum_perm (sortE_perm (merge_nodup es)), merge_wsum]
theorem wsum_ind0 {x : Sh} : ∀ {es : DEs}, x ∉ keysD es → wsum (ind x) es = 0
  | [], _ => rfl
  | e :: es, h => by
    have h1 : e.1 ≠ x := fun z => h (z ▸ List.mem_cons_self)
    rw [wsum_cons, wsum_ind0 fun z => h (List.mem_cons_of_mem _ z)]
    unfold ind
    rw [if_neg h1]
    omega
theorem cnt_wsum {x : Sh} : ∀ {es : DEs}, (keysD es).Nodup → wsum (ind x) es = cnt es x
  | [], _ => rfl
  | e :: es, h => by
    obtain ⟨h1, h2⟩ := List.nodup_cons.mp h
    rw [wsum_cons]
    unfold cnt
    rw [valD_cons]
    by_cases z : e.1 = x
    · subst z
      rw [if_pos rfl, wsum_ind0 h1]
      unfold ind
      rw [if_pos rfl]
      show e.2.2 * 1 + 0 = e.2.2
      omega
    · rw [if_neg z, cnt_wsum h2]
      unfold ind
      rw [if_neg z]
      show e.2.2 * 0 + cnt es x = cnt es x
      omega
/-- the first keys of two ascending lists with the same numbers -/
theorem asc_same : ∀ {es fs : DEs}, Asc es → Asc fs → (∀ x, cnt es x = cnt fs x) → (es.map fun e => (e.1, e.2.2)) = fs.map fun e => (e.1, e.2.2)
  | [], [], _, _, _ => rfl
  | [], f :: fs, _, hf, h => by
    have z := h f.1
    have p := hf.pos f List.mem_cons_self
    unfold cnt at z
    rw [valD_cons, if_pos rfl] at z
    have z : (0 : Int) = f.2.2 := z
    omega
  | e :: es, [], he, _, h => by
    have z := h e.1
    have p := he.pos e List.mem_cons_self
    unfold cnt at z
    rw [valD_cons, if_pos rfl] at z
    have z : e.2.2 = (0 : Int) := z
    omega
  | e :: es, f :: fs, he, hf, h => by
    have low : ∀ {a : Sh × Addr × Int} {as : DEs} {x : Sh}, Asc (a :: as) → ltS x a.1 → cnt (a :: as) x = 0 := by
      intro a as x ha l
      unfold cnt
      have : valD (a :: as) x = none := valD_none.mpr fun z => by
        rcases List.mem_cons.mp z with q | q
        · exact ltS_irr x (q ▸ l)
        · obtain ⟨b, hb, q⟩ := List.mem_map.mp q
          have l2 := ltS_tr l ((List.pairwise_cons.mp ha.up).1 b hb)
          rw [q] at l2
          exact ltS_irr x l2
      rw [this]
      rfl
    have at_ : ∀ {a : Sh × Addr × Int} {as : DEs}, cnt (a :: as) a.1 = a.2.2 := by
      intro a as
      unfold cnt
      rw [valD_cons, if_pos rfl]
      rfl
    have pe := he.pos e List.mem_cons_self
    have pf := hf.pos f List.mem_cons_self
    have k : e.1 = f.1 := by
      by_cases z : e.1 = f.1
      · exact z
      · exfalso
        by_cases l : ltS e.1 f.1
        · have := h e.1
          rw [at_, low hf l] at this
          omega
        · have l2 : ltS f.1 e.1 := by
            refine ltS_of ?_ fun q => z q.symm
            unfold leS
            rw [decide_eq_false l]
            rfl
          have := h f.1
          rw [at_, low he l2] at this
          omega
    have v : e.2.2 = f.2.2 := by
      have := h e.1
      rw [at_, k, at_] at this
      exact this
    rw [List.map_cons, List.map_cons, k, v, asc_same he.tail hf.tail fun x => ?_]
    have z := h x
    unfold cnt at z ⊢
    rw [valD_cons, valD_cons] at z
    by_cases q : e.1 = x
    · have ne : valD es x = none := valD_none.mpr (q ▸ (List.nodup_cons.mp he.nd).1)
      have nf : valD fs x = none := valD_none.mpr (q ▸ k ▸ (List.nodup_cons.mp hf.nd).1)
      rw [ne, nf]
    · rwa [if_neg q, if_neg fun w => q (k.trans w)] at z
theorem asc_eq {es fs : DEs} (he : Asc es) (hf : Asc fs) (h : ∀ φ, wsum φ es = wsum φ fs) : (es.map fun e => (e.1, e.2.2)) = fs.map fun e => (e.1, e.2.2) := asc_same he hf fun x => by
  rw [← cnt_wsum he.nd, ← cnt_wsum hf.nd, h]
theorem nd_le : ∀ {as bs : List Sh}, as.Nodup → (∀ a ∈ as, a ∈ bs) → as.length ≤ bs.length
  | [], _, _, _ => Nat.zero_le _
  | a :: as, bs, n, h => by
    obtain ⟨n1, n2⟩ := List.nodup_cons.mp n
    obtain ⟨l, r, rfl⟩ := List.append_of_mem (h a List.mem_cons_self)
    have := nd_le (as := as) (bs := l ++ r) n2 fun b hb => by
      rcases List.mem_append.mp (h b (List.mem_cons_of_mem _ hb)) with z | z
      · exact List.mem_append_left _ z
      · rcases List.mem_cons.mp z with q | q
        · exact absurd hb (q ▸ n1)
        · exact List.mem_append_right _ q
    rw [List.length_append] at this
    rw [List.length_append, List.length_cons, List.length_cons]
    omega
theorem nd_back {as bs : List Sh} (n : as.Nodup) (h : ∀ a ∈ as, a ∈ bs) (l : bs.length = as.length) {x : Sh} (hx : x ∈ bs) : x ∈ as := by
  by_cases z : x ∈ as
  · exact z
  · exfalso
    have := nd_le (as := x :: as) (bs := bs) (List.nodup_cons.mpr ⟨z, n⟩) fun a ha => by
      rcases List.mem_cons.mp ha with q | q
      · exact q ▸ hx
      · exact h a q
    rw [List.length_cons] at this
    omega
theorem eqD_iff {es fs : DEs} (he : Asc es) (hf : Asc fs) : eqD es fs = decide ((es.map fun e => (e.1, e.2.2)) = fs.map fun e => (e.1, e.2.2)) := by
  by_cases h : (es.map fun e => (e.1, e.2.2)) = fs.map fun e => (e.1, e.2.2)
  · rw [decide_eq_true h]
    unfold eqD
    have l := congrArg List.length h
    rw [List.length_map, List.length_map] at l
    rw [decide_eq_true l, Bool.true_and, List.all_eq_true]
    intro e hm
    have : (e.1, e.2.2) ∈ fs.map fun e => (e.1, e.2.2) := h ▸ List.mem_map.mpr ⟨e, hm, rfl⟩
    obtain ⟨f, hf', q⟩ := List.mem_map.mp this
    obtain ⟨q1, q2⟩ := Prod.mk.inj q
    unfold eqE
    rw [← q1, ← q2]
    exact decide_eq_true (valD_mem hf.nd hf')
  · rw [decide_eq_false h]
    cases z : eqD es fs with
    | false => rfl
    | true =>
      exfalso
      unfold eqD at z
      rw [Bool.and_eq_true, List.all_eq_true] at z
      obtain ⟨z1, z2⟩ := z
      have z1 := of_decide_eq_true z1
      have sub : ∀ e ∈ es, ∃ f ∈ fs, f.1 = e.1 ∧ f.2.2 = e.2.2 := fun e hm => valD_some (of_decide_eq_true (z2 e hm))
      have ksub : ∀ x ∈ keysD es, x ∈ keysD fs := fun x hx => by
        obtain ⟨e, hm, rfl⟩ := List.mem_map.mp hx
        obtain ⟨f, hf', q, _⟩ := sub e hm
        exact q ▸ List.mem_map.mpr ⟨f, hf', rfl⟩
      have klen : (keysD fs).length = (keysD es).length := by
        unfold keysD
        rw [List.length_map, List.length_map]
        exact z1.symm
      refine h (asc_same he hf fun x => ?_)
      unfold cnt
      cases q : valD es x with
      | none =>
        rw [valD_none.mpr fun w => valD_none.mp q (nd_back he.nd ksub klen w)]
      | some n =>
        obtain ⟨e, hm, rfl, rfl⟩ := valD_some q
        rw [of_decide_eq_true (z2 e hm)]
theorem dpair {K : PySem.W.Frag} {H : Hp} {p : Addr} {x y : Int} (h : H p = some (.tup [.int x, .int y])) : Dp K H (.ref p) (.tuple [.int x, .int y]) := .tup (SqT.of h) (.cons (.int x) (.cons (.int y) .nil))
/-! ### lengths and sheets that are drawn -/
theorem isRB_of {d : Int} (h : IsRoot d) : isRB d = true := by
  obtain ⟨h1, h2, k, k0, k1, k2⟩ := h
  rw [← isR_of h1 h2 k0 (Int.le_of_lt k1) k2, decide_eq_false fun z => by have := V.int.inj z; omega]
  rfl
theorem IsRoot.small {d : Int} (h : IsRoot d) : d.natAbs < 2 ^ 64 := isRB_small (isRB_of h)
def LenB (d a b : Int) : Prop := 0 < vl a b d ∧ a.natAbs ≤ 10 ^ 6 ∧ b.natAbs ≤ 10 ^ 6
def ShB (d : Int) (x : Sh) : Prop := LenB d x.1 x.2.1 ∧ LenB d x.2.2.1 x.2.2.2
theorem m6 {x : Int} (h : x.natAbs ≤ 10 ^ 6) : x.natAbs < 2 ^ 100 := Nat.lt_of_le_of_lt h (by decide)
theorem m6w {x : Int} (h : x.natAbs ≤ 10 ^ 6) : x.natAbs < 2 ^ 9000 := w100 (m6 h)
theorem LenB.ok {d a b : Int} (h : LenB d a b) : LenOk d a b := ⟨h.1, m6 h.2.1, m6 h.2.2⟩
theorem ShB.ok {d : Int} {x : Sh} (h : ShB d x) : ShOk d x := ⟨h.1.ok, h.2.ok⟩
theorem ab_opp (a : Int) : ab (-a) = ab a := by
  unfold ab
  split <;> split <;> omega
theorem vl_opp (a b d : Int) : vl (-a) (-b) d = -vl a b d := by
  unfold vl
  rw [ab_opp, ab_opp]
  grind
theorem vl_one (n d : Int) (h : 0 < n) : 0 < vl n 0 d := by
  unfold vl
  rw [ab_nn (Int.le_of_lt h)]
  have := Int.mul_pos h h
  grind
theorem keep_free {b p : Addr} {H H' : Hp} (k : Keep b H H') (n : p ≠ b) (h : H' p = none) : H p = none := by
  cases e : H p with
  | none => rfl
  | some o => exact absurd (k p o n e) (by rw [h]; simp)
section
variable {base : Heap} {K : PySem.W.Frag} {mg : Str → Option Value} {P : Program} {w : World}
/-- a length, drawn -/
def GotLen (b sb : Addr) (d : Int) (H : Hp) (Q : VK) : Prop := ∀ x y p H', LenB d x y → p ≠ b → H' p = some (.tup [.int x, .int y]) → Bag H' b sb → Keep b H H' → Q (.ref p) H'
def spALen : Sp := fun vs H Q _ => ∃ (b sb : Addr) (d : Int), vs = [.ref b, .int d] ∧ Bag H b sb ∧ IsRoot d ∧ GotLen b sb d H Q
/-- the rest of a draw of a length, when the pair stands: the pair, its opposite, or a whole number -/
theorem sgn_cases (a b d : Int) : (sgnI (vl a b d) = 0 ∧ vl a b d = 0) ∨ (sgnI (vl a b d) = 1 ∧ 0 < vl a b d) ∨ (sgnI (vl a b d) = -1 ∧ 0 < vl (-a) (-b) d) := by
  rcases Int.lt_trichotomy (vl a b d) 0 with h | h | h
  · exact .inr (.inr ⟨sgnI_neg h, by rw [vl_opp]; omega⟩)
  · exact .inl ⟨by rw [h]; rfl, h⟩
  · exact .inr (.inl ⟨sgnI_pos h, h⟩)
theorem ok_a_length (T : Txt K mg) : FnOk P w K mg base CX0 4 T.f_a_length T.d_a_length ["_law_bag", "_law_root"] spALen := by
  refine T.F_a_length.ok sc_a_length (fun vs H Q E h => ?_) (fun cdv A outer s H vs Q E hr h => ?_)
  · obtain ⟨b, sb, d, rfl, _⟩ := h
    rfl
  · obtain ⟨b, sb, d, rfl, B, hd, q⟩ := h
    refine ⟨_, (pss_cons (ps_set (i := 2) sc_a_length.nd rfl (Or.inl rfl) (pe_call (ok_any_pair T) (hr.mono (by decide)) (by rfl) T.g_any_pair T.F_any_pair.kp T.b_any_pair .nil pass0 (pa_cons (pv 0) pa_nil)))
      (pss_cons (ps_if (pt_cmpR op_eq (pe_call (ok_lsign T) (hr.mono (by decide)) (by rfl) T.g_lsign T.F_lsign.kp T.b_lsign .nil pass0 (pa_cons (pv 2) (pa_cons (pv 1) pa_nil))) pe_int (nomark _)) (pss_one (ps_ret (pe_tup (pa_cons (pe_op op_add pe_int (pe_call (ok_pull T) (hr.mono (by decide)) (by rfl) T.g_pull T.F_pull.kp T.b_pull .nil pass0 (pa_cons (pv 0) (pa_cons pe_int pa_nil)))) (pa_cons pe_int pa_nil))))) pss_nil)
      (pss_one (ps_ret (pe_ifExp (pt_cmpR op_gt (pe_call (ok_lsign T) (hr.mono (by decide)) (by rfl) T.g_lsign T.F_lsign.kp T.b_lsign .nil pass0 (pa_cons (pv 2) (pa_cons (pv 1) pa_nil))) pe_int (nomark _)) (pv 2) (pe_tup (pa_cons (pe_op op_sub pe_int (pe_ix ix_tup (pv 2) pe_int (fun _ _ => rfl))) (pa_cons (pe_op op_sub pe_int (pe_ix ix_tup (pv 2) pe_int (fun _ _ => rfl))) pa_nil)))))))), ?_⟩
    refine ⟨.ref b, rfl, b, sb, rfl, B, fun x y p H1 a1 a2 a3 a4 n1 h1 B1 k1 => ?_⟩
    have bx : x.natAbs ≤ 10 ^ 6 := by omega
    have bY : y.natAbs ≤ 10 ^ 6 := by omega
    have np := B.ne n1
    refine ⟨.ref p, rfl, .int d, rfl, p, d, x, y, rfl, SqT.of h1, hd.small, m6w bx, m6w bY, ?_⟩
    rcases sgn_cases x y d with ⟨e, z⟩ | ⟨e, z⟩ | ⟨e, z⟩ <;> rw [e]
    · refine ⟨rfl, true, rfl, iteT ⟨.ref b, rfl, b, sb, 9, rfl, B1, by decide, by decide, fun n H2 z0 z1 B2 k2 => ⟨1, n, rfl, rfl, by show 2 ≤ sizeLine; decide, fun p2 hp2 => ?_⟩⟩⟩
      exact q _ _ p2 _ ⟨vl_one (1 + n) d (by omega), by omega, by decide⟩ (B2.ne hp2) upd_same (B2.new hp2) (k1.trans (k2.trans (keep_new hp2)))
    · refine ⟨rfl, false, rfl, iteF ⟨.ref p, rfl, .int d, rfl, p, d, x, y, rfl, SqT.of h1, hd.small, m6w bx, m6w bY, ?_⟩⟩
      rw [e]
      exact ⟨1, 0, rfl, rfl, true, rfl, iteT ⟨_, rfl, q x y p H1 ⟨z, bx, bY⟩ np h1 B1 k1⟩⟩
    · refine ⟨rfl, false, rfl, iteF ⟨.ref p, rfl, .int d, rfl, p, d, x, y, rfl, SqT.of h1, hd.small, m6w bx, m6w bY, ?_⟩⟩
      rw [e]
      refine ⟨-1, 0, rfl, rfl, false, rfl, iteF (use_ix rfl h1 (atI_nat (j := 0) rfl) ⟨0, x, rfl, rfl, use_ix rfl h1 (atI_nat (j := 1) rfl) ⟨0, y, rfl, rfl, by show 2 ≤ sizeLine; decide, fun p2 hp2 => ?_⟩⟩)⟩
      refine q (0 - x) (0 - y) p2 _ ⟨?_, by omega, by omega⟩ (B1.ne hp2) upd_same (B1.new hp2) (k1.trans (keep_new hp2))
      rw [Int.zero_sub, Int.zero_sub]
      exact z
def GotSheet (b sb : Addr) (d : Int) (H : Hp) (Q : VK) : Prop := ∀ x p H', ShB d x → ShAt H' p x → Bag H' b sb → Keep b H H' → Q (.ref p) H'
def spASheet : Sp := fun vs H Q _ => ∃ (b sb : Addr) (d : Int), vs = [.ref b, .int d] ∧ Bag H b sb ∧ IsRoot d ∧ GotSheet b sb d H Q
theorem ok_a_sheet (T : Txt K mg) : FnOk P w K mg base CX0 5 T.f_a_sheet T.d_a_sheet ["_law_bag", "_law_root"] spASheet := by
  refine T.F_a_sheet.ok sc_a_sheet (fun vs H Q E h => ?_) (fun cdv A outer s H vs Q E hr h => ?_)
  · obtain ⟨b, sb, d, rfl, _⟩ := h
    rfl
  · obtain ⟨b, sb, d, rfl, B, hd, q⟩ := h
    refine ⟨_, (pss_cons (ps_set (i := 2) sc_a_sheet.nd rfl (Or.inl rfl) (pe_call (ok_a_length T) (hr.mono (by decide)) (by rfl) T.g_a_length T.F_a_length.kp T.b_a_length .nil pass0 (pa_cons (pv 0) (pa_cons (pv 1) pa_nil))))
      (pss_one (ps_ret (pe_tup (pa_cons (pv 2) (pa_cons (pe_call (ok_of T) (hr.mono (by decide)) (by rfl) T.g_of T.F_of.kp T.b_of .nil pass0 (pa_cons (pv 0) (pa_cons (pe_lst (pa_cons (pe_call (ok_a_length T) (hr.mono (by decide)) (by rfl) T.g_a_length T.F_a_length.kp T.b_a_length .nil pass0 (pa_cons (pv 0) (pa_cons (pv 1) pa_nil))) (pa_cons (pe_call (ok_a_length T) (hr.mono (by decide)) (by rfl) T.g_a_length T.F_a_length.kp T.b_a_length .nil pass0 (pa_cons (pv 0) (pa_cons (pv 1) pa_nil))) (pa_cons (pe_call (ok_a_length T) (hr.mono (by decide)) (by rfl) T.g_a_length T.F_a_length.kp T.b_a_length .nil pass0 (pa_cons (pv 0) (pa_cons (pv 1) pa_nil))) (pa_cons (pv 2) pa_nil))))) pa_nil))) pa_nil)))))), ?_⟩
    refine ⟨.ref b, rfl, .int d, rfl, b, sb, d, rfl, B, hd, fun x y p H1 l1 n1 h1 B1 k1 => ?_⟩
    refine ⟨.ref p, rfl, .ref b, rfl, .ref b, rfl, .int d, rfl, b, sb, d, rfl, B1, hd, fun x2 y2 p2 H2 l2 n2 h2 B2 k2 => ?_⟩
    refine ⟨.ref b, rfl, .int d, rfl, b, sb, d, rfl, B2, hd, fun x3 y3 p3 H3 l3 n3 h3 B3 k3 => ?_⟩
    refine ⟨.ref b, rfl, .int d, rfl, b, sb, d, rfl, B3, hd, fun x4 y4 p4 H4 l4 n4 h4 B4 k4 => ?_⟩
    refine ⟨.ref p, rfl, by show 4 ≤ sizeLine; decide, fun l hl => ?_⟩
    refine ⟨b, sb, l, _, rfl, B4.new hl, upd_same, B4.ne hl, by simp, by simp, fun i v H5 hv B5 k5 => ⟨by show 2 ≤ sizeLine; decide, fun t ht => ?_⟩⟩
    have k45 : Keep b H4 H5 := (keep_new hl).trans k5
    have kk := k1.trans (k2.trans (k3.trans (k4.trans k45)))
    have e := same_new (o := .tup [.ref p, v]) ht
    have g1 := e _ _ ((k2.trans (k3.trans (k4.trans k45))) _ _ n1 h1)
    have fin : ∀ (x' y' : Int) (p' : Addr), v = .ref p' → LenB d x' y' → H5 p' = some (.tup [.int x', .int y']) → Q (.ref t) (upd H5 t (.tup [.ref p, v])) := by
      rintro x' y' p' rfl l' h'
      exact q (x, y, x', y') t _ ⟨l1, l'⟩ ⟨p, p', upd_same, g1, e _ _ h'⟩ (B5.same e) (kk.trans (keep_of e))
    match i, hv with
    | 0, hv => cases hv; exact fin x2 y2 p2 rfl l2 ((k3.trans (k4.trans k45)) _ _ n2 h2)
    | 1, hv => cases hv; exact fin x3 y3 p3 rfl l3 ((k4.trans k45) _ _ n3 h3)
    | 2, hv => cases hv; exact fin x4 y4 p4 rfl l4 (k45 _ _ n4 h4)
    | 3, hv => cases hv; exact fin x y p rfl l1 ((k2.trans (k3.trans (k4.trans k45))) _ _ n1 h1)
    | n + 4, hv => simp at hv
def spCount : Sp := fun vs H Q _ => ∃ b sb : Addr, vs = [.ref b] ∧ Bag H b sb ∧ ∀ n H', 1 ≤ n → n ≤ 10 ^ 6 → Bag H' b sb → Keep b H H' → Q (.int n) H'
theorem ok_some_count (T : Txt K mg) : FnOk P w K mg base CX0 3 T.f_some_count T.d_some_count ["_law_bag"] spCount := by
  refine T.F_some_count.ok sc_some_count (fun vs H Q E h => ?_) (fun cdv A outer s H vs Q E hr h => ?_)
  · obtain ⟨b, sb, rfl, _⟩ := h
    rfl
  · obtain ⟨b, sb, rfl, B, q⟩ := h
    refine ⟨_, (pss_one (ps_ret (pe_call (ok_of T) (hr.mono (by decide)) (by rfl) T.g_of T.F_of.kp T.b_of .nil pass0 (pa_cons (pv 0) (pa_cons (pe_lst (pa_cons pe_int (pa_cons pe_int (pa_cons pe_int (pa_cons pe_int (pa_cons pe_int (pa_cons pe_int (pa_cons pe_int (pa_cons (pe_op op_add pe_int (pe_call (ok_pull T) (hr.mono (by decide)) (by rfl) T.g_pull T.F_pull.kp T.b_pull .nil pass0 (pa_cons (pv 0) (pa_cons (pe_op op_pow pe_int pe_int) pa_nil)))) pa_nil))))))))) pa_nil))))), ?_⟩
    refine ⟨.ref b, rfl, .ref b, rfl, 10, 6, rfl, rfl, ⟨by decide, by decide, by decide⟩, b, sb, _, rfl, B, (by decide), (by decide), fun z H1 z0 z1 B1 k1 => ⟨1, z, rfl, rfl, by show 8 ≤ sizeLine; decide, fun l hl => ?_⟩⟩
    have z2 : z < 1000000 := z1
    refine ⟨b, sb, l, _, rfl, B1.new hl, upd_same, B1.ne hl, by simp, by simp, fun i v H2 hv B2 k2 => ?_⟩
    have kk := k1.trans ((keep_new hl).trans k2)
    match i, hv with
    | 0, hv => cases hv; exact q 1 H2 (by decide) (by decide) B2 kk
    | 1, hv => cases hv; exact q 1 H2 (by decide) (by decide) B2 kk
    | 2, hv => cases hv; exact q 1 H2 (by decide) (by decide) B2 kk
    | 3, hv => cases hv; exact q 2 H2 (by decide) (by decide) B2 kk
    | 4, hv => cases hv; exact q 3 H2 (by decide) (by decide) B2 kk
    | 5, hv => cases hv; exact q 6 H2 (by decide) (by decide) B2 kk
    | 6, hv => cases hv; exact q 12 H2 (by decide) (by decide) B2 kk
    | 7, hv => cases hv; exact q (1 + z) H2 (by omega) (by omega) B2 kk
    | n + 8, hv => simp at hv
end
/-! ### rows and stocks that are drawn -/
/-- the rows es, in a list that the program has made -/
def RowsL (H : Hp) (l : Addr) (es : DEs) : Prop := ∃ as : List Addr, H l = some (.lst (as.map V.ref)) ∧ RowsAt H as es ∧ ∀ e ∈ es, ShAt H e.2.1 e.1
theorem RowsL.mono {H H' : Hp} {l : Addr} {es : DEs} (h : RowsL H l es) (kl : ∀ xs, H l = some (.lst xs) → H' l = some (.lst xs)) (k : ∀ p xs, H p = some (.tup xs) → H' p = some (.tup xs)) : RowsL H' l es := by
  obtain ⟨as, h1, h2, h3⟩ := h
  exact ⟨as, kl _ h1, h2.mono k, fun e he => (h3 e he).mono k⟩
theorem RowsL.same {H H' : Hp} {l : Addr} {es : DEs} (h : RowsL H l es) (s : Same H H') : RowsL H' l es := h.mono (fun _ z => s _ _ z) fun _ _ z => s _ _ z
theorem RowsL.keep {H H' : Hp} {l b sb : Addr} {es : DEs} (h : RowsL H l es) (B : Bag H b sb) (n : l ≠ b) (k : Keep b H H') : RowsL H' l es := h.mono (fun _ z => k _ _ n z) (tup_keep B k)
theorem RowsL.snoc {H : Hp} {l t p : Addr} {es : DEs} {x : Sh} {n : Int} (h : RowsL H l es) (ht : H t = some (.tup [.ref p, .int n])) (hp : ShAt H p x) : ∃ xs, H l = some (.lst xs) ∧ xs.length = es.length ∧ RowsL (upd H l (.lst (xs ++ [.ref t]))) l (es ++ [(x, p, n)]) := by
  obtain ⟨as, h1, h2, h3⟩ := h
  refine ⟨_, h1, by rw [List.length_map]; exact h2.len, as ++ [t], by rw [upd_same, List.map_append]; rfl, ?_, fun e he => ?_⟩
  · have r2 : RowsAt (upd H l (.lst (as.map V.ref ++ [.ref t]))) as es := h2.mono (tup_put h1)
    unfold RowsAt at r2 ⊢
    exact Paired.snoc (a := t) (b := (x, p, n)) (tup_put h1 _ _ ht) r2
  · rcases List.mem_append.mp he with he | he
    · exact (h3 e he).mono (tup_put h1)
    · rw [List.mem_singleton.mp he]
      exact hp.mono (tup_put h1)
theorem RowsL.handed {K : PySem.W.Frag} {H : Hp} {l : Addr} {es : DEs} (h : RowsL H l es) : Handed K H (.ref l) es := by
  obtain ⟨as, h1, h2, h3⟩ := h
  exact .list (SqL.of h1) h2 h3
def rowD (e : Sh × Addr × Int) : PyData := .tuple [encS e.1, .int e.2.2]
theorem sh_dp {K : PySem.W.Frag} {H : Hp} {p : Addr} {x : Sh} (h : ShAt H p x) : Dp K H (.ref p) (encS x) := by
  obtain ⟨u, v, h1, h2, h3⟩ := h
  exact .tup (SqT.of h1) (.cons (dpair h2) (.cons (dpair h3) .nil))
theorem RowsL.dp {K : PySem.W.Frag} {H : Hp} {l : Addr} {es : DEs} (h : RowsL H l es) : Dp K H (.ref l) (.list (es.map rowD)) := by
  obtain ⟨as, h1, h2, h3⟩ := h
  refine .lst (SqL.of h1) ?_
  clear h1
  revert h3
  induction h2 with
  | nil => exact fun _ => .nil
  | @cons a e as es r t ih =>
    intro h3
    exact .cons (.tup (SqT.of r) (.cons (sh_dp (h3 e List.mem_cons_self)) (.cons (.int _) .nil))) (ih fun f hf => h3 f (List.mem_cons_of_mem _ hf))
theorem rowD_can (e : Sh × Addr × Int) : (rowD e).canLay0 = true ∧ (rowD e).depth = 3 := by
  unfold rowD encS
  constructor
  · simp [PyData.canLay0, PyData.canLayAll0]
  · simp [PyData.depth, PyData.depthAll]
theorem rows_shaped (es : DEs) : SeqAt.shaped (.list (es.map rowD)) = true := by
  have h : ∀ es : DEs, PyData.canLayAll0 (es.map rowD) = true ∧ PyData.depthAll (es.map rowD) ≤ 3 := by
    intro es
    induction es with
    | nil => exact ⟨by simp [PyData.canLayAll0], by simp [PyData.depthAll]⟩
    | cons e es ih =>
      obtain ⟨r1, r2⟩ := rowD_can e
      constructor
      · simp [PyData.canLayAll0, r1, ih.1]
      · simp [PyData.depthAll, r2, ih.2]
  obtain ⟨h1, h2⟩ := h es
  unfold SeqAt.shaped
  rw [Bool.and_eq_true]
  refine ⟨by simp [PyData.canLay0, h1], decide_eq_true ?_⟩
  simp only [PyData.depth]
  omega
theorem rows_nil (es : DEs) : PyData.eqv (.list (es.map rowD)) (.list []) = es.isEmpty := by
  cases es with
  | nil => simp [PyData.eqv, PyData.eqvAll]
  | cons e es => simp [PyData.eqv, PyData.eqvAll]
theorem RowsL.more {H : Hp} {l : Addr} {es fs : DEs} {bs : List Addr} {L : Addr} (R : RowsL H l es) (hb : RowsAt H bs fs) (hk : ∀ e ∈ fs, ShAt H e.2.1 e.1) (hL : H L = some (.lst (bs.map V.ref))) :
    ∃ xs, H l = some (.lst xs) ∧ xs.length = es.length ∧ ∀ q, H q = none → RowsL (upd H q (.lst (xs ++ bs.map V.ref))) q (es ++ fs) := by
  obtain ⟨as, h1, h2, h3⟩ := R
  refine ⟨_, h1, by rw [List.length_map]; exact h2.len, fun q hq => ⟨as ++ bs, by rw [upd_same, List.map_append], ?_, fun e he => ?_⟩⟩
  · have app : ∀ {as : List Addr} {es : DEs}, RowsAt H as es → RowsAt H (as ++ bs) (es ++ fs) := by
      intro as es h
      induction h with
      | nil => exact hb
      | cons r _ ih => exact Paired.cons r ih
    exact (app h2).mono fun a xs z => (same_new hq) _ _ z
  · refine ShAt.same (same_new hq) ?_
    rcases List.mem_append.mp he with he | he
    · exact h3 e he
    · exact hk e he
theorem RowsL.step {H G : Hp} {D t p : Addr} {fs : DEs} {i : Nat} {x : Sh} {n : Int} (hD : H D = none) (s : Same H G) (R : RowsL G D (fs.take i)) (hf : fs[i]? = some (x, p, n)) (ht : G t = none) (hp : ShAt G p x) :
    ∃ xs, (upd G t (.tup [.ref p, .int n])) D = some (.lst xs) ∧ xs.length ≤ i ∧ Same H (upd (upd G t (.tup [.ref p, .int n])) D (.lst (xs ++ [.ref t]))) ∧ RowsL (upd (upd G t (.tup [.ref p, .int n])) D (.lst (xs ++ [.ref t]))) D (fs.take (i + 1)) := by
  have e := same_new (o := .tup [.ref p, .int n]) ht
  obtain ⟨xs, g1, g2, g3⟩ := (R.same e).snoc (t := t) upd_same (hp.same e)
  refine ⟨xs, g1, by rw [g2, List.length_take]; omega, fun a o z => (upd_ne (ne_of_none z hD)).trans (e _ _ (s a o z)), ?_⟩
  rw [List.take_add_one, hf]
  exact g3
section
variable {base : Heap} {K : PySem.W.Frag} {mg : Str → Option Value} {P : Program} {w : World}
def spSomeRows : Sp := fun vs H Q _ => ∃ (b sb : Addr) (d m : Int), vs = [.ref b, .int d, .int m] ∧ Bag H b sb ∧ IsRoot d ∧ 0 ≤ m ∧ m ≤ 100 ∧
  ∀ l es H', H l = none → RowsL H' l es → Within (ShB d) (10 ^ 6) es → (es.length : Int) ≤ m → Bag H' b sb → Keep b H H' → Q (.ref l) H'
theorem ok_some_rows (T : Txt K mg) : FnOk P w K mg base CX0 6 T.f_some_rows T.d_some_rows ["_law_bag", "_law_root", "_law_most"] spSomeRows := by
  refine T.F_some_rows.ok sc_some_rows (fun vs H Q E h => ?_) (fun cdv A outer s H vs Q E hr h => ?_)
  · obtain ⟨b, sb, d, m, rfl, _⟩ := h
    rfl
  · obtain ⟨b, sb, d, m, rfl, B, hd, m0, m1, q⟩ := h
    refine ⟨_, (pss_cons (ps_set (i := 3) sc_some_rows.nd rfl (Or.inl rfl) (pe_lst pa_nil))
      (pss_cons (ps_for PassesOwn.never rfl (pi_range1 (by rfl) T.n_range (pa_cons (pe_call (ok_pull T) (hr.mono (by decide)) (by rfl) T.g_pull T.F_pull.kp T.b_pull .nil pass0 (pa_cons (pv 0) (pa_cons (pe_op op_add (pv 2) pe_int) pa_nil))) pa_nil)) (pg_name (i := 4) sc_some_rows.nd rfl (Or.inl rfl)) (pss_cons (ps_set (i := 5) sc_some_rows.nd rfl (Or.inl rfl) (pe_call (ok_a_sheet T) (hr.mono (by decide)) (by rfl) T.g_a_sheet T.F_a_sheet.kp T.b_a_sheet .nil pass0 (pa_cons (pv 0) (pa_cons (pv 1) pa_nil))))
      (pss_cons (ps_if (PW.pt (pw_and (pt_cmpR (op_neD hr.units) (pv 3) (pe_lst pa_nil) (nomark _)) (pw_and1 (pt_cmpR op_eq (pe_call (ok_pull T) (hr.mono (by decide)) (by rfl) T.g_pull T.F_pull.kp T.b_pull .nil pass0 (pa_cons (pv 0) (pa_cons pe_int pa_nil))) pe_int (nomark _))))) (pss_one (ps_set (i := 5) sc_some_rows.nd rfl (Or.inl rfl) (pe_ix ix_tup (pe_call (ok_of T) (hr.mono (by decide)) (by rfl) T.g_of T.F_of.kp T.b_of .nil pass0 (pa_cons (pv 0) (pa_cons (pv 3) pa_nil))) pe_int (fun _ _ => rfl)))) pss_nil)
      (pss_one (ps_expr (pe_bm PySem.F.plainAttrs_list PySem.F.slot_list_append PySem.F.type_list_append mt_append (pv 3) (pa_cons (pe_tup (pa_cons (pv 5) (pa_cons (pe_call (ok_some_count T) (hr.mono (by decide)) (by rfl) T.g_some_count T.F_some_count.kp T.b_some_count .nil pass0 (pa_cons (pv 0) pa_nil)) pa_nil))) pa_nil)))))))
      (pss_one (ps_ret (pv 3))))), ?_⟩
    refine ⟨Nat.zero_le _, fun l hl => ?_⟩
    have nl := B.ne hl
    have nl2 := B.ne2 hl
    have B0 := B.new (o := .lst []) hl
    refine ⟨.ref b, rfl, _, rfl, m, 1, rfl, rfl, b, sb, _, rfl, B0, by omega, Nat.lt_of_le_of_lt (show (m + 1).natAbs ≤ 101 by omega) (by decide), fun z H1 z0 z1 B1 k1 => ?_⟩
    have h1 : H1 l = some (.lst []) := k1 _ _ nl upd_same
    refine ⟨z, rfl, by omega, by omega, for_range (lo := 0) (n := z.toNat) (fun i σ H' => ∃ y4 y5 es, σ = [some (.ref b), some (.int d), some (.int m), some (.ref l), y4, y5] ∧ RowsL H' l es ∧ Within (ShB d) (10 ^ 6) es ∧ es.length = i ∧ Bag H' b sb ∧ Keep b H H')
      ⟨none, none, [], rfl, ⟨[], h1, .nil, fun e he => by cases he⟩, (fun e he => by cases he), rfl, B1, (keep_new hl).trans k1⟩ ?_ ?_⟩
    · rintro i σ H2 hi ⟨y4, y5, es, rfl, R2, W2, e2, B2, k2⟩
      refine ⟨.ref b, rfl, .int d, rfl, b, sb, d, rfl, B2, hd, fun x p H3 hx hp B3 k3 => ?_⟩
      have R3 := R2.keep B2 nl k3
      -- behind the test
      have rest : ∀ (p : Addr) (x : Sh) (H5 : Hp), ShB d x → ShAt H5 p x → RowsL H5 l es → Bag H5 b sb → Keep b H H5 → tBM K "list" rAppend (tVar 3) (tCons (tTup (tCons (tVar 5) (tCons (tCall spCount [] E0 (tCons (tVar 0) tNil)) tNil))) tNil) [some (.ref b), some (.int d), some (.int m), some (.ref l), some (.int (0 + (i : Int))), some (.ref p)] H5 fun _ H' => ∃ y4 y5 es, [some (V.ref b), some (.int d), some (.int m), some (.ref l), some (.int (0 + (i : Int))), some (.ref p)] = [some (.ref b), some (.int d), some (.int m), some (.ref l), y4, y5] ∧ RowsL H' l es ∧ Within (ShB d) (10 ^ 6) es ∧ es.length = i + 1 ∧ Bag H' b sb ∧ Keep b H H' := by
        intro p x H5 hx hp R5 B5 k5
        obtain ⟨as, hl5, _⟩ := id R5
        refine ⟨.ref l, rfl, .inl ⟨rfl, _, SqL.of hl5⟩, .ref p, rfl, .ref b, rfl, b, sb, rfl, B5, fun n H6 n0 n1 B6 k6 => ⟨by show 2 ≤ sizeLine; decide, fun t ht => ?_⟩⟩
        have k7 := k6.trans (keep_new (o := .tup [.ref p, .int n]) ht)
        have R7 := R5.keep B5 nl k7
        have p7 := hp.mono (tup_keep B5 k7)
        obtain ⟨xs, g1, g2, g3⟩ := R7.snoc (t := t) (p := p) (x := x) (n := n) upd_same p7
        refine ⟨l, xs, .ref t, rfl, rfl, g1, small1000 (by omega), _, _, _, rfl, g3, ?_, by rw [List.length_append, e2]; rfl, (B6.new ht).put nl nl2, ?_⟩
        · intro e he
          rcases List.mem_append.mp he with he | he
          · exact W2 e he
          · rw [List.mem_singleton.mp he]
            exact ⟨hx, n0, n1⟩
        · exact fun a o na z => (upd_ne (ne_of_none z hl)).trans ((k5.trans k7) a o na z)
      refine ⟨_, rfl, Nat.zero_le _, fun nn hnn => ?_⟩
      have s4 := same_new (o := .lst []) hnn
      refine ⟨_, .list [], (R3.same s4).dp, .lst (SqL.of upd_same) .nil, rows_shaped es, by decide +kernel, ?_⟩
      rw [rows_nil]
      have B4 := B3.same s4
      have k4 := k2.trans (k3.trans (keep_of s4))
      cases es with
      | nil => exact ⟨false, rfl, iteF (iteF (rest p x _ hx (hp.same s4) (R3.same s4) B4 k4))⟩
      | cons e es =>
        refine ⟨true, rfl, iteT ⟨_, rfl, b, sb, 4, rfl, B4, by decide, by decide, fun z5 H5 _ _ B5 k5 => ⟨rfl, _, rfl, ?_⟩⟩⟩
        have R5 := (R3.same s4).keep B4 nl k5
        obtain ⟨as, hl5, ra5, ks5⟩ := id R5
        refine ite2 (fun _ => ?_) (fun _ => rest p x H5 hx ((hp.same s4).mono (tup_keep B4 k5)) R5 B5 (k4.trans k5))
        refine ⟨.ref b, rfl, .ref l, rfl, b, sb, l, _, rfl, B5, hl5, nl, ?_, ?_, fun j v H6 hv B6 k6 => ?_⟩
        · rw [List.length_map, ra5.len]
          exact Nat.succ_pos _
        · rw [List.length_map, ra5.len, e2]
          omega
        · obtain ⟨a, f, rfl, hf, ha⟩ := ra5.row hv
          have mf := List.mem_of_getElem? hf
          refine ⟨a, _, 0, .ref f.2.1, rfl, rfl, SqT.of (tup_keep B5 k6 _ _ ha), atI_nat (j := 0) rfl, ?_⟩
          exact rest f.2.1 f.1 H6 (W2 f mf).1 ((ks5 f mf).mono (tup_keep B5 k6)) (R5.keep B5 nl k6) B6 (k4.trans (k5.trans k6))
    · rintro σ H2 ⟨y4, y5, es, rfl, R2, W2, e2, B2, k2⟩
      exact ⟨_, rfl, q l es H2 hl R2 W2 (by omega) B2 k2⟩
end
/-! ### stocks, listings -/
section
variable {base : Heap} {K : PySem.W.Frag} {mg : Str → Option Value} {P : Program} {w : World}
def spStock (K : PySem.W.Frag) (P : Program) (w : World) : Sp := fun vs H Q _ => ∃ (l : Addr) (es : DEs), vs = [.ref l] ∧ RowsL H l es ∧ es.length ≤ 1000 ∧ NewD P w H (mergeD es) Q
theorem ok_stock_of (T : Txt K mg) : FnOk P w K mg base CX0 1 T.f_stock_of T.d_stock_of ["_law_rows"] (spStock K P w) := by
  refine T.F_stock_of.ok sc_stock_of (fun vs H Q E h => ?_) (fun cdv A outer s H vs Q E hr h => ?_)
  · obtain ⟨l, es, rfl, _⟩ := h
    rfl
  · obtain ⟨l, es, rfl, ⟨as, hl, hr2, hk⟩, hn, q⟩ := h
    refine ⟨_, (pss_cons (ps_set (i := 1) sc_stock_of.nd rfl (Or.inl rfl) pe_dnewS)
      (pss_cons (ps_for PassesOwn.never rfl (pi_list (pv 0)) (pg_tup (by rfl) (pgs_cons (pg_name (i := 2) sc_stock_of.nd rfl (Or.inl rfl)) (pgs_cons (pg_name (i := 3) sc_stock_of.nd rfl (Or.inl rfl)) pgs_nil))) (pss_one (ps_sput hr.units (pv 1) (pv 2) (pe_op op_add (pe_sget2 hr.units (pv 1) (pv 2) pe_int ⟨rfl, rfl, rfl, rfl⟩) (pv 3)) rfl)))
      (pss_one (ps_ret (pv 1))))), ?_⟩
    intro c hc
    have D0 : DAt P w (upd H c (DS P w c [])) c [] := ⟨upd_same, fun x hx => by cases hx⟩
    refine ⟨_, rfl, l, rfl, ⟨_, SqL.of ((same_new hc) _ _ hl)⟩, for_list (K := K) (a := l) (xs := as.map V.ref) (fun i σ H' => ∃ y2 y3, σ = [some (.ref l), some (.ref c), y2, y3] ∧ Same H H' ∧ DAt P w H' c (mergeTo es i)) ⟨none, none, rfl, same_new hc, D0⟩ ?_ ?_ ?_⟩
    · rintro i σ H' _ ⟨_, _, _, s1, _⟩
      exact SqL.of (s1 _ _ hl)
    · rintro i x σ H' hx ⟨y2, y3, rfl, s1, D⟩
      obtain ⟨a, e, rfl, he, ha⟩ := hr2.row hx
      have hs := (hk e (List.mem_of_getElem? he)).same s1
      have hlt : i < es.length := (List.getElem?_eq_some_iff.mp he).1
      refine ⟨a, _, rfl, SqT.of (s1 _ _ ha), rfl, .ref e.2.1, _, rfl, .int e.2.2, _, rfl, rfl, ?_⟩
      refine ⟨.ref c, rfl, c, _, rfl, D.rd, .ref e.2.1, rfl, e.2.1, e.1, 0, _, rfl, rfl, D.rd, hs, .int e.2.2, rfl, _, _, rfl, rfl, .ref c, rfl, .ref e.2.1, rfl, c, e.2.1, _, e.1, _, rfl, rfl, rfl, D, hs, small_of (by have := mergeTo_len es i; omega), ?_⟩
      obtain ⟨s2, D2⟩ := step_put hc s1 D hs he
      exact ⟨_, _, rfl, s2, D2⟩
    · rintro σ H' ⟨y2, y3, rfl, s1, D⟩
      rw [List.length_map, hr2.len, mergeTo_all] at D
      exact ⟨_, rfl, q c H' hc s1 D⟩
def spListed (P : Program) (w : World) : Sp := fun vs H Q _ => ∃ (d : Addr) (es : DEs), vs = [.ref d] ∧ DAt P w H d es ∧ (keysD es).Nodup ∧ es.length ≤ 1000 ∧ ∀ l H', H l = none → Same H H' → RowsL H' l (sortE es) → Q (.ref l) H'
theorem ok_listed (T : Txt K mg) : FnOk P w K mg base CX0 1 T.f_listed T.d_listed ["_law_stock"] (spListed P w) := by
  refine T.F_listed.ok sc_listed (fun vs H Q E h => ?_) (fun cdv A outer s H vs Q E hr h => ?_)
  · obtain ⟨d, es, rfl, _⟩ := h
    rfl
  · obtain ⟨d, es, rfl, D, nd, hn, q⟩ := h
    refine ⟨_, (pss_one (ps_ret (pe_lc (own := [("_law_sheet", 1)]) (g := (gName 1)) (tt := tYes) (te := tTup (tCons (tVar 1) (tCons (tSGet P w (tVar 0) (tVar 1)) tNil))) (by rfl) sc_listed.nd (pi_list (pe_callB (cr_sortedLS hr.units) (by rfl) T.n_sorted (by decide +kernel) (pa_cons (pe_callTy (call_list_DS rfl) (by rfl) T.n_list (by decide +kernel) (pa_cons (pv 0) pa_nil)) pa_nil))) (blkOk_by (own := [("_law_sheet", 1)]) (N := ["_law_stock", "_law_sheet"]) (sc := defScope s_listed) (by decide +kernel)) (fun _ _ _ _ _ => (pg_name (i := 1) sc_listed.nd rfl (Or.inl rfl))) (fun _ _ _ _ _ => pts_nil) (fun _ _ _ _ _ => (pe_tup (pa_cons (pv 1) (pa_cons (pe_sget hr.units (pv 0) (pv 1) (fun _ _ => rfl)) pa_nil))))))), ?_⟩
    refine ⟨.ref d, rfl, d, es, rfl, D, fun l0 h0 => ?_⟩
    have e0 := same_new (o := .lst (es.map fun e => V.ref e.2.1)) h0
    refine ⟨l0, es.map fun e => (e.1, e.2.1), rfl, ?_, ?_, fun l1 h1 => ?_⟩
    · rw [upd_same, List.map_map]
      rfl
    · intro b hb
      obtain ⟨e, he, rfl⟩ := List.mem_map.mp hb
      exact (D.ks e he).same e0
    have e1 := same_new (o := .lst ((sortK es).map fun b => V.ref b.2)) h1
    have e01 := e0.trans e1
    refine ⟨l1, rfl, ⟨_, SqL.of upd_same⟩, fun D2 hD2 => ?_⟩
    have hlen : (sortE es).length ≤ 1000 := by
      rw [(sortE_perm nd).length_eq]
      exact hn
    refine lc_list (K := K) (a := l1) (xs := (sortK es).map fun b => V.ref b.2) (fun i G => Same (upd (upd H l0 (.lst (es.map fun e => V.ref e.2.1))) l1 (.lst ((sortK es).map fun b => V.ref b.2))) G ∧ RowsL G D2 ((sortE es).take i)) ⟨same_new hD2, [], upd_same, .nil, fun e he => by cases he⟩ (fun i G _ z => SqL.of (z.1 _ _ upd_same)) ?_ ?_
    · rintro i x G hx ⟨sG, RG⟩
      rw [List.getElem?_map] at hx
      cases hb : (sortK es)[i]? with
      | none =>
        rw [hb] at hx
        cases hx
      | some b =>
        rw [hb] at hx
        cases hx
        obtain ⟨n, hv, hat, hin⟩ := sortE_at nd hb
        have Dc := D.same (e01.trans sG)
        have hs := Dc.ks _ hin
        refine ⟨rfl, _, rfl, _, rfl, _, rfl, d, b.2, _, b.1, n, rfl, rfl, Dc.rd, hs, hv, by show 2 ≤ sizeLine; decide, fun t ht => ?_⟩
        obtain ⟨xs, g1, g2, g3, g4⟩ := RowsL.step hD2 sG RG hat ht hs
        have hi := (List.getElem?_eq_some_iff.mp hat).1
        exact ⟨xs, g1, small1000 (by omega), g3, g4⟩
    · rintro G ⟨sG, RG⟩
      have hl : ((sortK es).map fun b => V.ref b.2).length = (sortE es).length := by
        unfold sortE
        rw [List.length_map, List.length_map]
      rw [hl, List.take_length] at RG
      exact q D2 G (e01.free hD2) (e01.trans sG) RG
end
/-! ### rows that are in order already -/
theorem fold_new : ∀ (es acc : DEs), (keysD (acc ++ es)).Nodup → es.foldl addE acc = acc ++ es
  | [], acc, _ => by simp
  | e :: es, acc, h => by
    have h' : (keysD acc ++ e.1 :: keysD es).Nodup := by
      have : keysD (acc ++ e :: es) = keysD acc ++ e.1 :: keysD es := by
        unfold keysD
        rw [List.map_append, List.map_cons]
      rwa [this] at h
    have hn : valD acc e.1 = none := valD_none.mpr fun z => (List.nodup_append.mp h').2.2 _ z _ List.mem_cons_self rfl
    have e1 : addE acc e = acc ++ [e] := by
      unfold addE
      rw [putD_new hn, hn]
      show acc ++ [(e.1, e.2.1, 0 + e.2.2)] = _
      rw [Int.zero_add]
    rw [List.foldl_cons, e1, fold_new es (acc ++ [e]) (by rw [List.append_assoc]; exact h), List.append_assoc]
    rfl
theorem merge_id {es : DEs} (h : (keysD es).Nodup) : mergeD es = es := by
  have := fold_new es [] h
  simpa [mergeD] using this
theorem sort_id {es : DEs} (h : Asc es) : sortE es = es := by
  have k : sortK es = es.map fun e => (e.1, e.2.1) := by
    unfold sortK
    refine List.mergeSort_of_pairwise ?_
    rw [List.pairwise_map]
    refine h.up.imp fun {a b} l => ?_
    unfold leS
    rw [decide_eq_false fun z => ltS_asym l z]
    rfl
  unfold sortE
  rw [k, List.map_map, List.map_congr_left (g := id) fun e he => ?_, List.map_id]
  show (e.1, e.2.1, (valD es e.1).getD 0) = e
  rw [valD_mem h.nd he]
  rfl
theorem made_sorted {es : DEs} (nd : (keysD es).Nodup) (pos : ∀ e ∈ es, 1 ≤ e.2.2) : sortE (mergeD (sortE es)) = sortE es := by
  rw [merge_id (sortE_keys nd)]
  exact sort_id ⟨sortE_up nd, fun e he => pos e ((sortE_perm nd).mem_iff.mp he)⟩
/-! ### heaps of stocks, whether a heap is the one that is due -/
section
variable {base : Heap} {K : PySem.W.Frag} {mg : Str → Option Value} {P : Program} {w : World}
theorem Bag.ext {H : Hp} {b sb p : Addr} {φ : Heap → Prop} (B : Bag H b sb) (hp : H p = some (.ext φ)) : p ≠ b := by
  obtain ⟨ns, i, j, m, c, B⟩ := B
  exact ne_of hp B.hb (by intro z; cases z)
theorem Bag.ins {H : Hp} {b sb p C dx : Addr} {fs : List (Str × V)} (B : Bag H b sb) (hp : H p = some (.ins C dx fs)) : p ≠ b := by
  obtain ⟨ns, i, j, m, c, B⟩ := B
  exact ne_of hp B.hb (by intro z; cases z)
theorem DAt.keep {H H' : Hp} {b sb d : Addr} {es : DEs} (D : DAt P w H d es) (B : Bag H b sb) (k : Keep b H H') : DAt P w H' d es := ⟨k _ _ (B.ext D.hd) D.hd, fun x hx => (D.ks x hx).mono (tup_keep B k)⟩
theorem HeapAt.keep {C : Addr} {H H' : Hp} {b sb p : Addr} {d : Int} {es : DEs} (h : HeapAt P w C H p d es) (B : Bag H b sb) (k : Keep b H H') : HeapAt P w C H' p d es := by
  obtain ⟨dx, c, h1, h2⟩ := h
  exact ⟨dx, c, k _ _ (B.ins h1) h1, h2.keep B k⟩
end
section
variable {base : Heap} {K : PySem.W.Frag} {mg : Str → Option Value} {w : World}
theorem Within.rowB {d M : Int} {es : DEs} (h : Within (ShB d) M es) : ∀ e ∈ es, rowB d e = true := fun e he => by
  obtain ⟨h1, h2, _⟩ := h e he
  unfold Gy.rowB
  rw [decide_eq_true h2, h1.ok.b.1]
  rfl
theorem Within.es100 {d M : Int} {es : DEs} (h : Within (ShB d) M es) : Es100 es := fun e he => (h e he).1.ok.b.2
def spHeapOf (T : Txt K mg) (w : World) : Sp := fun vs H Q _ => ∃ (c : Addr) (d M : Int) (es : DEs), vs = [.int d, .ref c] ∧ IsRoot d ∧ DAt PySem.Challenge.pw_grainyard_k21_reverse_steps w H c es ∧ (keysD es).Nodup ∧ Within (ShB d) M es ∧ es.length ≤ 1000 ∧ ∀ p H', H p = none → Same H H' → HeapAt PySem.Challenge.pw_grainyard_k21_reverse_steps w T.C_Heap H' p d (sortE es) → Q (.ref p) H'
theorem ok_heap_of (T : Txt K mg) : FnOk PySem.Challenge.pw_grainyard_k21_reverse_steps w K mg base CX0 7 T.f_heap_of T.d_heap_of ["_law_root", "_law_stock"] (spHeapOf T w) := by
  refine T.F_heap_of.ok sc_heap_of (fun vs H Q E h => ?_) (fun cdv A outer s H vs Q E hr h => ?_)
  · obtain ⟨c, d, M, es, rfl, _⟩ := h
    rfl
  · obtain ⟨c, d, M, es, rfl, hd, D, nd, wi, hn, q⟩ := h
    refine ⟨_, (pss_one (ps_ret (pe_make T.M_Heap (ok_Heap_init T) (hr.mono (by decide)) (by rfl) T.g_Heap T.b_Heap_init .nil pass_never (pa_cons (pv 0) (pa_cons (pe_call (ok_listed T) (hr.mono (by decide)) (by rfl) T.g_listed T.F_listed.kp T.b_listed .nil pass0 (pa_cons (pv 1) pa_nil)) pa_nil))))), ?_⟩
    refine ⟨_, rfl, _, rfl, c, es, rfl, D, nd, hn, fun l H1 hl s1 R => ?_⟩
    have wi' := wi.perm (sortE_perm nd)
    refine mk_heap (T := T) (w := w) (isRB_of hd) R.handed wi'.es100 wi'.rowB (by rw [(sortE_perm nd).length_eq]; exact hn) fun x H2 hx s2 hA => ?_
    rw [made_sorted nd fun e he => (wi e he).2.1] at hA
    exact q x H2 (s1.free hx) (s1.trans s2) hA
end
/-! ### heaps that are equal -/
section
variable {base : Heap} {K : PySem.W.Frag} {mg : Str → Option Value} {P : Program} {w : World}
def spHEq (P : Program) (w : World) (C : Addr) : Sp := fun vs H Q _ => ∃ (p q : Addr) (d d' : Int) (es fs : DEs), vs = [.ref p, .ref q] ∧ HeapAt P w C H p d es ∧ HeapAt P w C H q d' fs ∧ Q (.bl (decide (d = d') && eqD es fs)) H
theorem dVi {x y : Int} : decide (V.int x = V.int y) = decide (x = y) := by
  by_cases h : x = y
  · rw [decide_eq_true h, h, decide_eq_true rfl]
  · rw [decide_eq_false h, decide_eq_false fun z => h (V.int.inj z)]
theorem ok_Heap_eq (T : Txt K mg) : FnOk P w K mg base CX0 1 T.f_Heap_eq T.d_Heap_eq ["self", "other"] (spHEq P w T.C_Heap) := by
  refine T.F_Heap_eq.ok sc_Heap_eq (fun vs H Q E h => ?_) (fun cdv A outer s H vs Q E hr h => ?_)
  · obtain ⟨p, q, d, d', es, fs, rfl, _⟩ := h
    rfl
  · obtain ⟨p, q, d, d', es, fs, rfl, ⟨dx, c, hp, D⟩, ⟨dy, c', hq, D'⟩, k⟩ := h
    refine ⟨_, (pss_one (ps_ret (pe_and (pe_callB call_isi (by rfl) T.n_isinstance (by decide +kernel) (pa_cons (pv 1) (pa_cons (pe_glob (v := .ref T.C_Heap) (by rfl) T.g_Heap rfl) pa_nil))) (pe_and (pe_cmpR op_eq (pe_fld (pv 0) rfl) (pe_fld (pv 1) rfl) (nomark _)) (pe_one (pe_cmpR (op_eqDS hr.units) (pe_fld (pv 0) rfl) (pe_fld (pv 1) rfl) (nomark _))))))), ?_⟩
    refine ⟨_, rfl, .ref q, .ref T.C_Heap, .ref T.C_Heap, .ref T.C_Heap, true, rfl, ClsV.own _, TyX.base (TyOf.ins hq T.cl_Heap T.ca_Heap T.hn T.ht T.mo_Heap), by simp [PySem.W.kitOne], true, rfl, iteT ?_⟩
    refine ⟨_, rfl, p, T.C_Heap, dx, _, _, rfl, hp, T.cl_Heap, T.n_Heap_held_root, rfl, _, rfl, q, T.C_Heap, dy, _, _, rfl, hq, T.cl_Heap, T.n_Heap_held_root, rfl, rfl, decide (d = d'), (by rw [dVi]), ?_⟩
    cases z : decide (d = d') with
    | false =>
      rw [z, Bool.false_and] at k
      exact iteF k
    | true =>
      rw [z, Bool.true_and] at k
      exact iteT ⟨_, rfl, p, T.C_Heap, dx, _, _, rfl, hp, T.cl_Heap, T.n_Heap_copies, rfl, _, rfl, q, T.C_Heap, dy, _, _, rfl, hq, T.cl_Heap, T.n_Heap_copies, rfl, c, c', es, fs, rfl, rfl, D.rd, D'.rd, k⟩
end
def rowsE (es : DEs) : List (Sh × Int) := es.map fun e => (e.1, e.2.2)
/-! ### whether a heap is the one that is due, the sheets at other places -/
section
variable {base : Heap} {K : PySem.W.Frag} {mg : Str → Option Value} {w : World}
theorem LkAll.rows2 {H : Hp} {n : Nat} : ∀ {as bs : List Addr} {es fs : DEs}, RowsAt H as es → RowsAt H bs fs → (∀ e ∈ es, ShAt H e.2.1 e.1) → (∀ e ∈ fs, ShAt H e.2.1 e.1) → rowsE es = rowsE fs → LkAll H (n + 3) (as.map V.ref) (bs.map V.ref) := by
  intro as bs es fs r
  unfold RowsAt at r
  induction r generalizing bs fs with
  | nil =>
    intro r' _ _ e
    cases r' with
    | nil => exact .nil
    | cons _ _ => cases e
  | cons r t ih =>
    intro r' k k' e
    cases r' with
    | nil => cases e
    | cons r' t' =>
      obtain ⟨e1, e2⟩ := List.cons.inj e
      obtain ⟨ex, en⟩ := Prod.mk.inj e1
      obtain ⟨u, v, h1, h2, h3⟩ := k _ List.mem_cons_self
      obtain ⟨u', v', g1, g2, g3⟩ := k' _ List.mem_cons_self
      rw [ex] at h2 h3
      exact .cons (Lk.tups r r' (by simp) (.cons (Lk.tups h1 g1 (by simp) (.cons (Lk.pair h2 g2 rfl rfl) (.cons (Lk.pair h3 g3 rfl rfl) .nil))) (.cons (Lk.int en) .nil))) (ih t' (fun e he => k e (List.mem_cons_of_mem _ he)) (fun e he => k' e (List.mem_cons_of_mem _ he)) e2)
def spIsHeap (T : Txt K mg) (w : World) : Sp := fun vs H Q _ => ∃ (p c : Addr) (d : Int) (es fs : DEs), vs = [.ref p, .int d, .ref c] ∧ HeapAt PySem.Challenge.pw_grainyard_k21_reverse_steps w T.C_Heap H p d es ∧ DAt PySem.Challenge.pw_grainyard_k21_reverse_steps w H c fs ∧ (keysD fs).Nodup ∧ fs.length ≤ 1000 ∧ rowsE es = rowsE (sortE fs) ∧ ∀ H', Same H H' → Q (.bl true) H'
theorem ok_is_heap (T : Txt K mg) : FnOk PySem.Challenge.pw_grainyard_k21_reverse_steps w K mg base CX0 7 T.f_is_heap T.d_is_heap ["_law_heap", "_law_root", "_law_stock"] (spIsHeap T w) := by
  refine T.F_is_heap.ok sc_is_heap (fun vs H Q E h => ?_) (fun cdv A outer s H vs Q E hr h => ?_)
  · obtain ⟨p, c, d, es, fs, rfl, _⟩ := h
    rfl
  · obtain ⟨p, c, d, es, fs, rfl, hA, D, nd, hn, ee, q⟩ := h
    refine ⟨_, (pss_one (ps_ret (pe_and (pe_callB call_isi (by rfl) T.n_isinstance (by decide +kernel) (pa_cons (pv 0) (pa_cons (pe_glob (v := .ref T.C_Heap) (by rfl) T.g_Heap rfl) pa_nil))) (pe_one (pe_call (ok_like T) (hr.mono (by decide)) (by rfl) T.g_like T.F_like.kp T.b_like .nil pass0 (pa_cons (pe_lst (pa_cons (pe_prop (pv 0) T.cl_Heap T.pr_Heap_root (ok_Heap_root T) (hr.mono (by decide)) T.b_Heap_root .nil pass0 rfl) (pa_cons (pe_meth0 (pv 0) T.cl_Heap T.m_Heap_rows (ok_Heap_rows T) (hr.mono (by decide)) T.b_Heap_rows .nil pass0) pa_nil))) (pa_cons (pe_lst (pa_cons (pv 1) (pa_cons (pe_call (ok_listed T) (hr.mono (by decide)) (by rfl) T.g_listed T.F_listed.kp T.b_listed .nil pass0 (pa_cons (pv 2) pa_nil)) pa_nil))) pa_nil))))))), ?_⟩
    obtain ⟨dx, cc, hp, DA⟩ := id hA
    refine ⟨_, rfl, .ref p, .ref T.C_Heap, .ref T.C_Heap, .ref T.C_Heap, true, rfl, ClsV.own _, TyX.base (TyOf.ins hp T.cl_Heap T.ca_Heap T.hn T.ht T.mo_Heap), by simp [PySem.W.kitOne], true, rfl, iteT ?_⟩
    refine ⟨_, rfl, p, dx, _, rfl, hp, p, d, _, rfl, hA, _, rfl, p, dx, _, rfl, hp, rfl, p, d, _, rfl, hA, fun l as H1 hl s1 h1 R1 => ⟨by show 2 ≤ sizeLine; decide, fun l1 n1 => ?_⟩⟩
    have e1 := same_new (o := .lst [.int d, .ref l]) n1
    refine ⟨_, rfl, _, rfl, c, fs, rfl, (D.same s1).same e1, nd, hn, fun l2 H2 hl2 s2 R2 => ⟨by show 2 ≤ sizeLine; decide, fun l3 n3 => ?_⟩⟩
    have e3 := same_new (o := .lst [.int d, .ref l2]) n3
    have ln : es.length ≤ 1000 := by
      have e := congrArg List.length ee
      unfold rowsE at e
      rw [List.length_map, List.length_map, (sortE_perm nd).length_eq] at e
      omega
    have s23 := s2.trans e3
    have L1 : RowsL H1 l es := ⟨as, h1, R1, fun e he => (DA.ks e he).same s1⟩
    obtain ⟨as1, g1, g2, g3⟩ := (L1.same e1).same s23
    obtain ⟨as2, k1, k2, k3⟩ := R2.same e3
    refine ⟨_, _, rfl, Lk.lists (s23 _ _ upd_same) upd_same (by simp) (.cons (Lk.int rfl) (.cons (Lk.lists g1 k1 (by rw [List.length_map, g2.len]; exact ln) (LkAll.rows2 g2 k2 g3 k3 ee)) .nil)), fun H' s' => q _ ((s1.trans e1).trans (s23.trans s'))⟩
end
/-! ### steps as data -/
inductive Itm where
  | str (s : Str)
  | int (n : Int)
  | pair (a b : Int)
  | sheet (x : Sh)
abbrev words : List Str := ["saw", "split", "glue", "stack", "turn", "Saw", "across", "along", "", "Across"]
/-- what stands for an item -/
def ItAt (H : Hp) (v : V) : Itm → Prop
  | .str s => v = .str s ∧ s ∈ words
  | .int n => v = .int n
  | .pair a b => ∃ p, v = .ref p ∧ H p = some (.tup [.int a, .int b])
  | .sheet x => ∃ p, v = .ref p ∧ ShAt H p x
theorem ItAt.mono {H H' : Hp} (k : ∀ p xs, H p = some (.tup xs) → H' p = some (.tup xs)) {v : V} {t : Itm} (h : ItAt H v t) : ItAt H' v t := by
  cases t with
  | str s => exact h
  | int n => exact h
  | pair a b =>
    obtain ⟨p, e, h⟩ := h
    exact ⟨p, e, k _ _ h⟩
  | sheet x =>
    obtain ⟨p, e, h⟩ := h
    exact ⟨p, e, h.mono k⟩
theorem ItAt.same {H H' : Hp} (s : Same H H') {v : V} {t : Itm} (h : ItAt H v t) : ItAt H' v t := h.mono fun _ _ z => s _ _ z
def StepAt (H : Hp) (p : Addr) (ts : List Itm) : Prop := ∃ vs, H p = some (.tup vs) ∧ Paired (ItAt H) vs ts
theorem StepAt.mono {H H' : Hp} (k : ∀ p xs, H p = some (.tup xs) → H' p = some (.tup xs)) {p : Addr} {ts : List Itm} (h : StepAt H p ts) : StepAt H' p ts := by
  obtain ⟨vs, h1, h2⟩ := h
  refine ⟨vs, k _ _ h1, ?_⟩
  clear h1
  induction h2 with
  | nil => exact .nil
  | cons r _ ih => exact .cons (r.mono k) ih
theorem StepAt.same {H H' : Hp} (s : Same H H') {p : Addr} {ts : List Itm} (h : StepAt H p ts) : StepAt H' p ts := h.mono fun _ _ z => s _ _ z
def pairB : Itm → Bool
  | .pair _ _ => true
  | _ => false
def sheetB : Itm → Bool
  | .sheet _ => true
  | _ => false
def sideB : Itm → Bool
  | .str s => decide (s = "across" ∨ s = "along")
  | _ => false
def leastB (n : Int) : Itm → Bool
  | .int m => decide (n ≤ m)
  | _ => false
section
variable {K : PySem.W.Frag} {H : Hp}
end
/-! ### what a list is that is paired with a known one -/
section
variable {α β : Type} {R : α → β → Prop} {vs : List α} {t1 t2 t3 t4 t5 : β} {ts : List β}
theorem pinh (h : Paired R vs (t1 :: ts)) : ∃ v1 us, vs = v1 :: us ∧ R v1 t1 := by cases h with | cons a _ => exact ⟨_, _, rfl, a⟩
theorem pinc (h : Paired R vs (t1 :: ts)) : ∃ v1 us, vs = v1 :: us ∧ R v1 t1 ∧ Paired R us ts := by cases h with | cons a r => exact ⟨_, _, rfl, a, r⟩
theorem pin0 (h : Paired R vs []) : vs = [] := by cases h with | nil => rfl
theorem pin1 (h : Paired R vs [t1]) : ∃ v1, vs = [v1] ∧ R v1 t1 := by
  obtain ⟨a, us, rfl, h1, h⟩ := pinc h
  cases pin0 h
  exact ⟨_, rfl, h1⟩
theorem pin2 (h : Paired R vs [t1, t2]) : ∃ v1 v2, vs = [v1, v2] ∧ R v1 t1 ∧ R v2 t2 := by
  obtain ⟨a, us, rfl, h1, h⟩ := pinc h
  obtain ⟨b, rfl, h2⟩ := pin1 h
  exact ⟨_, _, rfl, h1, h2⟩
theorem pin3 (h : Paired R vs [t1, t2, t3]) : ∃ v1 v2 v3, vs = [v1, v2, v3] ∧ R v1 t1 ∧ R v2 t2 ∧ R v3 t3 := by
  obtain ⟨a, us, rfl, h1, h⟩ := pinc h
  obtain ⟨b, c, rfl, h2, h3⟩ := pin2 h
  exact ⟨_, _, _, rfl, h1, h2, h3⟩
theorem pin4 (h : Paired R vs [t1, t2, t3, t4]) : ∃ v1 v2 v3 v4, vs = [v1, v2, v3, v4] ∧ R v1 t1 ∧ R v2 t2 ∧ R v3 t3 ∧ R v4 t4 := by
  obtain ⟨a, us, rfl, h1, h⟩ := pinc h
  obtain ⟨b, c, d, rfl, h2, h3, h4⟩ := pin3 h
  exact ⟨_, _, _, _, rfl, h1, h2, h3, h4⟩
theorem pin5 (h : Paired R vs [t1, t2, t3, t4, t5]) : ∃ v1 v2 v3 v4 v5, vs = [v1, v2, v3, v4, v5] ∧ R v1 t1 ∧ R v2 t2 ∧ R v3 t3 ∧ R v4 t4 ∧ R v5 t5 := by
  obtain ⟨a, us, rfl, h1, h⟩ := pinc h
  obtain ⟨b, c, d, e, rfl, h2, h3, h4, h5⟩ := pin4 h
  exact ⟨_, _, _, _, _, rfl, h1, h2, h3, h4, h5⟩
end
section
variable {α : Type}
theorem at2 {i : Nat} {v a b : α} (h : [a, b][i]? = some v) : v = a ∨ v = b := by
  have := List.mem_of_getElem? h
  simpa only [List.mem_cons, List.not_mem_nil, or_false] using this
theorem at3 {i : Nat} {v a b c : α} (h : [a, b, c][i]? = some v) : v = a ∨ v = b ∨ v = c := by
  have := List.mem_of_getElem? h
  simpa only [List.mem_cons, List.not_mem_nil, or_false] using this
end
/-! ### what is a step, by the program -/
def itD : Itm → PyData
  | .str s => .str s
  | .int n => .int n
  | .pair a b => .tuple [.int a, .int b]
  | .sheet x => encS x
theorem ItAt.dp {K : PySem.W.Frag} {H : Hp} {v : V} {t : Itm} (h : ItAt H v t) : Dp K H v (itD t) := by
  cases t with
  | str s =>
    obtain ⟨rfl, _⟩ := h
    exact .str _
  | int n =>
    cases (show v = .int n from h)
    exact .int _
  | pair a b =>
    obtain ⟨p, rfl, h⟩ := h
    exact .tup (SqT.of h) (.cons (.int _) (.cons (.int _) .nil))
  | sheet x =>
    obtain ⟨p, rfl, u, v, h1, h2, h3⟩ := h
    exact .tup (SqT.of h1) (.cons (.tup (SqT.of h2) (.cons (.int _) (.cons (.int _) .nil))) (.cons (.tup (SqT.of h3) (.cons (.int _) (.cons (.int _) .nil))) .nil))
theorem itD_plain (t : Itm) : (itD t).plain = true := by
  cases t <;> simp [itD, encS, PyData.plain, PyData.plainAll]
/-- x in a tuple of texts, x of any kind -/
def rInTD (K : PySem.W.Frag) : R2 := fun x y H Q => ∃ (d : PyData) (ss : List Str), Dp K H x d ∧ Dp K H y (.tuple (ss.map .str)) ∧ d.plain = true ∧ Q (.bl ((ss.map PyData.str).any fun z => PyData.eqv z d)) H
theorem strs_plain : ∀ ss : List Str, PyData.plainAll (ss.map .str) = true ∧ PyData.depthAll (ss.map .str) = 0
  | [] => ⟨by simp [PyData.plainAll], by simp [PyData.depthAll]⟩
  | s :: ss => by
    obtain ⟨h1, h2⟩ := strs_plain ss
    exact ⟨by simp [PyData.plainAll, PyData.plain, h1], by simp [PyData.depthAll, PyData.depth, h2]⟩
theorem op_inTD {X : Cx} (hu : X.A.units + 64 < cLine) : OpR X (compareOp .In) (rInTD X.K) := by
  intro pins s σ H x y v u Q I rx ry h
  obtain ⟨d, ss, hd, hy, pl, q⟩ := h
  obtain ⟨as, r1⟩ := Dp.reads I d x v hd rx
  obtain ⟨bs, r2⟩ := Dp.reads I _ y u hy ry
  obtain ⟨p1, p2⟩ := strs_plain ss
  refine SeqAt.in_tuple_data r2 r1 p1 pl ?_ ⟨.bl _, H, I, rfl, q⟩
  rw [p2, Nat.zero_min]
  omega
theorem in_sides (t : Itm) : ((["across", "along"] : List Str).map PyData.str).any (fun z => PyData.eqv z (itD t)) = sideB t := by
  cases t with
  | str s =>
    have e : ∀ c : Str, PyData.eqv (.str c) (.str s) = decide (s = c) := fun c => by
      by_cases z : s = c
      · subst z
        rw [decide_eq_true rfl]
        simp only [PyData.eqv]
        simp
      · rw [decide_eq_false z]
        simp only [PyData.eqv]
        simpa using fun q => z q.symm
    show (PyData.eqv (.str "across") (.str s) || (PyData.eqv (.str "along") (.str s) || false)) = decide (s = "across" ∨ s = "along")
    rw [e, e, Bool.or_false, Bool.decide_or]
  | int n => simp [itD, sideB, PyData.eqv]
  | pair a b => simp [itD, sideB, PyData.eqv]
  | sheet x => simp [itD, encS, sideB, PyData.eqv]
section
variable {base : Heap} {K : PySem.W.Frag} {mg : Str → Option Value} {P : Program} {w : World}
def spItm (f : Itm → Bool) : Sp := fun vs H Q _ => ∃ (v : V) (t : Itm), vs = [v] ∧ ItAt H v t ∧ Q (.bl (f t)) H
theorem ok_is_pair (T : Txt K mg) : FnOk P w K mg base CX0 1 T.f_is_pair T.d_is_pair ["item"] (spItm pairB) := by
  refine T.F_is_pair.ok sc_is_pair (fun vs H Q E h => ?_) (fun cdv A outer s H vs Q E hr h => ?_)
  · obtain ⟨v, t, rfl, _⟩ := h
    rfl
  · obtain ⟨v, t, rfl, h, q⟩ := h
    refine ⟨_, (pss_one (ps_ret (pe_and (pe_callB call_isi (by rfl) T.n_isinstance (by decide +kernel) (pa_cons (pv 0) (pa_cons (pe_bltn (v := .ty "tuple") (by rfl) T.n_tuple (by decide +kernel) rfl) pa_nil))) (pe_and (pe_cmpR op_eq (pe_callB call_len_seq (by rfl) T.n_len (by decide +kernel) (pa_cons (pv 0) pa_nil)) pe_int (nomark _)) (pe_and (pe_callB call_isi (by rfl) T.n_isinstance (by decide +kernel) (pa_cons (pe_ix ix_tup (pv 0) pe_int (fun _ _ => rfl)) (pa_cons (pe_bltn (v := .ty "int") (by rfl) T.n_int (by decide +kernel) rfl) pa_nil))) (pe_one (pe_callB call_isi (by rfl) T.n_isinstance (by decide +kernel) (pa_cons (pe_ix ix_tup (pv 0) pe_int (fun _ _ => rfl)) (pa_cons (pe_bltn (v := .ty "int") (by rfl) T.n_int (by decide +kernel) rfl) pa_nil))))))))), ?_⟩
    cases t with
    | str s =>
      obtain ⟨rfl, _⟩ := h
      exact use_isi (b := false) rfl (TyX.base (TyOf.str _)) (kit_ty (by decide +kernel)) ⟨false, rfl, iteF q⟩
    | int n =>
      cases (show v = .int n from h)
      exact use_isi (b := false) rfl (TyX.base (TyOf.int _)) (kit_ty (by decide +kernel)) ⟨false, rfl, iteF q⟩
    | pair a b =>
      obtain ⟨p, rfl, h⟩ := h
      refine use_isi (b := true) rfl (TyX.base (TyOf.tup h)) (kit_ty (by decide +kernel)) ⟨true, rfl, iteT ?_⟩
      refine ⟨_, rfl, p, _, rfl, .inr (SqT.of h), rfl, true, rfl, iteT ?_⟩
      refine use_ix rfl h (atI_nat (j := 0) rfl) ⟨.int a, .ty "int", _, _, true, rfl, ClsV.ty _, TyX.base (TyOf.int _), kit_ty (by decide +kernel), true, rfl, iteT ?_⟩
      exact use_ix rfl h (atI_nat (j := 1) rfl) ⟨.int b, .ty "int", _, _, true, rfl, ClsV.ty _, TyX.base (TyOf.int _), kit_ty (by decide +kernel), q⟩
    | sheet x =>
      obtain ⟨p, rfl, u, v, h, h2, h3⟩ := h
      refine use_isi (b := true) rfl (TyX.base (TyOf.tup h)) (kit_ty (by decide +kernel)) ⟨true, rfl, iteT ?_⟩
      refine ⟨_, rfl, p, _, rfl, .inr (SqT.of h), rfl, true, rfl, iteT ?_⟩
      exact use_ix rfl h (atI_nat (j := 0) rfl) ⟨.ref u, .ty "int", _, _, false, rfl, ClsV.ty _, TyX.base (TyOf.tup h2), kit_ty (by decide +kernel), false, rfl, iteF q⟩
theorem ok_is_two_pairs (T : Txt K mg) : FnOk P w K mg base CX0 2 T.f_is_two_pairs T.d_is_two_pairs ["item"] (spItm sheetB) := by
  refine T.F_is_two_pairs.ok sc_is_two_pairs (fun vs H Q E h => ?_) (fun cdv A outer s H vs Q E hr h => ?_)
  · obtain ⟨v, t, rfl, _⟩ := h
    rfl
  · obtain ⟨v, t, rfl, h, q⟩ := h
    refine ⟨_, (pss_one (ps_ret (pe_and (pe_callB call_isi (by rfl) T.n_isinstance (by decide +kernel) (pa_cons (pv 0) (pa_cons (pe_bltn (v := .ty "tuple") (by rfl) T.n_tuple (by decide +kernel) rfl) pa_nil))) (pe_and (pe_cmpR op_eq (pe_callB call_len_seq (by rfl) T.n_len (by decide +kernel) (pa_cons (pv 0) pa_nil)) pe_int (nomark _)) (pe_and (pe_call (ok_is_pair T) (hr.mono (by decide)) (by rfl) T.g_is_pair T.F_is_pair.kp T.b_is_pair .nil pass0 (pa_cons (pe_ix ix_tup (pv 0) pe_int (fun _ _ => rfl)) pa_nil)) (pe_one (pe_call (ok_is_pair T) (hr.mono (by decide)) (by rfl) T.g_is_pair T.F_is_pair.kp T.b_is_pair .nil pass0 (pa_cons (pe_ix ix_tup (pv 0) pe_int (fun _ _ => rfl)) pa_nil)))))))), ?_⟩
    cases t with
    | str s =>
      obtain ⟨rfl, _⟩ := h
      exact use_isi (b := false) rfl (TyX.base (TyOf.str _)) (kit_ty (by decide +kernel)) ⟨false, rfl, iteF q⟩
    | int n =>
      cases (show v = .int n from h)
      exact use_isi (b := false) rfl (TyX.base (TyOf.int _)) (kit_ty (by decide +kernel)) ⟨false, rfl, iteF q⟩
    | pair a b =>
      obtain ⟨p, rfl, h⟩ := h
      refine use_isi (b := true) rfl (TyX.base (TyOf.tup h)) (kit_ty (by decide +kernel)) ⟨true, rfl, iteT ?_⟩
      refine ⟨_, rfl, p, _, rfl, .inr (SqT.of h), rfl, true, rfl, iteT ?_⟩
      exact use_ix rfl h (atI_nat (j := 0) rfl) ⟨.int a, .int a, rfl, rfl, false, rfl, iteF q⟩
    | sheet x =>
      obtain ⟨p, rfl, u, v, h, h2, h3⟩ := h
      refine use_isi (b := true) rfl (TyX.base (TyOf.tup h)) (kit_ty (by decide +kernel)) ⟨true, rfl, iteT ?_⟩
      refine ⟨_, rfl, p, _, rfl, .inr (SqT.of h), rfl, true, rfl, iteT ?_⟩
      refine use_ix rfl h (atI_nat (j := 0) rfl) ⟨.ref u, .pair x.1 x.2.1, rfl, ⟨u, rfl, h2⟩, true, rfl, iteT ?_⟩
      exact use_ix rfl h (atI_nat (j := 1) rfl) ⟨.ref v, .pair x.2.2.1 x.2.2.2, rfl, ⟨v, rfl, h3⟩, q⟩
def fitB (k : Str) (t : Itm) : Bool := if k = "sheet" then sheetB t else if k = "side" then sideB t else if k = "pair" then pairB t else leastB (if k = "pieces" then 2 else 1) t
def spFits : Sp := fun vs H Q _ => ∃ (v : V) (t : Itm) (k : Str), vs = [v, .str k] ∧ ItAt H v t ∧ Q (.bl (fitB k t)) H
theorem ok_fits (T : Txt K mg) : FnOk P w K mg base CX0 3 T.f_fits T.d_fits ["item", "kind"] spFits := by
  refine T.F_fits.ok sc_fits (fun vs H Q E h => ?_) (fun cdv A outer s H vs Q E hr h => ?_)
  · obtain ⟨v, t, k, rfl, _⟩ := h
    rfl
  · obtain ⟨v, t, k, rfl, h, q⟩ := h
    refine ⟨_, (pss_cons (ps_if (pt_cmpR op_eq (pv 1) pe_str (nomark _)) (pss_one (ps_ret (pe_call (ok_is_two_pairs T) (hr.mono (by decide)) (by rfl) T.g_is_two_pairs T.F_is_two_pairs.kp T.b_is_two_pairs .nil pass0 (pa_cons (pv 0) pa_nil)))) pss_nil)
      (pss_cons (ps_if (pt_cmpR op_eq (pv 1) pe_str (nomark _)) (pss_one (ps_ret (pe_cmpR (op_inTD hr.units) (pv 0) (ClX.pe_cval (pe_glob (v := .ref T.C_Heap) (by rfl) T.g_Heap rfl)) (by rfl)))) pss_nil)
      (pss_cons (ps_if (pt_cmpR op_eq (pv 1) pe_str (nomark _)) (pss_one (ps_ret (pe_call (ok_is_pair T) (hr.mono (by decide)) (by rfl) T.g_is_pair T.F_is_pair.kp T.b_is_pair .nil pass0 (pa_cons (pv 0) pa_nil)))) pss_nil)
      (pss_cons (ps_set (i := 2) sc_fits.nd rfl (Or.inl rfl) (pe_ifExp (pt_cmpR op_eq (pv 1) pe_str (nomark _)) pe_int pe_int))
      (pss_one (ps_ret (pe_and (pe_callB call_isi (by rfl) T.n_isinstance (by decide +kernel) (pa_cons (pv 0) (pa_cons (pe_bltn (v := .ty "int") (by rfl) T.n_int (by decide +kernel) rfl) pa_nil))) (pe_one (pe_cmpR op_ge (pv 0) (pv 2) (nomark _)))))))))), ?_⟩
    have kd : ∀ c : Str, decide (V.str k = V.str c) = decide (k = c) := fun c => by
      by_cases z : k = c
      · rw [z, decide_eq_true rfl, decide_eq_true rfl]
      · rw [decide_eq_false fun e => z (V.str.inj e), decide_eq_false z]
    unfold fitB at q
    refine ⟨_, rfl, rfl, _, rfl, ?_⟩
    rw [kd]
    by_cases k1 : k = "sheet"
    · rw [decide_eq_true k1]
      rw [if_pos k1] at q
      exact iteT ⟨_, rfl, v, t, rfl, h, q⟩
    rw [decide_eq_false k1]
    rw [if_neg k1] at q
    refine iteF ⟨_, rfl, rfl, _, rfl, ?_⟩
    rw [kd]
    by_cases k2 : k = "side"
    · rw [decide_eq_true k2]
      rw [if_pos k2] at q
      refine iteT ⟨_, rfl, T.C_Heap, .type "type", .ref T.s_SIDES, .ref T.s_SIDES, rfl, T.cr_Heap, T.cv_SIDES, itD t, ["across", "along"], h.dp, .tup (T.sq_SIDES _) (.cons (.str _) (.cons (.str _) .nil)), itD_plain t, ?_⟩
      rw [in_sides]
      exact q
    rw [decide_eq_false k2]
    rw [if_neg k2] at q
    refine iteF ⟨_, rfl, rfl, _, rfl, ?_⟩
    rw [kd]
    by_cases k3 : k = "pair"
    · rw [decide_eq_true k3]
      rw [if_pos k3] at q
      exact iteT ⟨_, rfl, v, t, rfl, h, q⟩
    rw [decide_eq_false k3]
    rw [if_neg k3] at q
    refine iteF ?_
    have rest : ∀ n : Int, Q (.bl (leastB n t)) H → tAndV (tCB (rIsi K) (tCons (tVar 0) (tCons (tC (.ty "int")) tNil))) (tOp (rI0 fun i j => V.bl (decide (j ≤ i))) (tVar 0) (tVar 2)) [some v, some (.str k), some (.int n)] H Q := by
      intro n q
      cases t with
      | str s =>
        obtain ⟨rfl, _⟩ := h
        exact use_isi (b := false) rfl (TyX.base (TyOf.str _)) (kit_ty (by decide +kernel)) ⟨false, rfl, iteF q⟩
      | int m =>
        cases (show v = .int m from h)
        exact use_isi (b := true) rfl (TyX.base (TyOf.int _)) (kit_ty (by decide +kernel)) ⟨true, rfl, iteT ⟨_, rfl, _, rfl, m, n, rfl, rfl, q⟩⟩
      | pair a b =>
        obtain ⟨p, rfl, h⟩ := h
        exact use_isi (b := false) rfl (TyX.base (TyOf.tup h)) (kit_ty (by decide +kernel)) ⟨false, rfl, iteF q⟩
      | sheet x =>
        obtain ⟨p, rfl, u, v, h, _⟩ := h
        exact use_isi (b := false) rfl (TyX.base (TyOf.tup h)) (kit_ty (by decide +kernel)) ⟨false, rfl, iteF q⟩
    refine ⟨_, rfl, rfl, _, rfl, ?_⟩
    rw [kd]
    by_cases k4 : k = "pieces"
    · rw [decide_eq_true k4]
      rw [if_pos k4] at q
      exact iteT (rest 2 q)
    · rw [decide_eq_false k4]
      rw [if_neg k4] at q
      exact iteF (rest 1 q)
theorem dV' {x y : Int} : decide (V.int x = V.int y) = decide (x = y) := by
  by_cases h : x = y
  · rw [decide_eq_true h, h, decide_eq_true rfl]
  · rw [decide_eq_false h, decide_eq_false fun z => h (V.int.inj z)]
structure Shps (K : PySem.W.Frag) (w : World) (d : Addr) : Prop where
  ex : ∃ es n, KDict K w d es n
/-- a comprehension over two tuples of one length -/
theorem lc_zipT {K : PySem.W.Frag} {a b : Addr} {xs ys : List V} {g : TG} {tt : TT} {te : TE} {vs : List Nat} {σ : L2.St} {H1 : Hp} {D : Addr} {Qd : Hp → Prop} (hn : xs.length = ys.length) (Pv : Nat → Hp → Prop) (h0 : Pv 0 (upd H1 D (.lst []))) (hl : ∀ i G, Pv i G → SqT K G a xs ∧ SqT K G b ys)
    (turn : ∀ i x y G T, xs[i]? = some x → ys[i]? = some y → Pv i G → G T = none → g (.ref T) (wipe σ vs) (upd G T (.tup [x, y])) fun σ2 H2 => wipe σ2 vs = wipe σ vs ∧ tt σ2 H2 fun c H3 => if c = true then te σ2 H3 fun z H4 => ∃ acc, H4 D = some (.lst acc) ∧ acc.length < sizeLine ∧ Pv (i + 1) (upd H4 D (.lst (acc ++ [z]))) else Pv (i + 1) H3)
    (fin : ∀ G, Pv xs.length G → Qd G) : ∃ W : Nat → Nat → Hp → Prop, (∃ m, W 0 m (upd H1 D (.lst []))) ∧ ∀ i m G, W i m G → ((RZ.ItzT K a b).stop i G ∧ Qd G) ∨ ((RZ.ItzT K a b).go i G ∧ ∃ Nx : Hp → Prop, (∀ G', Nx G' → ∃ m', m' < m ∧ W (i + 1) m' G') ∧ ∀ x G', (RZ.ItzT K a b).yld i G x G' → g x (wipe σ vs) G' fun σ2 H2 => wipe σ2 vs = wipe σ vs ∧ tt σ2 H2 fun c H3 => if c = true then te σ2 H3 fun z H4 => ∃ acc, H4 D = some (.lst acc) ∧ acc.length < sizeLine ∧ Nx (upd H4 D (.lst (acc ++ [z]))) else Nx H3) := by
  refine ⟨fun i m G => i + m = xs.length ∧ Pv i G, ⟨xs.length, Nat.zero_add _, h0⟩, ?_⟩
  rintro i m G ⟨hm, pv⟩
  obtain ⟨s1, s2⟩ := hl i G pv
  cases m with
  | zero =>
    obtain rfl : i = xs.length := hm
    exact .inl ⟨⟨xs, ys, s1, s2, .inl (Nat.le_refl _)⟩, fin G pv⟩
  | succ m =>
    have lt : i < xs.length := by omega
    have lt2 : i < ys.length := by omega
    refine .inr ⟨⟨xs, ys, xs[i], ys[i], s1, s2, List.getElem?_eq_getElem lt, List.getElem?_eq_getElem lt2⟩, Pv (i + 1), fun G' z => ⟨m, Nat.lt_succ_self m, by omega, z⟩, ?_⟩
    rintro x G' ⟨T, y, z, rfl, hT, rfl, a1, a2⟩
    exact turn i y z G T (a1 xs s1) (a2 ys s2) pv hT
/-- an item of a dict of the program's top -/
theorem pe_kdget {X : Cx} {d : Addr} {es : Array DictEntry} {n : Nat} {o i : Expr} {td ty : TE} {pos : Pos} (D : KDict X.K X.w d es n) (ho : PE X o td) (hi : PE X i ty) (hs : NoSl i) :
    PE X (.Subscript o i pos) (fun σ H Q => td σ H fun v H1 => ty σ H1 fun y H2 => ∃ (z : Str) (u0 : Value) (v0 : V), v = .ref d ∧ y = .str z ∧ PySem.W.nsIn X.K d z = some (some u0) ∧ RelV v0 u0 ∧ Q v0 H2) := by
  refine ⟨fun pins s σ H Q I q => ?_⟩
  refine subD_of PySem.F.slot_dict_getitem.lookup hs (thn (ho.run pins s σ H _ I q) fun u s1 ⟨v, H1, I1, rv, q1⟩ => thn (hi.run pins s1 σ H1 _ I1 q1) fun iv s2 ⟨y, H2, I2, ry, z, u0, v0, e1, e2, e3, e4, q2⟩ => ?_)
  subst e1
  cases rv
  exact ⟨⟨_, I2.kIn _ _ D.at_, rfl⟩, op_item_kd D pins s2 σ H2 (.ref d) y (.ref d) iv Q I2 rfl ry ⟨z, u0, v0, rfl, e2, e3, e4, q2⟩⟩
def shapeOf (s : Str) : Option (List Str) :=
  if s = "saw" then some ["sheet", "side", "pair", "copies"] else if s = "split" then some ["sheet", "side", "pieces", "copies"] else if s = "glue" then some ["sheet", "sheet", "side", "copies"]
  else if s = "stack" then some ["sheet", "side", "pieces", "copies"] else if s = "turn" then some ["sheet", "copies"] else none
def fitAll : List Itm → List Str → Bool
  | t :: ts, k :: ks => fitB k t && fitAll ts ks
  | _, _ => true
def shapeB : List Itm → Bool
  | .str s :: ts => match shapeOf s with
    | some ks => decide (ts.length = ks.length) && fitAll ts ks
    | none => false
  | _ => false
/-- what the table says of a word -/
theorem shape_at (T : Txt K mg) {s : Str} (h : s ∈ words) : (shapeOf s = none ∧ PySem.W.nsIn K T.u_SHAPES s = some none) ∨ ∃ ks p, shapeOf s = some ks ∧ PySem.W.nsIn K T.u_SHAPES s = some (some (.ref p)) ∧ ∀ H, SqT K H p (ks.map V.str) := by
  simp only [words, List.mem_cons, List.not_mem_nil, or_false] at h
  rcases h with rfl | rfl | rfl | rfl | rfl | rfl | rfl | rfl | rfl | rfl
  · exact .inr ⟨_, T.p_SHAPES_saw, rfl, T.h_SHAPES_saw, T.q_SHAPES_saw⟩
  · exact .inr ⟨_, T.p_SHAPES_split, rfl, T.h_SHAPES_split, T.q_SHAPES_split⟩
  · exact .inr ⟨_, T.p_SHAPES_glue, rfl, T.h_SHAPES_glue, T.q_SHAPES_glue⟩
  · exact .inr ⟨_, T.p_SHAPES_stack, rfl, T.h_SHAPES_stack, T.q_SHAPES_stack⟩
  · exact .inr ⟨_, T.p_SHAPES_turn, rfl, T.h_SHAPES_turn, T.q_SHAPES_turn⟩
  · exact .inl ⟨rfl, T.m0_SHAPES⟩
  · exact .inl ⟨rfl, T.m1_SHAPES⟩
  · exact .inl ⟨rfl, T.m2_SHAPES⟩
  · exact .inl ⟨rfl, T.m3_SHAPES⟩
  · exact .inl ⟨rfl, T.m4_SHAPES⟩
theorem fit_list : ∀ {ts : List Itm} {ks : List Str}, ts.length = ks.length → (List.zipWith (fun t k => fitB k t) ts ks).all id = fitAll ts ks
  | [], [], _ => rfl
  | t :: ts, k :: ks, h => by
    rw [List.zipWith_cons_cons, List.all_cons, fit_list (Nat.succ.inj h)]
    rfl
def spStep (f : List Itm → Bool) : Sp := fun vs H Q _ => ∃ (p : Addr) (ts : List Itm), vs = [.ref p] ∧ StepAt H p ts ∧ ts.length ≤ 10 ∧ ∀ H', Same H H' → Q (.bl (f ts)) H'
theorem ok_has_shape (T : Txt K mg) (D : Shps K w T.u_SHAPES) : FnOk P w K mg base CX0 4 T.f_has_shape T.d_has_shape ["step"] (spStep shapeB) := by
  obtain ⟨esD, nD, KD⟩ := D.ex
  refine T.F_has_shape.ok sc_has_shape (fun vs H Q E h => ?_) (fun cdv A outer s H vs Q E hr h => ?_)
  · obtain ⟨p, ts, rfl, _⟩ := h
    rfl
  · obtain ⟨p, ts, rfl, ⟨vs, hp, hts⟩, ln, q⟩ := h
    refine ⟨_, (pss_cons (ps_if (PW.pt (pw_or (pt_cmpR op_eq (pe_callB call_len_seq (by rfl) T.n_len (by decide +kernel) (pa_cons (pv 0) pa_nil)) pe_int (nomark _)) (pw_or (pt_not (pt_val (pe_callB call_isi (by rfl) T.n_isinstance (by decide +kernel) (pa_cons (pe_ix ix_tup (pv 0) pe_int (fun _ _ => rfl)) (pa_cons (pe_bltn (v := .ty "str") (by rfl) T.n_str (by decide +kernel) rfl) pa_nil))))) (pw_or1 (pt_cmpR (op_notIn_kd KD) (pe_ix ix_tup (pv 0) pe_int (fun _ _ => rfl)) (pe_glob (v := .ref T.u_SHAPES) (by rfl) T.g_SHAPES rfl) (by rfl)))))) (pss_one (ps_ret pe_bl)) pss_nil)
      (pss_cons (ps_set (i := 1) sc_has_shape.nd rfl (Or.inl rfl) (pe_kdget KD (pe_glob (v := .ref T.u_SHAPES) (by rfl) T.g_SHAPES rfl) (pe_ix ix_tup (pv 0) pe_int (fun _ _ => rfl)) (fun _ _ => rfl)))
      (pss_one (ps_ret (pe_and (pe_cmpR op_eq (pe_callB call_len_seq (by rfl) T.n_len (by decide +kernel) (pa_cons (pv 0) pa_nil)) (pe_op op_add (pe_callB call_len_seq (by rfl) T.n_len (by decide +kernel) (pa_cons (pv 1) pa_nil)) pe_int) (nomark _)) (pe_one (pe_callB (cr_all rfl) (by rfl) T.n_all (by decide +kernel) (pa_cons (pe_lc (own := [("item", 2), ("kind", 3)]) (g := (gTup K 2 (gCons (gName 2) (gCons (gName 3) gNil)))) (tt := tYes) (te := tCall spFits [] E0 (tCons (tVar 2) (tCons (tVar 3) tNil))) (by rfl) sc_has_shape.nd (RZ.pi_zipA (by rfl) T.n_zip (pa_cons (pe_slice sl_tupA (pv 0) (po_some pe_int) po_none) (pa_cons (pv 1) pa_nil))) (blkOk_by (own := [("item", 2), ("kind", 3)]) (N := ["step", "shape", "item", "kind"]) (sc := defScope s_has_shape) (by decide +kernel)) (fun _ _ _ _ _ => (pg_tup (by rfl) (pgs_cons (pg_name (i := 2) sc_has_shape.nd rfl (Or.inl rfl)) (pgs_cons (pg_name (i := 3) sc_has_shape.nd rfl (Or.inl rfl)) pgs_nil)))) (fun _ _ _ _ _ => pts_nil) (fun _ _ _ _ _ => (pe_call (ok_fits T) (hr.mono (by decide)) (by rfl) T.g_fits T.F_fits.kp T.b_fits .nil pass0 (pa_cons (pv 2) (pa_cons (pv 3) pa_nil))))) pa_nil)))))))), ?_⟩
    cases hts with
    | nil => exact ⟨_, rfl, p, _, rfl, .inr (SqT.of hp), rfl, true, rfl, iteT (q H (Same.refl _))⟩
    | @cons v t vs ts hv hts =>
      have hlen := Paired.length hts
      refine ⟨_, rfl, p, _, rfl, .inr (SqT.of hp), rfl, false, ?_, iteF ?_⟩
      · rw [dV', decide_eq_false (by rw [List.length_cons]; omega)]
      have no : (∀ s, t ≠ .str s) → shapeB (t :: ts) = false := fun z => by
        cases t with
        | str s => exact absurd rfl (z s)
        | _ => rfl
      cases t with
      | int n =>
        cases (show v = .int n from hv)
        exact use_ix rfl hp (atI_nat (j := 0) rfl) ⟨.int n, .ty "str", _, _, false, rfl, ClsV.ty _, TyX.base (TyOf.int _), kit_ty (by decide +kernel), false, rfl, iteT (q H (Same.refl _))⟩
      | pair a b =>
        obtain ⟨r, rfl, h⟩ := hv
        exact use_ix rfl hp (atI_nat (j := 0) rfl) ⟨.ref r, .ty "str", _, _, false, rfl, ClsV.ty _, TyX.base (TyOf.tup h), kit_ty (by decide +kernel), false, rfl, iteT (q H (Same.refl _))⟩
      | sheet x =>
        obtain ⟨r, rfl, u, u', h, _⟩ := hv
        exact use_ix rfl hp (atI_nat (j := 0) rfl) ⟨.ref r, .ty "str", _, _, false, rfl, ClsV.ty _, TyX.base (TyOf.tup h), kit_ty (by decide +kernel), false, rfl, iteT (q H (Same.refl _))⟩
      | str s =>
        obtain ⟨rfl, hw⟩ := hv
        refine use_ix rfl hp (atI_nat (j := 0) rfl) ⟨.str s, .ty "str", _, _, true, rfl, ClsV.ty _, TyX.base (TyOf.str _), kit_ty (by decide +kernel), true, rfl, iteF ?_⟩
        rcases shape_at T hw with ⟨sn, nn⟩ | ⟨ks, pk, sn, nn, sq⟩
        · refine use_ix rfl hp (atI_nat (j := 0) rfl) ⟨s, none, rfl, rfl, nn, true, rfl, iteT ?_⟩
          have z : shapeB (.str s :: ts) = false := by simp only [shapeB, sn]
          rw [z] at q
          exact q H (Same.refl _)
        · have sB : shapeB (.str s :: ts) = (decide (ts.length = ks.length) && fitAll ts ks) := by
            simp only [shapeB, sn]
          rw [sB] at q
          refine use_ix rfl hp (atI_nat (j := 0) rfl) ⟨s, some (.ref pk), rfl, rfl, nn, false, rfl, iteF ?_⟩
          refine use_ix rfl hp (atI_nat (j := 0) rfl) ⟨s, .ref pk, .ref pk, rfl, rfl, nn, rfl, ?_⟩
          refine ⟨_, rfl, p, _, rfl, .inr (SqT.of hp), _, rfl, pk, _, rfl, .inr (sq _), _, 1, rfl, rfl, rfl, ?_⟩
          have lk : (ks.map V.str).length = ks.length := List.length_map ..
          by_cases le : ts.length = ks.length
          · rw [decide_eq_true le, Bool.true_and] at q
            refine ⟨true, ?_, iteT ?_⟩
            · rw [dV', decide_eq_true (by rw [List.length_cons, lk, hlen]; omega)]
            have c1 : cutV (V.str s :: vs) (some 1) none = vs := by
              unfold cutV
              rw [HT.sIx_none, show (1 : Int) = ((1 : Nat) : Int) from rfl, HT.sIx_nat, List.length_cons, Nat.min_eq_left (by omega), List.drop_succ_cons, List.drop_zero, List.take_of_length_le (by omega)]
            refine ⟨_, rfl, 1, rfl, p, _, rfl, SqT.of hp, fun z => ?_, fun _ p2 n2 => ?_⟩
            · have := z.1
              rw [show (1 : Int) = ((1 : Nat) : Int) from rfl, HT.sIx_nat, List.length_cons] at this
              omega
            rw [c1]
            have e2 := same_new (o := .tup vs) n2
            refine ⟨_, rfl, p2, pk, vs, ks.map V.str, rfl, .inr ⟨SqT.of upd_same, sq _, fun L nL => ?_⟩⟩
            have e3 := same_new (o := .lst []) nL
            refine lc_zipT (K := K) (a := p2) (b := pk) (xs := vs) (ys := ks.map V.str) (by rw [lk, hlen, le]) (fun i G => Same (upd H p2 (.tup vs)) G ∧ G L = some (.lst (((List.zipWith (fun t k => fitB k t) ts ks).take i).map V.bl))) ⟨e3, upd_same⟩ (fun i G z => ⟨SqT.of (z.1 _ _ upd_same), sq _⟩) ?_ ?_
            · rintro i x y G T1 hx hy ⟨sG, hG⟩ nT
              obtain ⟨t, ht, rt⟩ := Paired.getL hts hx
              rw [List.getElem?_map] at hy
              cases hk : ks[i]? with
              | none =>
                rw [hk] at hy
                cases hy
              | some k =>
                rw [hk] at hy
                cases hy
                have eT := same_new (o := .tup [x, .str k]) nT
                have hi := (List.getElem?_eq_some_iff.mp hx).1
                refine ⟨T1, _, rfl, SqT.of upd_same, rfl, x, _, rfl, .str k, _, rfl, rfl, rfl, _, rfl, _, rfl, x, t, k, rfl, (rt.same (e2.trans (sG.trans eT))), _, eT _ _ hG, ?_, fun a o z => (upd_ne (ne_of_none z nL)).trans ((sG.trans eT) a o z), ?_⟩
                · rw [List.length_map, List.length_take]
                  rw [List.length_cons] at ln
                  exact small1000 (by omega)
                · rw [upd_same, List.take_add_one, List.getElem?_zipWith, ht, hk, List.map_append]
                  rfl
            · rintro G ⟨sG, hG⟩
              have hz : (List.zipWith (fun t k => fitB k t) ts ks).length = vs.length := by
                rw [List.length_zipWith, ← le, Nat.min_self, hlen]
              rw [← hz, List.take_length] at hG
              refine ⟨L, _, rfl, SqL.of hG, ?_⟩
              rw [fit_list le]
              exact q _ (e2.trans sG)
          · rw [decide_eq_false le, Bool.false_and] at q
            refine ⟨false, ?_, iteF (q H (Same.refl _))⟩
            rw [dV', decide_eq_false (by rw [List.length_cons, lk, hlen]; omega)]
end
/-! ### even splits and glues, is_step, check_steps -/
def sideOf (x : Sh) (s : Str) : Int × Int := if s = "across" then (x.1, x.2.1) else (x.2.2.1, x.2.2.2)
def turnS (x : Sh) : Sh := (x.2.2.1, x.2.2.2, x.1, x.2.1)
def evenB (x : Sh) (s : Str) (n : Int) : Bool := decide ((sideOf x s).1 % n = 0) && decide ((sideOf x s).2 % n = 0)
def glueB (x y : Sh) (s : Str) : Bool := decide (sideOf (turnS x) s = sideOf (turnS y) s)
def moreB : List Itm → Bool
  | [.str w, .sheet x, .str s, .int n, .int _] => if w = "split" then evenB x s n else true
  | [.str w, .sheet x, .sheet y, .str s, .int _] => if w = "glue" then glueB x y s else true
  | _ => true
def stepB (ts : List Itm) : Bool := shapeB ts && moreB ts
abbrev SideW (s : Str) : Prop := s = "across" ∨ s = "along"
theorem fit_sheet {t : Itm} (h : fitB "sheet" t = true) : ∃ x, t = .sheet x := by
  cases t <;> first | exact ⟨_, rfl⟩ | cases h
theorem fit_side {t : Itm} (h : fitB "side" t = true) : ∃ s, t = .str s ∧ SideW s := by
  cases t with
  | str s => exact ⟨s, rfl, of_decide_eq_true h⟩
  | _ => cases h
theorem fit_pair {t : Itm} (h : fitB "pair" t = true) : ∃ a b, t = .pair a b := by
  cases t <;> first | exact ⟨_, _, rfl⟩ | cases h
theorem fit_pieces {t : Itm} (h : fitB "pieces" t = true) : ∃ n, t = .int n ∧ 2 ≤ n := by
  cases t with
  | int n => exact ⟨n, rfl, of_decide_eq_true h⟩
  | _ => cases h
theorem fit_copies {t : Itm} (h : fitB "copies" t = true) : ∃ n, t = .int n ∧ 1 ≤ n := by
  cases t with
  | int n => exact ⟨n, rfl, of_decide_eq_true h⟩
  | _ => cases h
/-- what has a shape -/
inductive Shaped : List Itm → Prop
  | saw {x : Sh} {s : Str} {a b c : Int} (hs : SideW s) (hc : 1 ≤ c) : Shaped [.str "saw", .sheet x, .str s, .pair a b, .int c]
  | split {x : Sh} {s : Str} {n c : Int} (hs : SideW s) (hn : 2 ≤ n) (hc : 1 ≤ c) : Shaped [.str "split", .sheet x, .str s, .int n, .int c]
  | glue {x y : Sh} {s : Str} {c : Int} (hs : SideW s) (hc : 1 ≤ c) : Shaped [.str "glue", .sheet x, .sheet y, .str s, .int c]
  | stack {x : Sh} {s : Str} {n c : Int} (hs : SideW s) (hn : 2 ≤ n) (hc : 1 ≤ c) : Shaped [.str "stack", .sheet x, .str s, .int n, .int c]
  | turn {x : Sh} {c : Int} (hc : 1 ≤ c) : Shaped [.str "turn", .sheet x, .int c]
theorem fit4 {ts : List Itm} {k1 k2 k3 k4 : Str} (h : (decide (ts.length = 4) && fitAll ts [k1, k2, k3, k4]) = true) : ∃ t1 t2 t3 t4, ts = [t1, t2, t3, t4] ∧ fitB k1 t1 = true ∧ fitB k2 t2 = true ∧ fitB k3 t3 = true ∧ fitB k4 t4 = true := by
  rw [Bool.and_eq_true] at h
  obtain ⟨h1, h2⟩ := h
  have h1 := of_decide_eq_true h1
  obtain ⟨t1, t2, t3, t4, rfl⟩ := len4 h1
  simp only [fitAll, Bool.and_eq_true, Bool.and_true] at h2
  exact ⟨t1, t2, t3, t4, rfl, h2.1, h2.2.1, h2.2.2.1, h2.2.2.2⟩
theorem shape_str {ts : List Itm} (h : shapeB ts = true) : ∃ s us, ts = .str s :: us := by
  cases ts with
  | nil => cases h
  | cons t us => cases t with
    | str s => exact ⟨s, us, rfl⟩
    | _ => cases h
theorem shape_inv {ts : List Itm} (h : shapeB ts = true) : Shaped ts := by
  obtain ⟨s, ts, rfl⟩ := shape_str h
  by_cases s1 : s = "saw"
  · subst s1
    obtain ⟨t1, t2, t3, t4, rfl, f1, f2, f3, f4⟩ := fit4 (show (decide (ts.length = 4) && fitAll ts ["sheet", "side", "pair", "copies"]) = true from h)
    obtain ⟨x, rfl⟩ := fit_sheet f1
    obtain ⟨w, rfl, hw⟩ := fit_side f2
    obtain ⟨a, b, rfl⟩ := fit_pair f3
    obtain ⟨c, rfl, hc⟩ := fit_copies f4
    exact .saw hw hc
  by_cases s2 : s = "split"
  · subst s2
    obtain ⟨t1, t2, t3, t4, rfl, f1, f2, f3, f4⟩ := fit4 (show (decide (ts.length = 4) && fitAll ts ["sheet", "side", "pieces", "copies"]) = true from h)
    obtain ⟨x, rfl⟩ := fit_sheet f1
    obtain ⟨w, rfl, hw⟩ := fit_side f2
    obtain ⟨n, rfl, hn⟩ := fit_pieces f3
    obtain ⟨c, rfl, hc⟩ := fit_copies f4
    exact .split hw hn hc
  by_cases s3 : s = "glue"
  · subst s3
    obtain ⟨t1, t2, t3, t4, rfl, f1, f2, f3, f4⟩ := fit4 (show (decide (ts.length = 4) && fitAll ts ["sheet", "sheet", "side", "copies"]) = true from h)
    obtain ⟨x, rfl⟩ := fit_sheet f1
    obtain ⟨y, rfl⟩ := fit_sheet f2
    obtain ⟨w, rfl, hw⟩ := fit_side f3
    obtain ⟨c, rfl, hc⟩ := fit_copies f4
    exact .glue hw hc
  by_cases s4 : s = "stack"
  · subst s4
    obtain ⟨t1, t2, t3, t4, rfl, f1, f2, f3, f4⟩ := fit4 (show (decide (ts.length = 4) && fitAll ts ["sheet", "side", "pieces", "copies"]) = true from h)
    obtain ⟨x, rfl⟩ := fit_sheet f1
    obtain ⟨w, rfl, hw⟩ := fit_side f2
    obtain ⟨n, rfl, hn⟩ := fit_pieces f3
    obtain ⟨c, rfl, hc⟩ := fit_copies f4
    exact .stack hw hn hc
  by_cases s5 : s = "turn"
  · subst s5
    have h : (decide (ts.length = 2) && fitAll ts ["sheet", "copies"]) = true := h
    rw [Bool.and_eq_true] at h
    obtain ⟨h1, h2⟩ := h
    have h1 := of_decide_eq_true h1
    obtain ⟨t1, t2, rfl⟩ := len2 h1
    simp only [fitAll, Bool.and_eq_true, Bool.and_true] at h2
    obtain ⟨x, rfl⟩ := fit_sheet h2.1
    obtain ⟨c, rfl, hc⟩ := fit_copies h2.2
    exact .turn hc
  · exfalso
    have sn : shapeOf s = none := by
      unfold shapeOf
      rw [if_neg s1, if_neg s2, if_neg s3, if_neg s4, if_neg s5]
    simp only [shapeB, sn] at h
    cases h
section
variable {base : Heap} {K : PySem.W.Frag} {mg : Str → Option Value} {P : Program} {w : World}
def spTurned : Sp := fun vs H Q _ => ∃ (p : Addr) (x : Sh), vs = [.ref p] ∧ ShAt H p x ∧ ∀ q H', H q = none → Same H H' → ShAt H' q (turnS x) → Q (.ref q) H'
theorem ok_turned (T : Txt K mg) : FnOk P w K mg base CX0 1 T.f_turned T.d_turned ["sheet"] spTurned := by
  refine T.F_turned.ok sc_turned (fun vs H Q E h => ?_) (fun cdv A outer s H vs Q E hr h => ?_)
  · obtain ⟨p, x, rfl, _⟩ := h
    rfl
  · obtain ⟨p, x, rfl, ⟨u, v, h1, h2, h3⟩, q⟩ := h
    refine ⟨_, (pss_cons (ps_asg (pv 0) (pg_tup (by rfl) (pgs_cons (pg_name (i := 1) sc_turned.nd rfl (Or.inl rfl)) (pgs_cons (pg_name (i := 2) sc_turned.nd rfl (Or.inl rfl)) pgs_nil))))
      (pss_one (ps_ret (pe_tup (pa_cons (pv 2) (pa_cons (pv 1) pa_nil)))))), ?_⟩
    refine ⟨_, rfl, p, _, rfl, SqT.of h1, rfl, .ref u, _, rfl, .ref v, _, rfl, rfl, _, rfl, _, rfl, by show 2 ≤ sizeLine; decide, fun t ht => ?_⟩
    have e := same_new (o := .tup [.ref v, .ref u]) ht
    exact q t _ ht e ⟨v, u, upd_same, e _ _ h3, e _ _ h2⟩
def spSideOf : Sp := fun vs H Q _ => ∃ (p : Addr) (x : Sh) (s : Str), vs = [.ref p, .str s] ∧ ShAt H p x ∧ ∀ r, H r = some (.tup [.int (sideOf x s).1, .int (sideOf x s).2]) → Q (.ref r) H
theorem ok_side_of (T : Txt K mg) : FnOk P w K mg base CX0 1 T.f_side_of T.d_side_of ["sheet", "side"] spSideOf := by
  refine T.F_side_of.ok sc_side_of (fun vs H Q E h => ?_) (fun cdv A outer s H vs Q E hr h => ?_)
  · obtain ⟨p, x, s, rfl, _⟩ := h
    rfl
  · obtain ⟨p, x, sd, rfl, ⟨u, v, h1, h2, h3⟩, q⟩ := h
    refine ⟨_, (pss_cons (ps_asg (pv 0) (pg_tup (by rfl) (pgs_cons (pg_name (i := 2) sc_side_of.nd rfl (Or.inl rfl)) (pgs_cons (pg_name (i := 3) sc_side_of.nd rfl (Or.inl rfl)) pgs_nil))))
      (pss_one (ps_ret (pe_ifExp (pt_cmpR op_eq (pv 1) pe_str (nomark _)) (pv 2) (pv 3))))), ?_⟩
    unfold sideOf at q
    refine ⟨_, rfl, p, _, rfl, SqT.of h1, rfl, .ref u, _, rfl, .ref v, _, rfl, rfl, ?_⟩
    by_cases z : sd = "across"
    · rw [if_pos z] at q
      exact ⟨_, rfl, rfl, true, by rw [z, decide_eq_true rfl], iteT ⟨_, rfl, q u h2⟩⟩
    · rw [if_neg z] at q
      exact ⟨_, rfl, rfl, false, by rw [decide_eq_false fun e => z (V.str.inj e)], iteF ⟨_, rfl, q v h3⟩⟩
def spSplit : Sp := fun vs H Q _ => ∃ (p : Addr) (x : Sh) (s : Str) (n c : Int), vs = [.ref p] ∧ StepAt H p [.str "split", .sheet x, .str s, .int n, .int c] ∧ 2 ≤ n ∧ Q (.bl (evenB x s n)) H
theorem ok_is_even_split (T : Txt K mg) : FnOk P w K mg base CX0 2 T.f_is_even_split T.d_is_even_split ["step"] spSplit := by
  refine T.F_is_even_split.ok sc_is_even_split (fun vs H Q E h => ?_) (fun cdv A outer s H vs Q E hr h => ?_)
  · obtain ⟨p, x, s, n, c, rfl, _⟩ := h
    rfl
  · obtain ⟨p, x, sd, n, c, rfl, ⟨vs, hp, hts⟩, hn, q⟩ := h
    refine ⟨_, (pss_cons (ps_asg (pv 0) (pg_tup (by rfl) (pgs_cons (pg_name (i := 1) sc_is_even_split.nd rfl (Or.inl rfl)) (pgs_cons (pg_name (i := 2) sc_is_even_split.nd rfl (Or.inl rfl)) (pgs_cons (pg_name (i := 3) sc_is_even_split.nd rfl (Or.inl rfl)) (pgs_cons (pg_name (i := 4) sc_is_even_split.nd rfl (Or.inl rfl)) (pgs_cons (pg_name (i := 5) sc_is_even_split.nd rfl (Or.inl rfl)) pgs_nil)))))))
      (pss_cons (ps_asg (pe_call (ok_side_of T) (hr.mono (by decide)) (by rfl) T.g_side_of T.F_side_of.kp T.b_side_of .nil pass0 (pa_cons (pv 2) (pa_cons (pv 3) pa_nil))) (pg_tup (by rfl) (pgs_cons (pg_name (i := 6) sc_is_even_split.nd rfl (Or.inl rfl)) (pgs_cons (pg_name (i := 7) sc_is_even_split.nd rfl (Or.inl rfl)) pgs_nil))))
      (pss_one (ps_ret (pe_and (pe_cmpR op_eq (pe_op op_mod (pv 6) (pv 4)) pe_int (nomark _)) (pe_one (pe_cmpR op_eq (pe_op op_mod (pv 7) (pv 4)) pe_int (nomark _)))))))), ?_⟩
    obtain ⟨v0, v1, v2, v3, v4, rfl, ⟨e0, _⟩, ⟨px, e1, hx⟩, ⟨e2, _⟩, h3, h4⟩ := pin5 hts
    subst e0 e1 e2
    cases (show v3 = .int n from h3)
    cases (show v4 = .int c from h4)
    refine ⟨_, rfl, p, _, rfl, SqT.of hp, rfl, .str "split", _, rfl, .ref px, _, rfl, .str sd, _, rfl, .int n, _, rfl, .int c, _, rfl, rfl, ?_⟩
    refine ⟨_, rfl, _, rfl, px, x, sd, rfl, hx, fun r hr' => ⟨r, _, rfl, SqT.of hr', rfl, .int _, _, rfl, .int _, _, rfl, rfl, ?_⟩⟩
    unfold evenB at q
    refine ⟨_, rfl, _, rfl, _, n, rfl, rfl, (show 0 < n by omega), rfl, _, rfl, ?_⟩
    rw [dV']
    cases z : decide ((sideOf x sd).1 % n = 0) with
    | false =>
      rw [z, Bool.false_and] at q
      exact iteF q
    | true =>
      rw [z, Bool.true_and] at q
      refine iteT ⟨_, rfl, _, rfl, _, n, rfl, rfl, (show 0 < n by omega), rfl, ?_⟩
      rw [dV']
      exact q
def spGlue : Sp := fun vs H Q _ => ∃ (p : Addr) (x y : Sh) (s : Str) (c : Int), vs = [.ref p] ∧ StepAt H p [.str "glue", .sheet x, .sheet y, .str s, .int c] ∧ ∀ H', Same H H' → Q (.bl (glueB x y s)) H'
theorem pair_eqv (a b c e : Int) : PyData.eqv (.tuple [.int a, .int b]) (.tuple [.int c, .int e]) = decide ((a, b) = (c, e)) := by
  rw [Bool.eq_iff_iff, decide_eq_true_iff]
  simp [PyData.eqv, PyData.eqvAll]
theorem ok_is_even_glue (T : Txt K mg) : FnOk P w K mg base CX0 2 T.f_is_even_glue T.d_is_even_glue ["step"] spGlue := by
  refine T.F_is_even_glue.ok sc_is_even_glue (fun vs H Q E h => ?_) (fun cdv A outer s H vs Q E hr h => ?_)
  · obtain ⟨p, x, y, s, c, rfl, _⟩ := h
    rfl
  · obtain ⟨p, x, y, sd, c, rfl, ⟨vs, hp, hts⟩, q⟩ := h
    refine ⟨_, (pss_cons (ps_asg (pv 0) (pg_tup (by rfl) (pgs_cons (pg_name (i := 1) sc_is_even_glue.nd rfl (Or.inl rfl)) (pgs_cons (pg_name (i := 2) sc_is_even_glue.nd rfl (Or.inl rfl)) (pgs_cons (pg_name (i := 3) sc_is_even_glue.nd rfl (Or.inl rfl)) (pgs_cons (pg_name (i := 4) sc_is_even_glue.nd rfl (Or.inl rfl)) (pgs_cons (pg_name (i := 5) sc_is_even_glue.nd rfl (Or.inl rfl)) pgs_nil)))))))
      (pss_one (ps_ret (pe_cmpR (op_eqD hr.units) (pe_call (ok_side_of T) (hr.mono (by decide)) (by rfl) T.g_side_of T.F_side_of.kp T.b_side_of .nil pass0 (pa_cons (pe_call (ok_turned T) (hr.mono (by decide)) (by rfl) T.g_turned T.F_turned.kp T.b_turned .nil pass0 (pa_cons (pv 2) pa_nil)) (pa_cons (pv 4) pa_nil))) (pe_call (ok_side_of T) (hr.mono (by decide)) (by rfl) T.g_side_of T.F_side_of.kp T.b_side_of .nil pass0 (pa_cons (pe_call (ok_turned T) (hr.mono (by decide)) (by rfl) T.g_turned T.F_turned.kp T.b_turned .nil pass0 (pa_cons (pv 3) pa_nil)) (pa_cons (pv 4) pa_nil))) (nomark _))))), ?_⟩
    obtain ⟨v0, v1, v2, v3, v4, rfl, ⟨e0, _⟩, ⟨px, e1, hx⟩, ⟨py, e2, hy⟩, ⟨e3, _⟩, h4⟩ := pin5 hts
    subst e0 e1 e2 e3
    cases (show v4 = .int c from h4)
    refine ⟨_, rfl, p, _, rfl, SqT.of hp, rfl, .str "glue", _, rfl, .ref px, _, rfl, .ref py, _, rfl, .str sd, _, rfl, .int c, _, rfl, rfl, ?_⟩
    refine ⟨_, rfl, px, x, rfl, hx, fun q1 H1 n1 s1 hq1 => ⟨_, rfl, q1, _, sd, rfl, hq1, fun r1 hr1 => ⟨_, rfl, py, y, rfl, hy.same s1, fun q2 H2 n2 s2 hq2 => ⟨_, rfl, q2, _, sd, rfl, hq2, fun r2 hr2 => ?_⟩⟩⟩⟩
    refine ⟨_, _, dpair (s2 _ _ hr1), dpair hr2, rfl, rfl, ?_⟩
    rw [pair_eqv]
    exact q _ (s1.trans s2)
theorem ok_is_step (T : Txt K mg) (D : Shps K w T.u_SHAPES) : FnOk P w K mg base CX0 5 T.f_is_step T.d_is_step ["step"] (spStep stepB) := by
  refine T.F_is_step.ok sc_is_step (fun vs H Q E h => ?_) (fun cdv A outer s H vs Q E hr h => ?_)
  · obtain ⟨p, ts, rfl, _⟩ := h
    rfl
  · obtain ⟨p, ts, rfl, hS, ln, q⟩ := h
    refine ⟨_, (pss_cons (ps_if (pt_not (pt_val (pe_call (ok_has_shape T D) (hr.mono (by decide)) (by rfl) T.g_has_shape T.F_has_shape.kp T.b_has_shape .nil pass0 (pa_cons (pv 0) pa_nil)))) (pss_one (ps_ret pe_bl)) pss_nil)
      (pss_cons (ps_if (pt_cmpR op_eq (pe_ix ix_tup (pv 0) pe_int (fun _ _ => rfl)) pe_str (nomark _)) (pss_one (ps_ret (pe_call (ok_is_even_split T) (hr.mono (by decide)) (by rfl) T.g_is_even_split T.F_is_even_split.kp T.b_is_even_split .nil pass0 (pa_cons (pv 0) pa_nil)))) pss_nil)
      (pss_cons (ps_if (pt_cmpR op_eq (pe_ix ix_tup (pv 0) pe_int (fun _ _ => rfl)) pe_str (nomark _)) (pss_one (ps_ret (pe_call (ok_is_even_glue T) (hr.mono (by decide)) (by rfl) T.g_is_even_glue T.F_is_even_glue.kp T.b_is_even_glue .nil pass0 (pa_cons (pv 0) pa_nil)))) pss_nil)
      (pss_one (ps_ret pe_bl))))), ?_⟩
    refine ⟨_, rfl, p, ts, rfl, hS, ln, fun H1 s1 => ⟨_, rfl, ?_⟩⟩
    unfold stepB at q
    cases z : shapeB ts with
    | false =>
      rw [z, Bool.false_and] at q
      exact iteT (q _ s1)
    | true =>
      rw [z, Bool.true_and] at q
      refine iteF ?_
      have hS1 := hS.same s1
      obtain ⟨vs, hp, hts⟩ := id hS1
      have at0 : ∀ {wd : Str} {r : List Itm}, ts = .str wd :: r → ∃ vs', vs = .str wd :: vs' := by
        rintro wd r rfl
        obtain ⟨v, vs', rfl, ⟨e, _⟩⟩ := pinh hts
        exact ⟨vs', by rw [e]⟩
      cases shape_inv z with
      | saw hs hc =>
        obtain ⟨vs', rfl⟩ := at0 rfl
        exact use_ix rfl hp (atI_nat (j := 0) rfl) ⟨rfl, false, by decide +kernel, iteF (use_ix rfl hp (atI_nat (j := 0) rfl) ⟨rfl, false, by decide +kernel, iteF (q _ s1)⟩)⟩
      | @split x sd n c hs hn hc =>
        obtain ⟨vs', rfl⟩ := at0 rfl
        exact use_ix rfl hp (atI_nat (j := 0) rfl) ⟨rfl, true, by decide +kernel, iteT ⟨_, rfl, p, x, sd, n, c, rfl, hS1, hn, q _ s1⟩⟩
      | @glue x y sd c hs hc =>
        obtain ⟨vs', rfl⟩ := at0 rfl
        exact use_ix rfl hp (atI_nat (j := 0) rfl) ⟨rfl, false, by decide +kernel, iteF (use_ix rfl hp (atI_nat (j := 0) rfl) ⟨rfl, true, by decide +kernel, iteT ⟨_, rfl, p, x, y, sd, c, rfl, hS1, fun H2 s2 => q _ (s1.trans s2)⟩⟩)⟩
      | stack hs hn hc =>
        obtain ⟨vs', rfl⟩ := at0 rfl
        exact use_ix rfl hp (atI_nat (j := 0) rfl) ⟨rfl, false, by decide +kernel, iteF (use_ix rfl hp (atI_nat (j := 0) rfl) ⟨rfl, false, by decide +kernel, iteF (q _ s1)⟩)⟩
      | turn hc =>
        obtain ⟨vs', rfl⟩ := at0 rfl
        exact use_ix rfl hp (atI_nat (j := 0) rfl) ⟨rfl, false, by decide +kernel, iteF (use_ix rfl hp (atI_nat (j := 0) rfl) ⟨rfl, false, by decide +kernel, iteF (q _ s1)⟩)⟩
end
/-- steps, in a list -/
inductive HandedS (K : PySem.W.Frag) (H : Hp) : V → List (List Itm) → Prop
  | list {l : Addr} {as : List Addr} {ss : List (List Itm)} (hl : SqL K H l (as.map V.ref)) (hr : Paired (StepAt H) as ss) : HandedS K H (.ref l) ss
def badStep (i : Nat) : List (Str × V) := [("at", .int (i : Int)), ("word", .str "BadStep")]
def FirstOdd (ss : List (List Itm)) (i : Nat) : Prop := (∃ t, ss[i]? = some t ∧ stepB t = false) ∧ ∀ j t, j < i → ss[j]? = some t → stepB t = true
section
variable {base : Heap} {K : PySem.W.Frag} {mg : Str → Option Value} {w : World}
theorem step_row {H : Hp} {as : List Addr} {ss : List (List Itm)} (h : Paired (StepAt H) as ss) {i : Nat} {v : V} (hv : (as.map V.ref)[i]? = some v) : ∃ a t, v = .ref a ∧ ss[i]? = some t ∧ StepAt H a t := by
  rw [List.getElem?_map] at hv
  cases ha : as[i]? with
  | none =>
    rw [ha] at hv
    cases hv
  | some a =>
    rw [ha] at hv
    obtain ⟨t, ht, z⟩ := Paired.getL h ha
    exact ⟨a, t, (Option.some.inj hv).symm, ht, z⟩
def spCkSteps (T : Txt K mg) : Sp := fun vs H Q E => ∃ (r : V) (ss : List (List Itm)), vs = [r] ∧ HandedS K H r ss ∧ (∀ t ∈ ss, t.length ≤ 10) ∧ ((∀ t ∈ ss, stepB t = true) → ∀ H', Same H H' → Q .non H') ∧ (∀ i, FirstOdd ss i → Throws T.e_BadStep.C (badStep i) H E)
theorem ok_check_steps (T : Txt K mg) (D : Shps K w T.u_SHAPES) : FnOk PySem.Challenge.pw_grainyard_k21_reverse_steps w K mg base (L2.CX PySem.Challenge.pw_grainyard_k21_reverse_steps w) 6 T.f_check_steps T.d_check_steps ["steps"] (spCkSteps T) := by
  refine T.F_check_steps.okX sc_check_steps (fun vs H Q E h => ?_) (fun cdv A outer s H vs Q E hr h => ?_)
  · obtain ⟨r, ss, rfl, _⟩ := h
    rfl
  · obtain ⟨r, ss, rfl, hh, ln, q1, q2⟩ := h
    refine ⟨_, (pss_one (ps_for (passes_of rfl) rfl (PI.or (pi_enum (by rfl) T.n_enumerate (pa_cons (pv 0) pa_nil)) (pi_enumT (by rfl) T.n_enumerate (pa_cons (pv 0) pa_nil))) (pg_tup (by rfl) (pgs_cons (pg_name (i := 1) sc_check_steps.nd rfl (Or.inl rfl)) (pgs_cons (pg_name (i := 2) sc_check_steps.nd rfl (Or.inl rfl)) pgs_nil))) (pss_one (ps_if (pt_not (pt_val (pe_call (ok_is_step T D) (hr.mono (by decide)) (by rfl) T.g_is_step T.F_is_step.kp T.b_is_step .nil pass0 (pa_cons (pv 2) pa_nil)))) (pss_one (ps_raise rfl (takes_of rfl rfl rfl rfl) (pmk_oex (oex_of T.e_BadStep) T.e_BadStep.iC T.e_BadStep.tI (ini_BadStep T) (hr.mono (by decide)) (bi_BadStep T) .nil pass0 (by rfl) T.e_BadStep.g (pa_cons (pv 1) pa_nil)))) pss_nil)))), ?_⟩
    have all : (∀ j t, j < ss.length → ss[j]? = some t → stepB t = true) → ∀ t ∈ ss, stepB t = true := by
      intro g t ht
      obtain ⟨j, hj⟩ := List.mem_iff_getElem?.mp ht
      exact g j t (List.getElem?_eq_some_iff.mp hj).1 hj
    cases hh with
    | @list l as _ hl hr' =>
      refine .inl ⟨_, rfl, l, _, rfl, hl, for_enumL (K := K) (a := l) (xs := as.map V.ref) (fun i σ H' => ∃ y1 y2, σ = [some (.ref l), y1, y2] ∧ Same H H' ∧ ∀ j t, j < i → ss[j]? = some t → stepB t = true) ⟨_, _, rfl, Same.refl _, fun j f hj => absurd hj (Nat.not_lt_zero _)⟩ ?_ ?_ ?_⟩
      · rintro i τ G hi ⟨_, _, _, s, _⟩
        exact Same.seq s hl
      · rintro i x τ G T1 hx ⟨y1, y2, rfl, s, good⟩ hT
        obtain ⟨a, t, rfl, ht, hs⟩ := step_row hr' hx
        have s1 := s.trans (same_new (o := .tup [.int (i : Nat), .ref a]) hT)
        refine ⟨T1, _, rfl, SqT.of upd_same, rfl, .int i, _, rfl, .ref a, _, rfl, rfl, ?_⟩
        refine ⟨_, rfl, a, t, rfl, hs.same s1, ln t (List.mem_of_getElem? ht), fun H2 s2 => ⟨_, rfl, ?_⟩⟩
        cases z : stepB t with
        | true =>
          refine iteF ⟨_, _, rfl, s1.trans s2, fun j t' hj ht' => ?_⟩
          rcases Nat.lt_succ_iff_lt_or_eq.mp hj with l | rfl
          · exact good j t' l ht'
          · cases ht.symm.trans ht'
            exact z
        | false => exact iteT ⟨_, rfl, mk_use rfl (by decide) fun x Hf hx s3 f3 => ((q2 i ⟨⟨t, ht, z⟩, good⟩).up (s1.trans s2)) x Hf hx s3 f3⟩
      · rintro τ G ⟨_, _, rfl, s, good⟩
        rw [List.length_map, Paired.length hr'] at good
        exact q1 (all good) _ s
end

/-! ### what is a step, by the law -/
section
variable {base : Heap} {K : PySem.W.Frag} {mg : Str → Option Value} {P : Program} {w : World}
def spLSide : Sp := fun vs H Q _ => ∃ (p : Addr) (x : Sh) (s : Str), vs = [.ref p, .str s] ∧ ShAt H p x ∧ SideW s ∧ ∀ r H', Same H H' → H' r = some (.tup [.int (sideOf x s).1, .int (sideOf x s).2]) → Q (.ref r) H'
theorem ok_lside_of (T : Txt K mg) : FnOk P w K mg base CX0 1 T.f_lside_of T.d_lside_of ["_law_sheet", "_law_side"] spLSide := by
  refine T.F_lside_of.ok sc_lside_of (fun vs H Q E h => ?_) (fun cdv A outer s H vs Q E hr h => ?_)
  · obtain ⟨p, x, s, rfl, _⟩ := h
    rfl
  · obtain ⟨p, x, sd, rfl, ⟨u, v, h1, h2, h3⟩, hs, q⟩ := h
    refine ⟨_, (pss_one (ps_ret (pe_ix ix_tup (pv 0) (pe_bm PySem.F.plainAttrs_list PySem.F.slot_list_index PySem.F.type_list_index mt_index (pe_lst (pa_cons pe_str (pa_cons pe_str pa_nil))) (pa_cons (pv 1) pa_nil)) (fun _ _ => rfl)))), ?_⟩
    refine ⟨_, rfl, by show 2 ≤ sizeLine; decide, fun l nl => ?_⟩
    have e := same_new (o := .lst [.str "across", .str "along"]) nl
    refine ⟨.inl ⟨rfl, _, SqL.of upd_same⟩, _, rfl, ?_⟩
    unfold sideOf at q
    rcases hs with rfl | rfl
    · refine ⟨l, _, .str "across", 0, .str "across", rfl, rfl, SqL.of upd_same, rfl, rfl, rfl, by decide +kernel, fun m z' hm => absurd hm (Nat.not_lt_zero _), ?_⟩
      exact ⟨p, _, 0, .ref u, rfl, rfl, SqT.of (e _ _ h1), atI_nat (j := 0) rfl, q u _ e (e _ _ h2)⟩
    · refine ⟨l, _, .str "along", 1, .str "along", rfl, rfl, SqL.of upd_same, rfl, rfl, rfl, by decide +kernel, fun m z' hm hz => ?_, ?_⟩
      · obtain rfl : m = 0 := by omega
        cases hz
        decide +kernel
      exact ⟨p, _, 1, .ref v, rfl, rfl, SqT.of (e _ _ h1), atI_nat (j := 1) rfl, q v _ e (e _ _ h3)⟩
theorem ok_lis_pair (T : Txt K mg) : FnOk P w K mg base CX0 1 T.f_lis_pair T.d_lis_pair ["_law_x"] (spItm pairB) := by
  refine T.F_lis_pair.ok sc_lis_pair (fun vs H Q E h => ?_) (fun cdv A outer s H vs Q E hr h => ?_)
  · obtain ⟨v, t, rfl, _⟩ := h
    rfl
  · obtain ⟨v, t, rfl, h, q⟩ := h
    refine ⟨_, (pss_one (ps_ret (pe_and (pe_callB call_isi (by rfl) T.n_isinstance (by decide +kernel) (pa_cons (pv 0) (pa_cons (pe_bltn (v := .ty "tuple") (by rfl) T.n_tuple (by decide +kernel) rfl) pa_nil))) (pe_and (pe_cmpR op_eq (pe_callB call_len_seq (by rfl) T.n_len (by decide +kernel) (pa_cons (pv 0) pa_nil)) pe_int (nomark _)) (pe_and (pe_callB call_isi (by rfl) T.n_isinstance (by decide +kernel) (pa_cons (pe_ix ix_tup (pv 0) pe_int (fun _ _ => rfl)) (pa_cons (pe_bltn (v := .ty "int") (by rfl) T.n_int (by decide +kernel) rfl) pa_nil))) (pe_one (pe_callB call_isi (by rfl) T.n_isinstance (by decide +kernel) (pa_cons (pe_ix ix_tup (pv 0) pe_int (fun _ _ => rfl)) (pa_cons (pe_bltn (v := .ty "int") (by rfl) T.n_int (by decide +kernel) rfl) pa_nil))))))))), ?_⟩
    cases t with
    | str s =>
      obtain ⟨rfl, _⟩ := h
      exact use_isi (b := false) rfl (TyX.base (TyOf.str _)) (kit_ty (by decide +kernel)) ⟨false, rfl, iteF q⟩
    | int n =>
      cases (show v = .int n from h)
      exact use_isi (b := false) rfl (TyX.base (TyOf.int _)) (kit_ty (by decide +kernel)) ⟨false, rfl, iteF q⟩
    | pair a b =>
      obtain ⟨p, rfl, h⟩ := h
      refine use_isi (b := true) rfl (TyX.base (TyOf.tup h)) (kit_ty (by decide +kernel)) ⟨true, rfl, iteT ?_⟩
      refine ⟨_, rfl, p, _, rfl, .inr (SqT.of h), rfl, true, rfl, iteT ?_⟩
      refine use_ix rfl h (atI_nat (j := 0) rfl) ⟨.int a, .ty "int", _, _, true, rfl, ClsV.ty _, TyX.base (TyOf.int _), kit_ty (by decide +kernel), true, rfl, iteT ?_⟩
      exact use_ix rfl h (atI_nat (j := 1) rfl) ⟨.int b, .ty "int", _, _, true, rfl, ClsV.ty _, TyX.base (TyOf.int _), kit_ty (by decide +kernel), q⟩
    | sheet x =>
      obtain ⟨p, rfl, u, v, h, h2, h3⟩ := h
      refine use_isi (b := true) rfl (TyX.base (TyOf.tup h)) (kit_ty (by decide +kernel)) ⟨true, rfl, iteT ?_⟩
      refine ⟨_, rfl, p, _, rfl, .inr (SqT.of h), rfl, true, rfl, iteT ?_⟩
      exact use_ix rfl h (atI_nat (j := 0) rfl) ⟨.ref u, .ty "int", _, _, false, rfl, ClsV.ty _, TyX.base (TyOf.tup h2), kit_ty (by decide +kernel), false, rfl, iteF q⟩
theorem ok_is_pairs (T : Txt K mg) : FnOk P w K mg base CX0 2 T.f_is_pairs T.d_is_pairs ["_law_x"] (spItm sheetB) := by
  refine T.F_is_pairs.ok sc_is_pairs (fun vs H Q E h => ?_) (fun cdv A outer s H vs Q E hr h => ?_)
  · obtain ⟨v, t, rfl, _⟩ := h
    rfl
  · obtain ⟨v, t, rfl, h, q⟩ := h
    refine ⟨_, (pss_one (ps_ret (pe_and (pe_callB call_isi (by rfl) T.n_isinstance (by decide +kernel) (pa_cons (pv 0) (pa_cons (pe_bltn (v := .ty "tuple") (by rfl) T.n_tuple (by decide +kernel) rfl) pa_nil))) (pe_and (pe_cmpR op_eq (pe_callB call_len_seq (by rfl) T.n_len (by decide +kernel) (pa_cons (pv 0) pa_nil)) pe_int (nomark _)) (pe_and (pe_call (ok_lis_pair T) (hr.mono (by decide)) (by rfl) T.g_lis_pair T.F_lis_pair.kp T.b_lis_pair .nil pass0 (pa_cons (pe_ix ix_tup (pv 0) pe_int (fun _ _ => rfl)) pa_nil)) (pe_one (pe_call (ok_lis_pair T) (hr.mono (by decide)) (by rfl) T.g_lis_pair T.F_lis_pair.kp T.b_lis_pair .nil pass0 (pa_cons (pe_ix ix_tup (pv 0) pe_int (fun _ _ => rfl)) pa_nil)))))))), ?_⟩
    cases t with
    | str s =>
      obtain ⟨rfl, _⟩ := h
      exact use_isi (b := false) rfl (TyX.base (TyOf.str _)) (kit_ty (by decide +kernel)) ⟨false, rfl, iteF q⟩
    | int n =>
      cases (show v = .int n from h)
      exact use_isi (b := false) rfl (TyX.base (TyOf.int _)) (kit_ty (by decide +kernel)) ⟨false, rfl, iteF q⟩
    | pair a b =>
      obtain ⟨p, rfl, h⟩ := h
      refine use_isi (b := true) rfl (TyX.base (TyOf.tup h)) (kit_ty (by decide +kernel)) ⟨true, rfl, iteT ?_⟩
      refine ⟨_, rfl, p, _, rfl, .inr (SqT.of h), rfl, true, rfl, iteT ?_⟩
      exact use_ix rfl h (atI_nat (j := 0) rfl) ⟨.int a, .int a, rfl, rfl, false, rfl, iteF q⟩
    | sheet x =>
      obtain ⟨p, rfl, u, v, h, h2, h3⟩ := h
      refine use_isi (b := true) rfl (TyX.base (TyOf.tup h)) (kit_ty (by decide +kernel)) ⟨true, rfl, iteT ?_⟩
      refine ⟨_, rfl, p, _, rfl, .inr (SqT.of h), rfl, true, rfl, iteT ?_⟩
      refine use_ix rfl h (atI_nat (j := 0) rfl) ⟨.ref u, .pair x.1 x.2.1, rfl, ⟨u, rfl, h2⟩, true, rfl, iteT ?_⟩
      exact use_ix rfl h (atI_nat (j := 1) rfl) ⟨.ref v, .pair x.2.2.1 x.2.2.2, rfl, ⟨v, rfl, h3⟩, q⟩
def spLeast : Sp := fun vs H Q _ => ∃ (v : V) (t : Itm) (n : Int), vs = [v, .int n] ∧ ItAt H v t ∧ Q (.bl (leastB n t)) H
theorem ok_at_least (T : Txt K mg) : FnOk P w K mg base CX0 1 T.f_at_least T.d_at_least ["_law_x", "_law_least"] spLeast := by
  refine T.F_at_least.ok sc_at_least (fun vs H Q E h => ?_) (fun cdv A outer s H vs Q E hr h => ?_)
  · obtain ⟨v, t, n, rfl, _⟩ := h
    rfl
  · obtain ⟨v, t, n, rfl, h, q⟩ := h
    refine ⟨_, (pss_one (ps_ret (pe_and (pe_callB call_isi (by rfl) T.n_isinstance (by decide +kernel) (pa_cons (pv 0) (pa_cons (pe_bltn (v := .ty "int") (by rfl) T.n_int (by decide +kernel) rfl) pa_nil))) (pe_one (pe_cmpR op_ge (pv 0) (pv 1) (nomark _)))))), ?_⟩
    cases t with
    | str s =>
      obtain ⟨rfl, _⟩ := h
      exact use_isi (b := false) rfl (TyX.base (TyOf.str _)) (kit_ty (by decide +kernel)) ⟨false, rfl, iteF q⟩
    | int m =>
      cases (show v = .int m from h)
      exact use_isi (b := true) rfl (TyX.base (TyOf.int _)) (kit_ty (by decide +kernel)) ⟨true, rfl, iteT ⟨_, rfl, _, rfl, m, n, rfl, rfl, q⟩⟩
    | pair a b =>
      obtain ⟨p, rfl, h⟩ := h
      exact use_isi (b := false) rfl (TyX.base (TyOf.tup h)) (kit_ty (by decide +kernel)) ⟨false, rfl, iteF q⟩
    | sheet x =>
      obtain ⟨p, rfl, u, v, h, _⟩ := h
      exact use_isi (b := false) rfl (TyX.base (TyOf.tup h)) (kit_ty (by decide +kernel)) ⟨false, rfl, iteF q⟩
def spWith : Sp := fun vs H Q _ => ∃ (p r : Addr) (x : Sh) (s : Str) (a b : Int), vs = [.ref p, .str s, .ref r] ∧ ShAt H p x ∧ SideW s ∧ H r = some (.tup [.int a, .int b]) ∧ ∀ q H' y, H q = none → Same H H' → ShAt H' q y → (y = if s = "across" then (a, b, x.2.2.1, x.2.2.2) else (x.1, x.2.1, a, b)) → Q (.ref q) H'
theorem ok_with (T : Txt K mg) : FnOk P w K mg base CX0 1 T.f_with T.d_with ["_law_sheet", "_law_side", "_law_pair"] spWith := by
  refine T.F_with.ok sc_with (fun vs H Q E h => ?_) (fun cdv A outer s H vs Q E hr h => ?_)
  · obtain ⟨p, r, x, s, a, b, rfl, _⟩ := h
    rfl
  · obtain ⟨p, r, x, sd, a, b, rfl, ⟨u, v, h1, h2, h3⟩, hs, hr', q⟩ := h
    refine ⟨_, (pss_one (ps_ret (pe_ifExp (pt_cmpR op_eq (pv 1) pe_str (nomark _)) (pe_tup (pa_cons (pv 2) (pa_cons (pe_ix ix_tup (pv 0) pe_int (fun _ _ => rfl)) pa_nil))) (pe_tup (pa_cons (pe_ix ix_tup (pv 0) pe_int (fun _ _ => rfl)) (pa_cons (pv 2) pa_nil)))))), ?_⟩
    refine ⟨_, rfl, rfl, ?_⟩
    by_cases z : sd = "across"
    · refine ⟨true, by rw [z, decide_eq_true rfl], iteT ⟨_, rfl, use_ix rfl h1 (atI_nat (j := 1) rfl) ⟨by show 2 ≤ sizeLine; decide, fun t nt => ?_⟩⟩⟩
      have e := same_new (o := .tup [.ref r, .ref v]) nt
      exact q t _ (a, b, x.2.2.1, x.2.2.2) nt e ⟨r, v, upd_same, e _ _ hr', e _ _ h3⟩ (by rw [if_pos z])
    · refine ⟨false, by rw [decide_eq_false fun e => z (V.str.inj e)], iteF (use_ix rfl h1 (atI_nat (j := 0) rfl) ⟨_, rfl, by show 2 ≤ sizeLine; decide, fun t nt => ?_⟩)⟩
      have e := same_new (o := .tup [.ref u, .ref r]) nt
      exact q t _ (x.1, x.2.1, a, b) nt e ⟨u, r, upd_same, e _ _ h2, e _ _ hr'⟩ (by rw [if_neg z])
theorem more_three (s : Str) (t1 t2 : Itm) : moreB [.str s, t1, t2] = true := by
  cases t1 with
  | sheet x => cases t2 <;> rfl
  | _ => rfl
theorem more_five {s : Str} (h1 : s ≠ "split") (h2 : s ≠ "glue") (t1 t2 t3 t4 : Itm) : moreB [.str s, t1, t2, t3, t4] = true := by
  cases t1 with
  | sheet x => cases t2 with
    | str z => cases t3 with
      | int n => cases t4 with
        | int c => exact if_neg h1
        | _ => rfl
      | _ => rfl
    | sheet y => cases t3 with
      | str z => cases t4 with
        | int c => exact if_neg h2
        | _ => rfl
      | _ => rfl
    | _ => rfl
  | _ => rfl
theorem step_turn (t1 t2 : Itm) : stepB [.str "turn", t1, t2] = (sheetB t1 && leastB 1 t2) := by
  have m : moreB [.str "turn", t1, t2] = true := more_three _ t1 t2
  have e : shapeB [.str "turn", t1, t2] = (sheetB t1 && (leastB 1 t2 && true)) := rfl
  unfold stepB
  rw [m, e]
  cases sheetB t1 <;> cases leastB 1 t2 <;> rfl
theorem step_saw (t1 t2 t3 t4 : Itm) : stepB [.str "saw", t1, t2, t3, t4] = ((sheetB t1 && leastB 1 t4) && (sideB t2 && pairB t3)) := by
  have m : moreB [.str "saw", t1, t2, t3, t4] = true := more_five (by decide +kernel) (by decide +kernel) t1 t2 t3 t4
  have e : shapeB [.str "saw", t1, t2, t3, t4] = (sheetB t1 && (sideB t2 && (pairB t3 && (leastB 1 t4 && true)))) := rfl
  unfold stepB
  rw [m, e]
  cases sheetB t1 <;> cases sideB t2 <;> cases pairB t3 <;> cases leastB 1 t4 <;> rfl
theorem step_stack (t1 t2 t3 t4 : Itm) : stepB [.str "stack", t1, t2, t3, t4] = ((sheetB t1 && leastB 1 t4) && (sideB t2 && leastB 2 t3)) := by
  have m : moreB [.str "stack", t1, t2, t3, t4] = true := more_five (by decide +kernel) (by decide +kernel) t1 t2 t3 t4
  have e : shapeB [.str "stack", t1, t2, t3, t4] = (sheetB t1 && (sideB t2 && (leastB 2 t3 && (leastB 1 t4 && true)))) := rfl
  unfold stepB
  rw [m, e]
  cases sheetB t1 <;> cases sideB t2 <;> cases leastB 2 t3 <;> cases leastB 1 t4 <;> rfl
theorem step_split (t1 t2 t3 t4 : Itm) : stepB [.str "split", t1, t2, t3, t4] = ((sheetB t1 && leastB 1 t4) && ((sideB t2 && leastB 2 t3) && moreB [.str "split", t1, t2, t3, t4])) := by
  have e : shapeB [.str "split", t1, t2, t3, t4] = (sheetB t1 && (sideB t2 && (leastB 2 t3 && (leastB 1 t4 && true)))) := rfl
  unfold stepB
  rw [e]
  cases sheetB t1 <;> cases sideB t2 <;> cases leastB 2 t3 <;> cases leastB 1 t4 <;> rfl
theorem step_glue (t1 t2 t3 t4 : Itm) : stepB [.str "glue", t1, t2, t3, t4] = ((sheetB t1 && leastB 1 t4) && (sideB t3 && (sheetB t2 && moreB [.str "glue", t1, t2, t3, t4]))) := by
  have e : shapeB [.str "glue", t1, t2, t3, t4] = (sheetB t1 && (sheetB t2 && (sideB t3 && (leastB 1 t4 && true)))) := rfl
  unfold stepB
  rw [e]
  cases sheetB t1 <;> cases sideB t3 <;> cases sheetB t2 <;> cases leastB 1 t4 <;> rfl
theorem step_len {s : Str} {ts : List Itm} (h : ts.length ≠ if s = "turn" then 2 else 4) : stepB (.str s :: ts) = false := by
  cases e : shapeOf s with
  | none => simp only [stepB, shapeB, e, Bool.false_and]
  | some ks =>
    have : ks.length = if s = "turn" then 2 else 4 := by
      unfold shapeOf at e
      by_cases s1 : s = "saw"
      · subst s1; cases e; rfl
      rw [if_neg s1] at e
      by_cases s2 : s = "split"
      · subst s2; cases e; rfl
      rw [if_neg s2] at e
      by_cases s3 : s = "glue"
      · subst s3; cases e; rfl
      rw [if_neg s3] at e
      by_cases s4 : s = "stack"
      · subst s4; cases e; rfl
      rw [if_neg s4] at e
      by_cases s5 : s = "turn"
      · subst s5; cases e; rfl
      rw [if_neg s5] at e
      cases e
    simp only [stepB, shapeB, e, this, decide_eq_false h, Bool.false_and]
theorem paired2 {α β : Type} {R : α → β → Prop} {as : List α} {bs : List β} (h : Paired R as bs) (l : bs.length = 2) : ∃ a1 a2 b1 b2, as = [a1, a2] ∧ bs = [b1, b2] ∧ R a1 b1 ∧ R a2 b2 := by
  obtain ⟨b1, b2, rfl⟩ := len2 l
  obtain ⟨a1, a2, rfl, h1, h2⟩ := pin2 h
  exact ⟨_, _, _, _, rfl, rfl, h1, h2⟩
theorem paired4 {α β : Type} {R : α → β → Prop} {as : List α} {bs : List β} (h : Paired R as bs) (l : bs.length = 4) : ∃ a1 a2 a3 a4 b1 b2 b3 b4, as = [a1, a2, a3, a4] ∧ bs = [b1, b2, b3, b4] ∧ R a1 b1 ∧ R a2 b2 ∧ R a3 b3 ∧ R a4 b4 := by
  obtain ⟨b1, b2, b3, b4, rfl⟩ := len4 l
  obtain ⟨a1, a2, a3, a4, rfl, h1, h2, h3, h4⟩ := pin4 h
  exact ⟨_, _, _, _, _, _, _, _, rfl, rfl, h1, h2, h3, h4⟩
theorem inV_side (s : Str) : inV (.str s) [.str "across", .str "along"] = sideB (.str s) := by
  have e : ∀ c : Str, eqV (.str c) (.str s) = decide (s = c) := fun c => by
    by_cases z : s = c
    · subst z
      rw [decide_eq_true rfl]
      simp [eqV]
    · rw [decide_eq_false z]
      simpa [eqV] using fun q => z q.symm
  show (eqV (.str "across") (.str s) || (eqV (.str "along") (.str s) || false)) = decide (s = "across" ∨ s = "along")
  rw [e, e, Bool.or_false, Bool.decide_or]
abbrev sizesK : List (Key × V) := [(Sum.inr "saw", .int 5), (Sum.inr "split", .int 5), (Sum.inr "glue", .int 5), (Sum.inr "stack", .int 5), (Sum.inr "turn", .int 3)]
theorem size_at {s : Str} (h : s ∈ words) : (shapeOf s = none ∧ valV (mergeK [] sizesK) (Sum.inr s) = none) ∨ (s = "turn" ∧ valV (mergeK [] sizesK) (Sum.inr s) = some (.int 3)) ∨ ((s = "saw" ∨ s = "split" ∨ s = "glue" ∨ s = "stack") ∧ valV (mergeK [] sizesK) (Sum.inr s) = some (.int 5)) := by
  simp only [words, List.mem_cons, List.not_mem_nil, or_false] at h
  rcases h with rfl | rfl | rfl | rfl | rfl | rfl | rfl | rfl | rfl | rfl
  · exact .inr (.inr ⟨.inl rfl, by rfl⟩)
  · exact .inr (.inr ⟨.inr (.inl rfl), by rfl⟩)
  · exact .inr (.inr ⟨.inr (.inr (.inl rfl)), by rfl⟩)
  · exact .inr (.inr ⟨.inr (.inr (.inr rfl)), by rfl⟩)
  · exact .inr (.inl ⟨rfl, by rfl⟩)
  · exact .inl ⟨rfl, by rfl⟩
  · exact .inl ⟨rfl, by rfl⟩
  · exact .inl ⟨rfl, by rfl⟩
  · exact .inl ⟨rfl, by rfl⟩
  · exact .inl ⟨rfl, by rfl⟩
/-- an item that is no text -/
theorem ItAt.odd {H : Hp} {v : V} {t : Itm} (h : ItAt H v t) (z : ∀ s, t ≠ .str s) : ∃ ty : String, TyX K H v (.type ty) ∧ PySem.W.kitOne K (.type ty) (.type "str") = some false := by
  cases t with
  | str s => exact absurd rfl (z s)
  | int n =>
    cases (show v = .int n from h)
    exact ⟨_, TyX.base (TyOf.int _), kit_ty (by decide +kernel)⟩
  | pair a b =>
    obtain ⟨r, rfl, h⟩ := h
    exact ⟨_, TyX.base (TyOf.tup h), kit_ty (by decide +kernel)⟩
  | sheet x =>
    obtain ⟨r, rfl, u, u', h, _⟩ := h
    exact ⟨_, TyX.base (TyOf.tup h), kit_ty (by decide +kernel)⟩
theorem Itm.odd_or (t : Itm) : (∃ s, t = .str s) ∨ ∀ s, t ≠ .str s := by
  cases t with
  | str s => exact .inl ⟨s, rfl⟩
  | _ => exact .inr fun s e => nomatch e
theorem odd_side {t : Itm} (z : ∀ s, t ≠ .str s) : sideB t = false := by
  cases t with
  | str s => exact absurd rfl (z s)
  | _ => rfl
theorem odd_step {t : Itm} {ts : List Itm} (z : ∀ s, t ≠ .str s) : stepB (t :: ts) = false := by
  cases t with
  | str s => exact absurd rfl (z s)
  | _ => rfl
theorem str_tyx {H : Hp} (s : Str) : TyX K H (.str s) (.type "str") := TyX.base (TyOf.str _)
theorem str_kit : PySem.W.kitOne K (.type "str") (.type "str") = some true := kit_ty (by decide +kernel)
/-- the rest of what a step asks whose third item is a side -/
def restB (s : Str) (ts : List Itm) (t3 : Itm) : Bool := if s = "saw" then pairB t3 else leastB 2 t3 && (if s = "split" then moreB ts else true)
theorem step_side {s : Str} (h : s = "saw" ∨ s = "split" ∨ s = "stack") (t1 t2 t3 t4 : Itm) : stepB [.str s, t1, t2, t3, t4] = ((sheetB t1 && leastB 1 t4) && (sideB t2 && restB s [.str s, t1, t2, t3, t4] t3)) := by
  rcases h with rfl | rfl | rfl
  · exact step_saw t1 t2 t3 t4
  · rw [step_split, Bool.and_assoc (sideB t2)]
    rfl
  · rw [step_stack]
    refine congrArg _ (congrArg _ ?_)
    exact (Bool.and_true _).symm
theorem ok_good_step (T : Txt K mg) : FnOk P w K mg base CX0 3 T.f_good_step T.d_good_step ["_law_step_z"] (spStep stepB) := by
  refine T.F_good_step.ok sc_good_step (fun vs H Q E h => ?_) (fun cdv A outer s H vs Q E hr h => ?_)
  · obtain ⟨p, ts, rfl, _⟩ := h
    rfl
  · obtain ⟨p, ts, rfl, ⟨vs, hp, hts⟩, ln, q⟩ := h
    refine ⟨_, (pss_cons (ps_set (i := 1) sc_good_step.nd rfl (Or.inl rfl) (pe_disp (pps_cons pe_str pe_int (pps_cons pe_str pe_int (pps_cons pe_str pe_int (pps_cons pe_str pe_int (pps_cons pe_str pe_int pps_nil))))) (by rfl) (by rfl) (fun z => by cases z) (by decide)))
      (pss_cons (ps_set (i := 2) sc_good_step.nd rfl (Or.inl rfl) (pe_ifExp (PW.pt (pw_and (pt_cmpR op_gt (pe_callB call_len_seq (by rfl) T.n_len (by decide +kernel) (pa_cons (pv 0) pa_nil)) pe_int (nomark _)) (pw_and1 (pt_val (pe_callB call_isi (by rfl) T.n_isinstance (by decide +kernel) (pa_cons (pe_ix ix_tup (pv 0) pe_int (fun _ _ => rfl)) (pa_cons (pe_bltn (v := .ty "str") (by rfl) T.n_str (by decide +kernel) rfl) pa_nil))))))) (pe_ix ix_tup (pv 0) pe_int (fun _ _ => rfl)) pe_str))
      (pss_cons (ps_if (PW.pt (pw_or (pt_not (pt_val (pe_callB call_isi (by rfl) T.n_isinstance (by decide +kernel) (pa_cons (pv 0) (pa_cons (pe_bltn (v := .ty "tuple") (by rfl) T.n_tuple (by decide +kernel) rfl) pa_nil))))) (pw_or (pt_cmp (pc_dnotin (hu_of hr) (pv 2) (pv 1))) (pw_or1 (pt_cmpR op_ne (pe_callB call_len_seq (by rfl) T.n_len (by decide +kernel) (pa_cons (pv 0) pa_nil)) (pe_dget (hu_of hr) (pv 1) (pv 2) (fun _ _ => rfl)) (nomark _)))))) (pss_one (ps_ret pe_bl)) pss_nil)
      (pss_cons (ps_if (PW.pt (pw_or (pt_not (pt_val (pe_call (ok_is_pairs T) (hr.mono (by decide)) (by rfl) T.g_is_pairs T.F_is_pairs.kp T.b_is_pairs .nil pass0 (pa_cons (pe_ix ix_tup (pv 0) pe_int (fun _ _ => rfl)) pa_nil)))) (pw_or1 (pt_not (pt_val (pe_call (ok_at_least T) (hr.mono (by decide)) (by rfl) T.g_at_least T.F_at_least.kp T.b_at_least .nil pass0 (pa_cons (pe_ix ix_tup (pv 0) (pe_un un_neg pe_int) (fun _ _ => rfl)) (pa_cons pe_int pa_nil)))))))) (pss_one (ps_ret pe_bl)) pss_nil)
      (pss_cons (ps_if (pt_cmpR op_eq (pv 2) pe_str (nomark _)) (pss_one (ps_ret pe_bl)) pss_nil)
      (pss_cons (ps_set (i := 3) sc_good_step.nd rfl (Or.inl rfl) (pe_ifExp (pt_cmpR op_eq (pv 2) pe_str (nomark _)) (pe_ix ix_tup (pv 0) pe_int (fun _ _ => rfl)) (pe_ix ix_tup (pv 0) pe_int (fun _ _ => rfl))))
      (pss_cons (ps_if (PW.pt (pw_or (pt_not (pt_val (pe_callB call_isi (by rfl) T.n_isinstance (by decide +kernel) (pa_cons (pv 3) (pa_cons (pe_bltn (v := .ty "str") (by rfl) T.n_str (by decide +kernel) rfl) pa_nil))))) (pw_or1 (pt_cmpR op_notIn_seq (pv 3) (pe_tup (pa_cons pe_str (pa_cons pe_str pa_nil))) (by rfl))))) (pss_one (ps_ret pe_bl)) pss_nil)
      (pss_cons (ps_if (pt_cmpR op_eq (pv 2) pe_str (nomark _)) (pss_cons (ps_set (i := 5) sc_good_step.nd rfl (Or.inl rfl) (pe_ifExp (pt_cmpR op_eq (pv 3) pe_str (nomark _)) pe_str pe_str))
      (pss_one (ps_ret (pe_and (pe_call (ok_is_pairs T) (hr.mono (by decide)) (by rfl) T.g_is_pairs T.F_is_pairs.kp T.b_is_pairs .nil pass0 (pa_cons (pe_ix ix_tup (pv 0) pe_int (fun _ _ => rfl)) pa_nil)) (pe_one (pe_cmpR (op_eqD hr.units) (pe_call (ok_lside_of T) (hr.mono (by decide)) (by rfl) T.g_lside_of T.F_lside_of.kp T.b_lside_of .nil pass0 (pa_cons (pe_ix ix_tup (pv 0) pe_int (fun _ _ => rfl)) (pa_cons (pv 5) pa_nil))) (pe_call (ok_lside_of T) (hr.mono (by decide)) (by rfl) T.g_lside_of T.F_lside_of.kp T.b_lside_of .nil pass0 (pa_cons (pe_ix ix_tup (pv 0) pe_int (fun _ _ => rfl)) (pa_cons (pv 5) pa_nil))) (nomark _))))))) pss_nil)
      (pss_cons (ps_if (pt_cmpR op_eq (pv 2) pe_str (nomark _)) (pss_one (ps_ret (pe_call (ok_lis_pair T) (hr.mono (by decide)) (by rfl) T.g_lis_pair T.F_lis_pair.kp T.b_lis_pair .nil pass0 (pa_cons (pe_ix ix_tup (pv 0) pe_int (fun _ _ => rfl)) pa_nil)))) pss_nil)
      (pss_cons (ps_if (pt_not (pt_val (pe_call (ok_at_least T) (hr.mono (by decide)) (by rfl) T.g_at_least T.F_at_least.kp T.b_at_least .nil pass0 (pa_cons (pe_ix ix_tup (pv 0) pe_int (fun _ _ => rfl)) (pa_cons pe_int pa_nil))))) (pss_one (ps_ret pe_bl)) pss_nil)
      (pss_cons (ps_set (i := 4) sc_good_step.nd rfl (Or.inl rfl) (pe_call (ok_lside_of T) (hr.mono (by decide)) (by rfl) T.g_lside_of T.F_lside_of.kp T.b_lside_of .nil pass0 (pa_cons (pe_ix ix_tup (pv 0) pe_int (fun _ _ => rfl)) (pa_cons (pv 3) pa_nil))))
      (pss_one (ps_ret (pe_or (pe_cmpR op_eq (pv 2) pe_str (nomark _)) (pe_one (pe_and (pe_cmpR op_eq (pe_op op_mod (pe_ix ix_tup (pv 4) pe_int (fun _ _ => rfl)) (pe_ix ix_tup (pv 0) pe_int (fun _ _ => rfl))) pe_int (nomark _)) (pe_one (pe_cmpR op_eq (pe_op op_mod (pe_ix ix_tup (pv 4) pe_int (fun _ _ => rfl)) (pe_ix ix_tup (pv 0) pe_int (fun _ _ => rfl))) pe_int (nomark _))))))))))))))))))), ?_⟩
    intro d nd
    refine ⟨upd_same, sizesK, rfl, by decide, ?_⟩
    have e : Same H (upd (upd H d (.dK [])) d (.dK (mergeK [] sizesK))) := fun a o z => by
      rw [upd_ne (ne_of_none z nd), upd_ne (ne_of_none z nd)]
      exact z
    have hd : upd (upd H d (.dK [])) d (.dK (mergeK [] sizesK)) d = some (.dK (mergeK [] sizesK)) := upd_same
    generalize upd (upd H d (.dK [])) d (.dK (mergeK [] sizesK)) = H2 at e hd ⊢
    have hp2 := e _ _ hp
    have tt : TyX K H2 (.ref p) (.type "tuple") := TyX.base (TyOf.tup hp2)
    have no : DGet H2 d (.str "") none := by
      have := DGet.k (k := Sum.inr "") hd
      rwa [show valV (mergeK [] sizesK) (Sum.inr "") = none by decide +kernel] at this
    have q : ∀ H', Same H2 H' → Q (.bl (stepB ts)) H' := fun H' s' => q H' (e.trans s')
    clear hp
    cases hts with
    | nil =>
      refine ⟨_, rfl, p, _, rfl, .inr (SqT.of hp2), _, _, rfl, rfl, false, rfl, iteF ?_⟩
      exact use_isi (b := true) rfl (tt) (kit_ty (by decide +kernel)) ⟨true, rfl, iteF ⟨_, rfl, _, rfl, d, none, rfl, no, true, rfl, iteT (q _ (Same.refl _))⟩⟩
    | @cons v t vs ts hv hts =>
      have hlen := Paired.length hts
      refine ⟨_, rfl, p, _, rfl, .inr (SqT.of hp2), _, _, rfl, rfl, true, congrArg V.bl (decide_eq_true (by rw [List.length_cons]; omega)), iteT (use_ix rfl hp2 (atI_nat (j := 0) rfl) ?_)⟩
      replace hv := hv.same e
      rcases Itm.odd_or t with ⟨s, rfl⟩ | z
      case inr =>
        obtain ⟨ty, ht, hk⟩ := hv.odd z
        rw [odd_step z] at q
        exact ⟨v, .ty "str", _, _, false, rfl, ClsV.ty _, ht, hk, false, rfl, iteF (use_isi (b := true) rfl (tt) (kit_ty (by decide +kernel)) ⟨true, rfl, iteF ⟨_, rfl, _, rfl, d, none, rfl, no, true, rfl, iteT (q _ (Same.refl _))⟩⟩)⟩
      obtain ⟨rfl, hw⟩ := hv
      refine ⟨.str s, .ty "str", _, _, true, rfl, ClsV.ty _, str_tyx s, str_kit, true, rfl, iteT ?_⟩
      refine use_ix rfl hp2 (atI_nat (j := 0) rfl) ?_
      refine use_isi (b := true) rfl (tt) (kit_ty (by decide +kernel)) ⟨true, rfl, iteF ?_⟩
      have g := DGet.k (k := Sum.inr s) hd
      rcases size_at hw with ⟨sn, z⟩ | ⟨rfl, z⟩ | ⟨sw, z⟩
      · rw [z] at g
        have : stepB (.str s :: ts) = false := by simp only [stepB, shapeB, sn, Bool.false_and]
        rw [this] at q
        exact ⟨_, rfl, _, rfl, d, none, rfl, g, true, rfl, iteT (q _ (Same.refl _))⟩
      · rw [z] at g
        refine ⟨_, rfl, _, rfl, d, _, rfl, g, false, rfl, iteF ?_⟩
        refine ⟨_, rfl, p, _, rfl, .inr (SqT.of hp2), _, rfl, _, rfl, d, .int 3, rfl, g, rfl, ?_⟩
        by_cases le : ts.length = 2
        · obtain ⟨v1, v2, t1, t2, rfl, rfl, h1, h2⟩ := paired2 hts le
          replace h1 := h1.same e
          replace h2 := h2.same e
          rw [step_turn] at q
          refine ⟨false, rfl, iteF ?_⟩
          refine use_ix rfl hp2 (atI_nat (j := 1) rfl) ⟨v1, t1, rfl, h1, sheetB t1, rfl, ?_⟩
          cases z1 : sheetB t1 with
          | false =>
            rw [z1] at q
            exact iteT (q _ (Same.refl _))
          | true =>
            rw [z1] at q
            refine iteF ⟨_, rfl, 1, rfl, p, _, -1, v2, rfl, rfl, SqT.of hp2, atI_last [.str "turn", v1] v2, v2, t2, 1, rfl, h2, leastB 1 t2, rfl, ?_⟩
            cases z2 : leastB 1 t2 with
            | false =>
              rw [z2] at q
              exact iteT (q _ (Same.refl _))
            | true =>
              rw [z2] at q
              exact iteF (use_eqc (b := true) rfl rfl (by decide +kernel) (iteT (q _ (Same.refl _))))
        · rw [step_len (by rwa [if_pos rfl])] at q
          exact ⟨true, congrArg V.bl (by rw [dV', decide_eq_false (by rw [List.length_cons]; omega)]; rfl), iteT (q _ (Same.refl _))⟩
      · rw [z] at g
        refine ⟨_, rfl, _, rfl, d, _, rfl, g, false, rfl, iteF ?_⟩
        have nt : s ≠ "turn" := by
          rcases sw with rfl | rfl | rfl | rfl <;> decide +kernel
        refine ⟨_, rfl, p, _, rfl, .inr (SqT.of hp2), _, rfl, _, rfl, d, .int 5, rfl, g, rfl, ?_⟩
        clear g no hd nd
        by_cases le : ts.length = 4
        case neg =>
          rw [step_len (by rwa [if_neg nt])] at q
          exact ⟨true, congrArg V.bl (by rw [dV', decide_eq_false (by rw [List.length_cons]; omega)]; rfl), iteT (q _ (Same.refl _))⟩
        obtain ⟨v1, v2, v3, v4, t1, t2, t3, t4, rfl, rfl, h1, h2, h3, h4⟩ := paired4 hts le
        replace h1 := h1.same e
        replace h2 := h2.same e
        replace h3 := h3.same e
        replace h4 := h4.same e
        clear hts ln hlen e le
        refine ⟨false, rfl, iteF ?_⟩
        have bad : (sheetB t1 && leastB 1 t4) = false → stepB [.str s, t1, t2, t3, t4] = false := fun zb => by
          rcases sw with rfl | rfl | rfl | rfl
          · rw [step_saw, zb, Bool.false_and]
          · rw [step_split, zb, Bool.false_and]
          · rw [step_glue, zb, Bool.false_and]
          · rw [step_stack, zb, Bool.false_and]
        refine use_ix rfl hp2 (atI_nat (j := 1) rfl) ⟨v1, t1, rfl, h1, sheetB t1, rfl, ?_⟩
        cases z1 : sheetB t1 with
        | false =>
          rw [bad (by rw [z1, Bool.false_and])] at q
          exact iteT (q _ (Same.refl _))
        | true =>
          refine iteF ⟨_, rfl, 1, rfl, p, _, -1, v4, rfl, rfl, SqT.of hp2, atI_last [.str s, v1, v2, v3] v4, v4, t4, 1, rfl, h4, leastB 1 t4, rfl, ?_⟩
          cases z2 : leastB 1 t4 with
          | false =>
            rw [bad (by rw [z2, Bool.and_false])] at q
            exact iteT (q _ (Same.refl _))
          | true =>
            clear bad
            obtain ⟨x, rfl⟩ := fit_sheet z1
            obtain ⟨px, rfl, hx⟩ := h1
            obtain ⟨c, rfl, hc⟩ := fit_copies z2
            have kd : ∀ c : Str, (V.bl (decide (V.str s = V.str c))) = V.bl (decide (s = c)) := fun c => by
              by_cases z : s = c
              · rw [z, decide_eq_true rfl, decide_eq_true rfl]
              · rw [decide_eq_false fun e => z (V.str.inj e), decide_eq_false z]
            refine iteF (use_eqc (b := false) rfl rfl ((kd _).trans (congrArg V.bl (decide_eq_false nt))) (iteF ⟨_, rfl, rfl, decide (s = "glue"), kd _, ?_⟩))
            by_cases sg : s = "glue"
            · subst sg
              refine iteT (use_ix rfl hp2 (atI_nat (j := 3) rfl) ?_)
              rw [step_glue, z1, z2] at q
              rcases Itm.odd_or t3 with ⟨sd, rfl⟩ | z
              case inr =>
                obtain ⟨ty, ht, hk⟩ := h3.odd z
                rw [odd_side z] at q
                exact use_isi (b := false) rfl (ht) (hk) ⟨false, rfl, iteT (q _ (Same.refl _))⟩
              obtain ⟨rfl, hsd⟩ := h3
              refine use_isi (b := true) rfl (str_tyx sd) (str_kit) ⟨true, rfl, iteF ⟨_, rfl, by show 2 ≤ sizeLine; decide, fun t nt' => ⟨t, _, rfl, .inr (SqT.of upd_same), rfl, rfl, _, rfl, ?_⟩⟩⟩
              have e3 := same_new (o := .tup [.str "across", .str "along"]) nt'
              generalize upd H2 t (.tup [.str "across", .str "along"]) = H3 at e3 ⊢
              have hp3 := e3 _ _ hp2
              rw [inV_side]
              cases z3 : sideB (.str sd) with
              | false =>
                rw [z3] at q
                exact iteT (q _ e3)
              | true =>
                rw [z3] at q
                have hs : SideW sd := of_decide_eq_true z3
                replace h2 := h2.same e3
                replace hx := hx.same e3
                replace q : ∀ H', Same H3 H' → Q (.bl (sheetB t2 && moreB [.str "glue", .sheet x, t2, .str sd, .int c])) H' := fun H' s' => q H' (e3.trans s')
                clear e3 hp2 tt
                refine iteF (use_eqc (b := true) rfl rfl (by decide +kernel) (iteT ?_))
                rcases hs with rfl | rfl
                · refine use_eqc (b := true) rfl rfl (by decide +kernel) (iteT ?_)
                  refine use_ix rfl hp3 (atI_nat (j := 2) rfl) ⟨v2, t2, rfl, h2, sheetB t2, rfl, ?_⟩
                  cases z4 : sheetB t2 with
                  | false =>
                    rw [z4] at q
                    exact iteF (q _ (Same.refl _))
                  | true =>
                    rw [z4] at q
                    obtain ⟨y, rfl⟩ := fit_sheet z4
                    obtain ⟨py, rfl, hy⟩ := h2
                    refine iteT (use_ix rfl hp3 (atI_nat (j := 1) rfl) ⟨_, rfl, px, x, "along", rfl, hx, .inr rfl, fun r H4 e4 hr4 => use_ix rfl (e4 _ _ hp3) (atI_nat (j := 2) rfl) ⟨_, rfl, py, y, "along", rfl, hy.same e4, .inr rfl, fun r2 H5 e5 hr5 => ⟨_, _, dpair (e5 _ _ hr4), dpair hr5, rfl, rfl, ?_⟩⟩⟩)
                    have q : Q (.bl (glueB x y "across")) H5 := q _ (e4.trans e5)
                    rw [pair_eqv]
                    exact q
                · refine use_eqc (b := false) rfl rfl (by decide +kernel) (iteF ?_)
                  refine use_ix rfl hp3 (atI_nat (j := 2) rfl) ⟨v2, t2, rfl, h2, sheetB t2, rfl, ?_⟩
                  cases z4 : sheetB t2 with
                  | false =>
                    rw [z4] at q
                    exact iteF (q _ (Same.refl _))
                  | true =>
                    rw [z4] at q
                    obtain ⟨y, rfl⟩ := fit_sheet z4
                    obtain ⟨py, rfl, hy⟩ := h2
                    refine iteT (use_ix rfl hp3 (atI_nat (j := 1) rfl) ⟨_, rfl, px, x, "across", rfl, hx, .inl rfl, fun r H4 e4 hr4 => use_ix rfl (e4 _ _ hp3) (atI_nat (j := 2) rfl) ⟨_, rfl, py, y, "across", rfl, hy.same e4, .inl rfl, fun r2 H5 e5 hr5 => ⟨_, _, dpair (e5 _ _ hr4), dpair hr5, rfl, rfl, ?_⟩⟩⟩)
                    have q : Q (.bl (glueB x y "along")) H5 := q _ (e4.trans e5)
                    rw [pair_eqv]
                    exact q
            rw [decide_eq_false sg]
            replace sw : s = "saw" ∨ s = "split" ∨ s = "stack" := by
              rcases sw with h | h | h | h
              · exact .inl h
              · exact .inr (.inl h)
              · exact absurd h sg
              · exact .inr (.inr h)
            refine iteF (use_ix rfl hp2 (atI_nat (j := 2) rfl) ?_)
            rw [step_side sw, z1, z2] at q
            rcases Itm.odd_or t2 with ⟨sd, rfl⟩ | z
            case inr =>
              obtain ⟨ty, ht, hk⟩ := h2.odd z
              rw [odd_side z] at q
              exact use_isi (b := false) rfl (ht) (hk) ⟨false, rfl, iteT (q _ (Same.refl _))⟩
            obtain ⟨rfl, hsd⟩ := h2
            refine use_isi (b := true) rfl (str_tyx sd) (str_kit) ⟨true, rfl, iteF ⟨_, rfl, by show 2 ≤ sizeLine; decide, fun t nt' => ⟨t, _, rfl, .inr (SqT.of upd_same), rfl, rfl, _, rfl, ?_⟩⟩⟩
            have e3 := same_new (o := .tup [.str "across", .str "along"]) nt'
            generalize upd H2 t (.tup [.str "across", .str "along"]) = H3 at e3 ⊢
            have hp3 := e3 _ _ hp2
            rw [inV_side]
            cases z3 : sideB (.str sd) with
            | false =>
              rw [z3] at q
              exact iteT (q _ e3)
            | true =>
              rw [z3] at q
              have hs : SideW sd := of_decide_eq_true z3
              replace h3 := h3.same e3
              replace hx := hx.same e3
              replace q : ∀ H', Same H3 H' → Q (.bl (restB s [.str s, .sheet x, .str sd, t3, .int c] t3)) H' := fun H' s' => q H' (e3.trans s')
              clear e3 hp2 tt
              refine iteF (use_eqc (b := false) rfl rfl ((kd _).trans (congrArg V.bl (decide_eq_false sg))) (iteF ⟨_, rfl, rfl, decide (s = "saw"), kd _, ?_⟩))
              unfold restB at q
              by_cases s1 : s = "saw"
              · rw [if_pos s1] at q
                rw [decide_eq_true s1]
                exact iteT (use_ix rfl hp3 (atI_nat (j := 3) rfl) ⟨v3, t3, rfl, h3, q _ (Same.refl _)⟩)
              rw [if_neg s1] at q
              rw [decide_eq_false s1]
              refine iteF (use_ix rfl hp3 (atI_nat (j := 3) rfl) ⟨v3, t3, 2, rfl, h3, leastB 2 t3, rfl, ?_⟩)
              cases z4 : leastB 2 t3 with
              | false =>
                rw [z4] at q
                exact iteT (q _ (Same.refl _))
              | true =>
                rw [z4] at q
                refine iteF (use_ix rfl hp3 (atI_nat (j := 1) rfl) ⟨_, rfl, px, x, sd, rfl, hx, hs, fun r H4 e4 hr4 => ⟨_, rfl, rfl, decide (s = "stack"), kd _, ?_⟩⟩)
                by_cases s2 : s = "stack"
                · subst s2
                  exact iteT (q _ e4)
                rw [decide_eq_false s2]
                obtain rfl : s = "split" := by
                  rcases sw with h | h | h
                  · exact absurd h s1
                  · exact h
                  · exact absurd h s2
                obtain ⟨n, rfl, hn⟩ := fit_pieces z4
                cases (show v3 = .int n from h3)
                have hp4 := e4 _ _ hp3
                replace q : Q (.bl (evenB x sd n)) H4 := q _ e4
                unfold evenB at q
                refine iteF (use_ix rfl hr4 (atI_nat (j := 0) rfl) (use_ix rfl hp4 (atI_nat (j := 3) rfl) ⟨_, n, rfl, rfl, (show 0 < n by omega), rfl, _, rfl, ?_⟩))
                rw [dV']
                cases z5 : decide ((sideOf x sd).1 % n = 0) with
                | false =>
                  rw [z5, Bool.false_and] at q
                  exact iteF q
                | true =>
                  rw [z5, Bool.true_and] at q
                  refine iteT (use_ix rfl hr4 (atI_nat (j := 1) rfl) (use_ix rfl hp4 (atI_nat (j := 3) rfl) ⟨_, n, rfl, rfl, (show 0 < n by omega), rfl, ?_⟩))
                  rw [dV']
                  exact q
end
/-! ### steps that are drawn -/
def Sm (x : Int) : Prop := x.natAbs ≤ 10 ^ 6
theorem Sm.w {x : Int} (h : Sm x) : x.natAbs < 2 ^ 9000 := w100 (Nat.lt_of_le_of_lt h (by decide))
theorem IsRoot.sm {d : Int} (h : IsRoot d) : d.natAbs < 2 ^ 64 := by
  obtain ⟨h1, h2, _⟩ := h
  exact Nat.lt_of_le_of_lt (show d.natAbs ≤ 99 by omega) (by decide)
section
variable {base : Heap} {K : PySem.W.Frag} {mg : Str → Option Value} {P : Program} {w : World}
theorem ShB.sm {d : Int} {x : Sh} (h : ShB d x) : (Sm x.1 ∧ Sm x.2.1) ∧ Sm x.2.2.1 ∧ Sm x.2.2.2 := ⟨⟨h.1.2.1, h.1.2.2⟩, h.2.2.1, h.2.2.2⟩
def SmS (x : Sh) : Prop := (Sm x.1 ∧ Sm x.2.1) ∧ Sm x.2.2.1 ∧ Sm x.2.2.2
def spLScaled : Sp := fun vs H Q _ => ∃ (r : Addr) (a b n : Int), vs = [.ref r, .int n] ∧ H r = some (.tup [.int a, .int b]) ∧ Sm n ∧ ∀ q H', H q = none → Same H H' → H' q = some (.tup [.int (a * n), .int (b * n)]) → Q (.ref q) H'
theorem ok_lscaled (T : Txt K mg) : FnOk P w K mg base CX0 1 T.f_lscaled T.d_lscaled ["_law_pair", "_law_number"] spLScaled := by
  refine T.F_lscaled.ok sc_lscaled (fun vs H Q E h => ?_) (fun cdv A outer s H vs Q E hr h => ?_)
  · obtain ⟨r, a, b, n, rfl, _⟩ := h
    rfl
  · obtain ⟨r, a, b, n, rfl, h, hn, q⟩ := h
    refine ⟨_, (pss_one (ps_ret (pe_tup (pa_cons (pe_op op_mul (pe_ix ix_tup (pv 0) pe_int (fun _ _ => rfl)) (pv 1)) (pa_cons (pe_op op_mul (pe_ix ix_tup (pv 0) pe_int (fun _ _ => rfl)) (pv 1)) pa_nil))))), ?_⟩
    unfold Sm at hn
    have m : -(2 ^ 64) < n ∧ n < 2 ^ 64 := ⟨by omega, by omega⟩
    refine use_ix rfl h (atI_nat (j := 0) rfl) ⟨_, rfl, a, n, rfl, rfl, .inr m, use_ix rfl h (atI_nat (j := 1) rfl) ⟨_, rfl, b, n, rfl, rfl, .inr m, by show 2 ≤ sizeLine; decide, fun t nt => ?_⟩⟩
    exact q t _ nt (same_new nt) upd_same
theorem items_same {H H' : Hp} (s : Same H H') {vs : List V} {ts : List Itm} (h : Paired (ItAt H) vs ts) : Paired (ItAt H') vs ts := by
  induction h with
  | nil => exact .nil
  | cons r _ ih => exact .cons (r.same s) ih
theorem side_word {s : Str} (h : SideW s) : s ∈ words := by
  rcases h with rfl | rfl <;> decide +kernel
theorem ShAt.keep {H H' : Hp} {b sb p : Addr} {x : Sh} (h : ShAt H p x) (B : Bag H b sb) (k : Keep b H H') : ShAt H' p x := h.mono (tup_keep B k)
/-- bounded items -/
def ItB : Itm → Prop
  | .str _ => True
  | .int n => n.natAbs ≤ 100
  | .pair a b => a.natAbs ≤ 10 ^ 7 ∧ b.natAbs ≤ 10 ^ 7
  | .sheet x => (x.1.natAbs ≤ 10 ^ 7 ∧ x.2.1.natAbs ≤ 10 ^ 7) ∧ x.2.2.1.natAbs ≤ 10 ^ 7 ∧ x.2.2.2.natAbs ≤ 10 ^ 7
theorem SmS.itB {x : Sh} (h : SmS x) : ItB (.sheet x) := by
  unfold SmS Sm at h
  unfold ItB
  omega
theorem bnd5 {a b c d e : Itm} (h1 : ItB a) (h2 : ItB b) (h3 : ItB c) (h4 : ItB d) (h5 : ItB e) : ∀ t ∈ [a, b, c, d, e], ItB t := by
  intro t ht
  simp only [List.mem_cons, List.not_mem_nil, or_false] at ht
  rcases ht with rfl | rfl | rfl | rfl | rfl <;> assumption
theorem bnd3 {a b c : Itm} (h1 : ItB a) (h2 : ItB b) (h3 : ItB c) : ∀ t ∈ [a, b, c], ItB t := by
  intro t ht
  simp only [List.mem_cons, List.not_mem_nil, or_false] at ht
  rcases ht with rfl | rfl | rfl <;> assumption
theorem mul4 {a n : Int} (h : Sm a) (g : n.natAbs ≤ 4) : (a * n).natAbs ≤ 10 ^ 7 := by
  unfold Sm at h
  rw [Int.natAbs_mul]
  have := Nat.mul_le_mul h g
  omega
theorem with_b {x y : Sh} {s : Str} {n : Int} (h : SmS x) (g : n.natAbs ≤ 4) (e : y = if s = "across" then ((sideOf x s).1 * n, (sideOf x s).2 * n, x.2.2.1, x.2.2.2) else (x.1, x.2.1, (sideOf x s).1 * n, (sideOf x s).2 * n)) : ItB (.sheet y) := by
  obtain ⟨⟨h1, h2⟩, h3, h4⟩ := h
  have b := (show SmS x from ⟨⟨h1, h2⟩, h3, h4⟩).itB
  unfold sideOf at e
  unfold ItB at b ⊢
  subst e
  by_cases z : s = "across"
  · simp only [if_pos z]
    exact ⟨⟨mul4 h1 g, mul4 h2 g⟩, b.2⟩
  · simp only [if_neg z]
    exact ⟨b.1, mul4 h3 g, mul4 h4 g⟩
theorem glue_b {x z y : Sh} {s : Str} (h : SmS x) (g : SmS z) (e : y = if s = "across" then ((sideOf z s).1, (sideOf z s).2, x.2.2.1, x.2.2.2) else (x.1, x.2.1, (sideOf z s).1, (sideOf z s).2)) : ItB (.sheet y) := by
  have b := h.itB
  have c := g.itB
  unfold sideOf at e
  unfold ItB at b c ⊢
  subst e
  by_cases z : s = "across"
  · simp only [if_pos z]
    exact ⟨c.1, b.2⟩
  · simp only [if_neg z]
    exact ⟨b.1, c.2⟩
def spAnyStep : Sp := fun vs H Q _ => ∃ (b sb : Addr) (d : Int), vs = [.ref b, .int d] ∧ Bag H b sb ∧ IsRoot d ∧ ∀ p ts H', 0 < ts.length → ts.length ≤ 5 → (∀ t ∈ ts, ItB t) → StepAt H' p ts → Bag H' b sb → Keep b H H' → Q (.ref p) H'
theorem ok_any_step (T : Txt K mg) : FnOk P w K mg base CX0 6 T.f_any_step T.d_any_step ["_law_bag", "_law_root"] spAnyStep := by
  refine T.F_any_step.ok sc_any_step (fun vs H Q E h => ?_) (fun cdv A outer s H vs Q E hr h => ?_)
  · obtain ⟨b, sb, d, rfl, _⟩ := h
    rfl
  · obtain ⟨b, sb, d, rfl, B, hd, q⟩ := h
    refine ⟨_, (pss_cons (ps_par3 (i := 2) (j := 3) (l := 4) (by rfl) sc_any_step.nd rfl rfl rfl (by decide) (by decide) (by decide) rfl rfl rfl (pa_cons (pe_call (ok_a_sheet T) (hr.mono (by decide)) (by rfl) T.g_a_sheet T.F_a_sheet.kp T.b_a_sheet .nil pass0 (pa_cons (pv 0) (pa_cons (pv 1) pa_nil))) (pa_cons (pe_call (ok_of T) (hr.mono (by decide)) (by rfl) T.g_of T.F_of.kp T.b_of .nil pass0 (pa_cons (pv 0) (pa_cons (pe_lst (pa_cons pe_str (pa_cons pe_str pa_nil))) pa_nil))) (pa_cons (pe_call (ok_of T) (hr.mono (by decide)) (by rfl) T.g_of T.F_of.kp T.b_of .nil pass0 (pa_cons (pv 0) (pa_cons (pe_lst (pa_cons pe_int (pa_cons pe_int (pa_cons pe_int pa_nil)))) pa_nil))) pa_nil))) (by rfl))
      (pss_cons (ps_par (i := 5) (j := 6) (by rfl) sc_any_step.nd rfl rfl (by decide) rfl rfl (pa_cons (pe_call (ok_pull T) (hr.mono (by decide)) (by rfl) T.g_pull T.F_pull.kp T.b_pull .nil pass0 (pa_cons (pv 0) (pa_cons pe_int pa_nil))) (pa_cons (pe_call (ok_a_sheet T) (hr.mono (by decide)) (by rfl) T.g_a_sheet T.F_a_sheet.kp T.b_a_sheet .nil pass0 (pa_cons (pv 0) (pa_cons (pv 1) pa_nil))) pa_nil)) (by rfl))
      (pss_cons (ps_if (pt_cmpR op_eq (pv 5) pe_int (nomark _)) (pss_one (ps_ret (pe_tup (pa_cons pe_str (pa_cons (pv 2) (pa_cons (pv 3) (pa_cons (pe_call (ok_of T) (hr.mono (by decide)) (by rfl) T.g_of T.F_of.kp T.b_of .nil pass0 (pa_cons (pv 0) (pa_cons (pe_lst (pa_cons (pe_call (ok_any_pair T) (hr.mono (by decide)) (by rfl) T.g_any_pair T.F_any_pair.kp T.b_any_pair .nil pass0 (pa_cons (pv 0) pa_nil)) (pa_cons (pe_ix ix_tup (pv 6) pe_int (fun _ _ => rfl)) pa_nil))) pa_nil))) (pa_cons (pv 4) pa_nil)))))))) pss_nil)
      (pss_cons (ps_if (pt_cmpR op_eq (pv 5) pe_int (nomark _)) (pss_cons (ps_set (i := 7) sc_any_step.nd rfl (Or.inl rfl) (pe_op op_add pe_int (pe_call (ok_pull T) (hr.mono (by decide)) (by rfl) T.g_pull T.F_pull.kp T.b_pull .nil pass0 (pa_cons (pv 0) (pa_cons pe_int pa_nil)))))
      (pss_cons (ps_set (i := 8) sc_any_step.nd rfl (Or.inl rfl) (pe_call (ok_lscaled T) (hr.mono (by decide)) (by rfl) T.g_lscaled T.F_lscaled.kp T.b_lscaled .nil pass0 (pa_cons (pe_call (ok_lside_of T) (hr.mono (by decide)) (by rfl) T.g_lside_of T.F_lside_of.kp T.b_lside_of .nil pass0 (pa_cons (pv 2) (pa_cons (pv 3) pa_nil))) (pa_cons (pe_call (ok_of T) (hr.mono (by decide)) (by rfl) T.g_of T.F_of.kp T.b_of .nil pass0 (pa_cons (pv 0) (pa_cons (pe_lst (pa_cons (pv 7) (pa_cons pe_int pa_nil))) pa_nil))) pa_nil))))
      (pss_one (ps_ret (pe_tup (pa_cons pe_str (pa_cons (pe_call (ok_with T) (hr.mono (by decide)) (by rfl) T.g_with T.F_with.kp T.b_with .nil pass0 (pa_cons (pv 2) (pa_cons (pv 3) (pa_cons (pv 8) pa_nil)))) (pa_cons (pv 3) (pa_cons (pv 7) (pa_cons (pv 4) pa_nil)))))))))) pss_nil)
      (pss_cons (ps_if (pt_cmpR op_eq (pv 5) pe_int (nomark _)) (pss_cons (ps_set (i := 6) sc_any_step.nd rfl (Or.inl rfl) (pe_call (ok_of T) (hr.mono (by decide)) (by rfl) T.g_of T.F_of.kp T.b_of .nil pass0 (pa_cons (pv 0) (pa_cons (pe_lst (pa_cons (pe_call (ok_with T) (hr.mono (by decide)) (by rfl) T.g_with T.F_with.kp T.b_with .nil pass0 (pa_cons (pv 2) (pa_cons (pv 3) (pa_cons (pe_call (ok_lside_of T) (hr.mono (by decide)) (by rfl) T.g_lside_of T.F_lside_of.kp T.b_lside_of .nil pass0 (pa_cons (pv 6) (pa_cons (pv 3) pa_nil))) pa_nil)))) (pa_cons (pv 6) pa_nil))) pa_nil))))
      (pss_one (ps_ret (pe_tup (pa_cons pe_str (pa_cons (pv 2) (pa_cons (pv 6) (pa_cons (pv 3) (pa_cons (pv 4) pa_nil))))))))) pss_nil)
      (pss_cons (ps_if (pt_cmpR op_eq (pv 5) pe_int (nomark _)) (pss_one (ps_ret (pe_tup (pa_cons pe_str (pa_cons (pv 2) (pa_cons (pv 3) (pa_cons (pe_op op_add pe_int (pe_call (ok_pull T) (hr.mono (by decide)) (by rfl) T.g_pull T.F_pull.kp T.b_pull .nil pass0 (pa_cons (pv 0) (pa_cons pe_int pa_nil)))) (pa_cons (pv 4) pa_nil)))))))) pss_nil)
      (pss_one (ps_ret (pe_tup (pa_cons pe_str (pa_cons (pv 2) (pa_cons (pv 4) pa_nil)))))))))))), ?_⟩
    refine ⟨.ref b, rfl, .int d, rfl, b, sb, d, rfl, B, hd, fun x px H1 m1' hx B1 k1 => ?_⟩
    have m1 : SmS x := m1'.sm
    refine ⟨.ref b, rfl, by show 2 ≤ sizeLine; decide, fun l hl => ⟨b, sb, l, _, rfl, B1.new hl, upd_same, B1.ne hl, by simp, by simp, fun i v H2 hv B2 k2 => ?_⟩⟩
    obtain ⟨sd, rfl, hs⟩ : ∃ sd, v = .str sd ∧ SideW sd := by
      rcases at2 hv with rfl | rfl
      · exact ⟨_, rfl, .inl rfl⟩
      · exact ⟨_, rfl, .inr rfl⟩
    refine ⟨.ref b, rfl, by show 3 ≤ sizeLine; decide, fun l2 hl2 => ⟨b, sb, l2, _, rfl, B2.new hl2, upd_same, B2.ne hl2, by simp, by simp, fun i v H3 hv B3 k3 => ?_⟩⟩
    obtain ⟨c, rfl, hc5⟩ : ∃ c : Int, v = .int c ∧ c.natAbs ≤ 5 := by
      rcases at3 hv with rfl | rfl | rfl
      · exact ⟨_, rfl, by decide⟩
      · exact ⟨_, rfl, by decide⟩
      · exact ⟨_, rfl, by decide⟩
    refine ⟨_, _, _, rfl, ?_⟩
    refine ⟨.ref b, rfl, b, sb, 5, rfl, B3, by decide, by decide, fun wy H4 w0 w1 B4 k4 => ?_⟩
    refine ⟨.ref b, rfl, .int d, rfl, b, sb, d, rfl, B4, hd, fun y py H5 m5' hy B5 k5 => ?_⟩
    have m5 : SmS y := m5'.sm
    refine ⟨_, _, rfl, ?_⟩
    have k15 : Keep b H1 H5 := (keep_new hl).trans (k2.trans ((keep_new hl2).trans (k3.trans (k4.trans k5))))
    have kk := k1.trans k15
    have hx5 := hx.keep B1 k15
    have hw := side_word hs
    have fin : ∀ (H6 : Hp) (t : Addr) (vs : List V) (ts : List Itm), Bag H6 b sb → Keep b H5 H6 → H6 t = none → Paired (ItAt H6) vs ts → 0 < ts.length → ts.length ≤ 5 → (∀ t ∈ ts, ItB t) → Q (.ref t) (upd H6 t (.tup vs)) := fun H6 t vs ts B6 k6 ht hts l0 l5 lb =>
      q t ts _ l0 l5 lb ⟨vs, upd_same, items_same (same_new ht) hts⟩ (B6.new ht) ((kk.trans k6).trans (keep_new ht))
    by_cases y0 : wy = 0
    · refine use_eqc (b := true) rfl rfl (congrArg V.bl (by rw [dV', decide_eq_true y0])) (iteT ?_)
      obtain ⟨u, u', g1, g2, g3⟩ := id hy
      refine ⟨_, rfl, _, rfl, .ref b, rfl, .ref b, rfl, b, sb, rfl, B5, fun a0 a1 p6 H6 b1 b2 b3 b4 n6 h6 B6 k6 => ?_⟩
      refine use_ix rfl (tup_keep B5 k6 _ _ g1) (atI_nat (j := 0) rfl) ⟨by show 2 ≤ sizeLine; decide, fun l3 hl3 => ⟨b, sb, l3, _, rfl, B6.new hl3, upd_same, B6.ne hl3, by simp, by simp, fun i v H7 hv B7 k7 => ?_⟩⟩
      have k67 : Keep b H6 H7 := (keep_new hl3).trans k7
      have k57 := k6.trans k67
      obtain ⟨r, a0, a1, rfl, hr7, ba⟩ : ∃ (r : Addr) (a0 a1 : Int), v = .ref r ∧ H7 r = some (.tup [.int a0, .int a1]) ∧ ItB (.pair a0 a1) := by
        rcases at2 hv with rfl | rfl
        · exact ⟨_, _, _, rfl, tup_keep B6 k67 _ _ h6, by unfold ItB; omega⟩
        · exact ⟨_, _, _, rfl, tup_keep B5 k57 _ _ g2, by have := m5.itB; unfold ItB at this ⊢; omega⟩
      refine ⟨_, rfl, by show 5 ≤ sizeLine; decide, fun t ht => ?_⟩
      exact fin H7 t _ [.str "saw", .sheet x, .str sd, .pair a0 a1, .int c] B7 k57 ht (.cons ⟨rfl, by decide +kernel⟩ (.cons ⟨px, rfl, hx5.keep B5 k57⟩ (.cons ⟨rfl, hw⟩ (.cons ⟨r, rfl, hr7⟩ (.cons rfl .nil))))) (Nat.succ_pos _) (by simp) (bnd5 trivial m1.itB trivial ba (show c.natAbs ≤ 100 by omega))
    refine use_eqc (b := false) rfl rfl (congrArg V.bl (by rw [dV', decide_eq_false y0])) (iteF ?_)
    by_cases y1 : wy = 1
    · refine use_eqc (b := true) rfl rfl (congrArg V.bl (by rw [dV', decide_eq_true y1])) (iteT ?_)
      refine ⟨.ref b, rfl, b, sb, 3, rfl, B5, by decide, by decide, fun z H6 z0 z1 B6 k6 => ⟨2, z, rfl, rfl, ?_⟩⟩
      refine ⟨_, rfl, _, rfl, px, x, sd, rfl, hx5.keep B5 k6, hs, fun r H7 e7 hr7 => ⟨.ref b, rfl, _, rfl, by show 2 ≤ sizeLine; decide, fun l3 hl3 => ⟨b, sb, l3, _, rfl, (B6.same e7).new hl3, upd_same, (B6.same e7).ne hl3, by simp, by simp, fun i v H8 hv B8 k8 => ?_⟩⟩⟩
      have k78 : Keep b H7 H8 := (keep_new hl3).trans k8
      have k58 : Keep b H5 H8 := k6.trans ((keep_of e7).trans k78)
      obtain ⟨n, rfl, hn4⟩ : ∃ n : Int, v = .int n ∧ n.natAbs ≤ 4 := by
        rcases at2 hv with rfl | rfl
        · exact ⟨_, rfl, by omega⟩
        · exact ⟨_, rfl, by decide⟩
      have hn : Sm n := by unfold Sm; omega
      refine ⟨r, _, _, n, rfl, tup_keep (B6.same e7) k78 _ _ hr7, hn, fun q9 H9 n9 e9 h9 => ?_⟩
      have k59 : Keep b H5 H9 := k58.trans (keep_of e9)
      refine ⟨_, rfl, _, rfl, _, rfl, px, q9, x, sd, _, _, rfl, hx5.keep B5 k59, hs, h9, fun q10 H10 y10 n10 e10 h10 ey => ⟨_, rfl, _, rfl, _, rfl, by show 5 ≤ sizeLine; decide, fun t ht => ?_⟩⟩
      exact fin H10 t _ [.str "split", .sheet y10, .str sd, .int (2 + z), .int c] ((B8.same e9).same e10) (k59.trans (keep_of e10)) ht (.cons ⟨rfl, by decide +kernel⟩ (.cons ⟨q10, rfl, h10⟩ (.cons ⟨rfl, hw⟩ (.cons rfl (.cons rfl .nil))))) (Nat.succ_pos _) (by simp) (bnd5 trivial (with_b m1 hn4 ey) trivial (show (2 + z).natAbs ≤ 100 by omega) (show c.natAbs ≤ 100 by omega))
    refine use_eqc (b := false) rfl rfl (congrArg V.bl (by rw [dV', decide_eq_false y1])) (iteF ?_)
    by_cases y2 : wy = 2
    · refine use_eqc (b := true) rfl rfl (congrArg V.bl (by rw [dV', decide_eq_true y2])) (iteT ?_)
      refine ⟨.ref b, rfl, _, rfl, _, rfl, _, rfl, _, rfl, py, y, sd, rfl, hy, hs, fun r H6 e6 hr6 => ⟨px, r, x, sd, _, _, rfl, hx5.same e6, hs, hr6, fun q7 H7 y7 n7 e7 h7 ey => ⟨_, rfl, by show 2 ≤ sizeLine; decide, fun l3 hl3 => ⟨b, sb, l3, _, rfl, ((B5.same e6).same e7).new hl3, upd_same, ((B5.same e6).same e7).ne hl3, by simp, by simp, fun i v H8 hv B8 k8 => ?_⟩⟩⟩⟩
      have k78 : Keep b H7 H8 := (keep_new hl3).trans k8
      have k58 : Keep b H5 H8 := (keep_of e6).trans ((keep_of e7).trans k78)
      obtain ⟨r2, z, rfl, hz, bz⟩ : ∃ (r2 : Addr) (z : Sh), v = .ref r2 ∧ ShAt H8 r2 z ∧ ItB (.sheet z) := by
        rcases at2 hv with rfl | rfl
        · exact ⟨_, _, rfl, h7.keep ((B5.same e6).same e7) k78, glue_b m1 m5 ey⟩
        · exact ⟨_, _, rfl, hy.keep B5 k58, m5.itB⟩
      refine ⟨_, rfl, _, rfl, _, rfl, _, rfl, by show 5 ≤ sizeLine; decide, fun t ht => ?_⟩
      exact fin H8 t _ [.str "glue", .sheet x, .sheet z, .str sd, .int c] B8 k58 ht (.cons ⟨rfl, by decide +kernel⟩ (.cons ⟨px, rfl, hx5.keep B5 k58⟩ (.cons ⟨r2, rfl, hz⟩ (.cons ⟨rfl, hw⟩ (.cons rfl .nil))))) (Nat.succ_pos _) (by simp) (bnd5 trivial m1.itB bz trivial (show c.natAbs ≤ 100 by omega))
    refine use_eqc (b := false) rfl rfl (congrArg V.bl (by rw [dV', decide_eq_false y2])) (iteF ?_)
    by_cases y3 : wy = 3
    · refine use_eqc (b := true) rfl rfl (congrArg V.bl (by rw [dV', decide_eq_true y3])) (iteT ?_)
      refine ⟨_, rfl, _, rfl, .ref b, rfl, b, sb, 5, rfl, B5, by decide, by decide, fun z H6 z0 z1 B6 k6 => ⟨2, z, rfl, rfl, _, rfl, by show 5 ≤ sizeLine; decide, fun t ht => ?_⟩⟩
      exact fin H6 t _ [.str "stack", .sheet x, .str sd, .int (2 + z), .int c] B6 k6 ht (.cons ⟨rfl, by decide +kernel⟩ (.cons ⟨px, rfl, hx5.keep B5 k6⟩ (.cons ⟨rfl, hw⟩ (.cons rfl (.cons rfl .nil))))) (Nat.succ_pos _) (by simp) (bnd5 trivial m1.itB trivial (show (2 + z).natAbs ≤ 100 by omega) (show c.natAbs ≤ 100 by omega))
    · refine use_eqc (b := false) rfl rfl (congrArg V.bl (by rw [dV', decide_eq_false y3])) (iteF ?_)
      refine ⟨_, rfl, _, rfl, by show 3 ≤ sizeLine; decide, fun t ht => ?_⟩
      exact fin H5 t _ [.str "turn", .sheet x, .int c] B5 (Keep.refl _) ht (.cons ⟨rfl, by decide +kernel⟩ (.cons ⟨px, rfl, hx5⟩ (.cons rfl .nil))) (Nat.succ_pos _) (by simp) (bnd3 trivial m1.itB (show c.natAbs ≤ 100 by omega))
end
/-! ### odd steps -/
section
variable {base : Heap} {K : PySem.W.Frag} {mg : Str → Option Value} {P : Program} {w : World}
theorem paired_cut {α β : Type} {R : α → β → Prop} : ∀ {as : List α} {bs : List β} (n : Nat), Paired R as bs → Paired R (as.take n) (bs.take n) ∧ Paired R (as.drop n) (bs.drop n)
  | _, _, 0, h => ⟨.nil, h⟩
  | _, _, _ + 1, .nil => ⟨.nil, .nil⟩
  | _, _, n + 1, .cons r t => ⟨.cons r (paired_cut n t).1, (paired_cut n t).2⟩
theorem paired_app {α β : Type} {R : α → β → Prop} : ∀ {as : List α} {bs : List β} {as' : List α} {bs' : List β}, Paired R as bs → Paired R as' bs' → Paired R (as ++ as') (bs ++ bs') := by
  intro as bs as' bs' g h
  induction g with
  | nil => exact h
  | cons r t ih => exact .cons r ih
/-- a piece of a step -/
theorem sl_step {H : Hp} {p : Addr} {ts : List Itm} {lo hi : Option Int} {Q : VK} {n : Nat} (hp : StepAt H p ts) (hn : HT.sIx ts.length ts.length hi - HT.sIx ts.length 0 lo ≤ n) (h : ∀ p' ts' H', Same H H' → StepAt H' p' ts' → ts'.length ≤ n → (∀ t ∈ ts', t ∈ ts) → Q (.ref p') H') : rSlA K (.ref p) lo hi H Q := by
  obtain ⟨vs, hp, hts⟩ := hp
  have hl := Paired.length hts
  refine ⟨p, vs, rfl, SqT.of hp, fun z => h p ts H (Same.refl _) ⟨vs, hp, hts⟩ ?_ (fun t ht => ht), fun _ p2 n2 => ?_⟩
  · rw [hl] at z
    omega
  · refine h p2 ((ts.drop (HT.sIx ts.length 0 lo)).take (HT.sIx ts.length ts.length hi - HT.sIx ts.length 0 lo)) _ (same_new n2) ⟨_, upd_same, items_same (same_new n2) ?_⟩ ?_ (fun t ht => List.mem_of_mem_drop (List.mem_of_mem_take ht))
    · unfold cutV
      rw [hl]
      exact (paired_cut _ (paired_cut _ hts).2).1
    · rw [List.length_take]
      omega
theorem cat_step {H : Hp} {p p2 : Addr} {ts ts2 : List Itm} {Q : VK} (hp : StepAt H p ts) (hp2 : StepAt H p2 ts2) (hn : ts.length + ts2.length ≤ 1000) (h : ∀ p' H', Same H H' → StepAt H' p' (ts ++ ts2) → Q (.ref p') H') : rCatA K (.ref p) (.ref p2) H Q := by
  obtain ⟨vs, g, hts⟩ := id hp
  obtain ⟨vs2, g2, hts2⟩ := id hp2
  have hl := Paired.length hts
  have hl2 := Paired.length hts2
  refine ⟨p, p2, vs, vs2, rfl, rfl, SqT.of g, SqT.of g2, Nat.le_of_lt (small1000 (by omega)), fun z => ?_, fun _ z => ?_, fun _ _ p3 n3 => ?_⟩
  · subst z
    cases hts
    exact h p2 H (Same.refl _) hp2
  · subst z
    cases hts2
    rw [List.append_nil] at h
    exact h p H (Same.refl _) hp
  · exact h p3 _ (same_new n3) ⟨_, upd_same, items_same (same_new n3) (paired_app hts hts2)⟩
theorem bd_app {ts us : List Itm} (h : ∀ t ∈ ts, ItB t) (g : ∀ t ∈ us, ItB t) : ∀ t ∈ ts ++ us, ItB t := fun t ht => (List.mem_append.mp ht).elim (h t) (g t)
def spOddStep : Sp := fun vs H Q _ => ∃ (b sb p : Addr) (ts : List Itm), vs = [.ref b, .ref p] ∧ Bag H b sb ∧ StepAt H p ts ∧ 0 < ts.length ∧ ts.length ≤ 5 ∧ (∀ t ∈ ts, ItB t) ∧ ∀ p' ts' H', ts'.length ≤ 10 → (∀ t ∈ ts', ItB t) → StepAt H' p' ts' → Bag H' b sb → Keep b H H' → Q (.ref p') H'
theorem ok_odd_step (T : Txt K mg) : FnOk P w K mg base CX0 3 T.f_odd_step T.d_odd_step ["_law_bag", "_law_step_z"] spOddStep := by
  refine T.F_odd_step.ok sc_odd_step (fun vs H Q E h => ?_) (fun cdv A outer s H vs Q E hr h => ?_)
  · obtain ⟨b, sb, p, ts, rfl, _⟩ := h
    rfl
  · obtain ⟨b, sb, p, ts, rfl, B, ⟨vs, hp, hts⟩, l0, l5, lb, q⟩ := h
    refine ⟨_, (pss_cons (ps_set (i := 2) sc_odd_step.nd rfl (Or.inl rfl) (pe_call (ok_pull T) (hr.mono (by decide)) (by rfl) T.g_pull T.F_pull.kp T.b_pull .nil pass0 (pa_cons (pv 0) (pa_cons (pe_callB call_len_seq (by rfl) T.n_len (by decide +kernel) (pa_cons (pv 1) pa_nil)) pa_nil))))
      (pss_cons (ps_set (i := 3) sc_odd_step.nd rfl (Or.inl rfl) (pe_call (ok_pull T) (hr.mono (by decide)) (by rfl) T.g_pull T.F_pull.kp T.b_pull .nil pass0 (pa_cons (pv 0) (pa_cons pe_int pa_nil))))
      (pss_cons (ps_set (i := 4) sc_odd_step.nd rfl (Or.inl rfl) (pe_lst (pa_cons pe_str (pa_cons pe_str (pa_cons pe_str (pa_cons pe_str (pa_cons pe_str (pa_cons pe_int (pa_cons pe_int (pa_cons pe_int (pa_cons (pe_un un_neg pe_int) (pa_cons (pe_tup (pa_cons pe_int (pa_cons pe_int pa_nil))) (pa_cons (pe_tup (pa_cons pe_int (pa_cons pe_int pa_nil))) (pa_cons (pe_tup (pa_cons (pe_tup (pa_cons pe_int (pa_cons pe_int pa_nil))) (pa_cons (pe_tup (pa_cons pe_int (pa_cons pe_int pa_nil))) pa_nil))) (pa_cons (pe_tup (pa_cons (pe_tup (pa_cons (pe_un un_neg pe_int) (pa_cons pe_int pa_nil))) (pa_cons (pe_tup (pa_cons pe_int (pa_cons pe_int pa_nil))) pa_nil))) pa_nil)))))))))))))))
      (pss_cons (ps_if (pt_cmpR op_eq (pv 3) pe_int (nomark _)) (pss_one (ps_ret (pe_op op_catA (pe_slice sl_tupA (pv 1) po_none (po_some (pv 2))) (pe_slice sl_tupA (pv 1) (po_some (pe_op op_add (pv 2) pe_int)) po_none)))) pss_nil)
      (pss_cons (ps_if (pt_cmpR op_eq (pv 3) pe_int (nomark _)) (pss_one (ps_ret (pe_op op_catA (pe_op op_catA (pe_slice sl_tupA (pv 1) po_none (po_some (pv 2))) (pe_tup (pa_cons (pe_call (ok_of T) (hr.mono (by decide)) (by rfl) T.g_of T.F_of.kp T.b_of .nil pass0 (pa_cons (pv 0) (pa_cons (pv 4) pa_nil))) pa_nil))) (pe_slice sl_tupA (pv 1) (po_some (pv 2)) po_none)))) pss_nil)
      (pss_one (ps_ret (pe_op op_catA (pe_op op_catA (pe_slice sl_tupA (pv 1) po_none (po_some (pv 2))) (pe_tup (pa_cons (pe_call (ok_of T) (hr.mono (by decide)) (by rfl) T.g_of T.F_of.kp T.b_of .nil pass0 (pa_cons (pv 0) (pa_cons (pv 4) pa_nil))) pa_nil))) (pe_slice sl_tupA (pv 1) (po_some (pe_op op_add (pv 2) pe_int)) po_none))))))))), ?_⟩
    have hl := Paired.length hts
    refine ⟨.ref b, rfl, _, rfl, p, vs, rfl, .inr (SqT.of hp), b, sb, _, rfl, B, (by show (0 : Int) < (vs.length : Int); omega), Nat.lt_of_le_of_lt (show (vs.length : Int).natAbs ≤ 5 by omega) (by decide), fun at_ H1 a0 a1 B1 k1 => ?_⟩
    refine ⟨.ref b, rfl, b, sb, 4, rfl, B1, by decide, by decide, fun wy H2 w0 w1 B2 k2 => ?_⟩
    refine ⟨3, rfl, by show 2 ≤ sizeLine; decide, fun p1 n1 => ⟨by show 2 ≤ sizeLine; decide, fun p2 n2 => ⟨by show 2 ≤ sizeLine; decide, fun p3 n3 => ⟨by show 2 ≤ sizeLine; decide, fun p4 n4 => ⟨by show 2 ≤ sizeLine; decide, fun p5 n5 => ⟨1, rfl, by show 2 ≤ sizeLine; decide, fun p6 n6 => ⟨by show 2 ≤ sizeLine; decide, fun p7 n7 => ⟨by show 2 ≤ sizeLine; decide, fun p8 n8 => ⟨by show 13 ≤ sizeLine; decide, fun l nl => ?_⟩⟩⟩⟩⟩⟩⟩⟩⟩
    have e1 := same_new (o := .tup [.int 1, .int 0]) n1
    have e2 := same_new (o := .tup [.int 0, .int 0]) n2
    have e3 := same_new (o := .tup [.int 1, .int 0]) n3
    have e4 := same_new (o := .tup [.int 0, .int 1]) n4
    have e5 := same_new (o := .tup [.ref p3, .ref p4]) n5
    have e6 := same_new (o := .tup [.int (-1), .int 0]) n6
    have e7 := same_new (o := .tup [.int 0, .int 0]) n7
    have e8 := same_new (o := .tup [.ref p6, .ref p7]) n8
    have e9 := same_new (o := .lst [.str "saw", .str "Saw", .str "across", .str "along", .str "", .int 0, .int 1, .int 2, .int (-3), .ref p1, .ref p2, .ref p5, .ref p8]) nl
    have eG : Same H2 (upd (upd (upd (upd (upd (upd (upd (upd (upd H2 p1 (.tup [.int 1, .int 0])) p2 (.tup [.int 0, .int 0])) p3 (.tup [.int 1, .int 0])) p4 (.tup [.int 0, .int 1])) p5 (.tup [.ref p3, .ref p4])) p6 (.tup [.int (-1), .int 0])) p7 (.tup [.int 0, .int 0])) p8 (.tup [.ref p6, .ref p7])) l (.lst [.str "saw", .str "Saw", .str "across", .str "along", .str "", .int 0, .int 1, .int 2, .int (-3), .ref p1, .ref p2, .ref p5, .ref p8])) := (e1.trans (e2.trans (e3.trans (e4.trans (e5.trans (e6.trans (e7.trans (e8.trans e9))))))))
    have g1 := (e2.trans (e3.trans (e4.trans (e5.trans (e6.trans (e7.trans (e8.trans e9))))))) _ _ upd_same
    have g2 := (e3.trans (e4.trans (e5.trans (e6.trans (e7.trans (e8.trans e9)))))) _ _ upd_same
    have g3 := (e4.trans (e5.trans (e6.trans (e7.trans (e8.trans e9))))) _ _ upd_same
    have g4 := (e5.trans (e6.trans (e7.trans (e8.trans e9)))) _ _ upd_same
    have g5 := (e6.trans (e7.trans (e8.trans e9))) _ _ upd_same
    have g6 := (e7.trans (e8.trans e9)) _ _ upd_same
    have g7 := (e8.trans e9) _ _ upd_same
    have g8 := e9 _ _ upd_same
    have hL : (upd (upd (upd (upd (upd (upd (upd (upd (upd H2 p1 (.tup [.int 1, .int 0])) p2 (.tup [.int 0, .int 0])) p3 (.tup [.int 1, .int 0])) p4 (.tup [.int 0, .int 1])) p5 (.tup [.ref p3, .ref p4])) p6 (.tup [.int (-1), .int 0])) p7 (.tup [.int 0, .int 0])) p8 (.tup [.ref p6, .ref p7])) l (.lst [.str "saw", .str "Saw", .str "across", .str "along", .str "", .int 0, .int 1, .int 2, .int (-3), .ref p1, .ref p2, .ref p5, .ref p8])) l = some (.lst [.str "saw", .str "Saw", .str "across", .str "along", .str "", .int 0, .int 1, .int 2, .int (-3), .ref p1, .ref p2, .ref p5, .ref p8]) := upd_same
    have nb : l ≠ b := ((((((((B2.same e1).same e2).same e3).same e4).same e5).same e6).same e7).same e8).ne nl
    generalize (upd (upd (upd (upd (upd (upd (upd (upd (upd H2 p1 (.tup [.int 1, .int 0])) p2 (.tup [.int 0, .int 0])) p3 (.tup [.int 1, .int 0])) p4 (.tup [.int 0, .int 1])) p5 (.tup [.ref p3, .ref p4])) p6 (.tup [.int (-1), .int 0])) p7 (.tup [.int 0, .int 0])) p8 (.tup [.ref p6, .ref p7])) l (.lst [.str "saw", .str "Saw", .str "across", .str "along", .str "", .int 0, .int 1, .int 2, .int (-3), .ref p1, .ref p2, .ref p5, .ref p8])) = H3 at g1 g2 g3 g4 g5 g6 g7 g8 eG hL ⊢
    have its : ∀ (i : Nat) (v : V), ([.str "saw", .str "Saw", .str "across", .str "along", .str "", .int 0, .int 1, .int 2, .int (-3), .ref p1, .ref p2, .ref p5, .ref p8] : List V)[i]? = some v → ∃ t, ItB t ∧ ItAt H3 v t := by
      intro i v hv
      have hv := List.mem_of_getElem? hv
      simp only [List.mem_cons, List.not_mem_nil, or_false] at hv
      rcases hv with rfl | rfl | rfl | rfl | rfl | rfl | rfl | rfl | rfl | rfl | rfl | rfl | rfl
      · exact ⟨.str "saw", trivial, rfl, by decide +kernel⟩
      · exact ⟨.str "Saw", trivial, rfl, by decide +kernel⟩
      · exact ⟨.str "across", trivial, rfl, by decide +kernel⟩
      · exact ⟨.str "along", trivial, rfl, by decide +kernel⟩
      · exact ⟨.str "", trivial, rfl, by decide +kernel⟩
      · exact ⟨.int 0, (show Int.natAbs 0 ≤ 100 by decide), rfl⟩
      · exact ⟨.int 1, (show Int.natAbs 1 ≤ 100 by decide), rfl⟩
      · exact ⟨.int 2, (show Int.natAbs 2 ≤ 100 by decide), rfl⟩
      · exact ⟨.int (-3), (show Int.natAbs (-3) ≤ 100 by decide), rfl⟩
      · exact ⟨.pair 1 0, (by unfold ItB; decide), p1, rfl, g1⟩
      · exact ⟨.pair 0 0, (by unfold ItB; decide), p2, rfl, g2⟩
      · exact ⟨.sheet (1, 0, 0, 1), (by unfold ItB; decide), p5, rfl, p3, p4, g5, g3, g4⟩
      · exact ⟨.sheet (-1, 0, 0, 0), (by unfold ItB; decide), p8, rfl, p6, p7, g8, g6, g7⟩
    clear g1 g2 g3 g4 g5 g6 g7 g8 e1 e2 e3 e4 e5 e6 e7 e8 e9 nl n8 n7 n6 n5 n4 n3 n2 n1
    have B3 := B2.same eG
    have k3 : Keep b H H3 := k1.trans (k2.trans (keep_of eG))
    have hS : StepAt H3 p ts := StepAt.mono (tup_keep B k3) ⟨vs, hp, hts⟩
    obtain ⟨n, rfl⟩ := Int.eq_ofNat_of_zero_le a0
    have n5 : n < ts.length := by omega
    have c1 : HT.sIx ts.length ts.length (some (n : Int)) - HT.sIx ts.length 0 none ≤ 4 := by
      rw [HT.sIx_nat, HT.sIx_none]
      omega
    have c2 : ∀ o, HT.sIx ts.length ts.length none - HT.sIx ts.length 0 o ≤ 5 := fun o => by
      rw [HT.sIx_none]
      omega
    by_cases y0 : wy = 0
    · refine use_eqc (b := true) rfl rfl (congrArg V.bl (by rw [dV', decide_eq_true y0])) (iteT ?_)
      refine ⟨_, rfl, _, rfl, (n : Int), rfl, sl_step hS c1 fun q1 ts1 H4 s4 h4 l4 m4 => ⟨_, rfl, _, rfl, _, 1, rfl, rfl, _, rfl, ?_⟩⟩
      unfold tNoPart
      refine sl_step (hS.same s4) (c2 _) fun q2 ts2 H5 s5 h5 l5' m5' => cat_step (h4.same s5) h5 (by omega) fun q3 H6 s6 h6 => ?_
      have ss := s4.trans (s5.trans s6)
      exact q q3 _ H6 (by rw [List.length_append]; omega) (bd_app (fun t z => lb t (m4 t z)) (fun t z => lb t (m5' t z))) h6 (B3.same ss) (k3.trans (keep_of ss))
    refine use_eqc (b := false) rfl rfl (congrArg V.bl (by rw [dV', decide_eq_false y0])) (iteF ?_)
    have one : ∀ (v : V) (H5 : Hp) (p5 : Addr) (t : Itm), H5 p5 = none → ItAt H5 v t → StepAt (upd H5 p5 (.tup [v])) p5 [t] := fun v H5 p5 t n5 ht => ⟨[v], upd_same, .cons (ht.same (same_new n5)) .nil⟩
    by_cases y1 : wy = 1
    · refine use_eqc (b := true) rfl rfl (congrArg V.bl (by rw [dV', decide_eq_true y1])) (iteT ?_)
      refine ⟨_, rfl, _, rfl, (n : Int), rfl, sl_step hS c1 fun q1 ts1 H4 s4 h4 l4 m4 => ?_⟩
      refine ⟨.ref b, rfl, .ref l, rfl, b, sb, l, _, rfl, B3.same s4, s4 _ _ hL, nb, by simp, by simp, fun i v H5 hv B5 k5 => ⟨by show 1 ≤ sizeLine; decide, fun p5 m5 => ?_⟩⟩
      have k35 : Keep b H3 H5 := (keep_of s4).trans k5
      obtain ⟨t, tb, ht⟩ := its i v hv
      have ht5 : ItAt H5 v t := ht.mono (tup_keep B3 k35)
      have h15 : StepAt H5 q1 ts1 := h4.mono (tup_keep (B3.same s4) k5)
      have s6 := same_new (o := .tup [v]) m5
      refine cat_step (h15.same s6) (one v H5 p5 t m5 ht5) (by rw [List.length_singleton]; omega) fun q6 H6 s6' h6 => ⟨_, rfl, _, rfl, (n : Int), rfl, ?_⟩
      unfold tNoPart
      have hS6 : StepAt H6 p ts := (hS.mono (tup_keep B3 k35)).same (s6.trans s6')
      refine sl_step hS6 (c2 _) fun q7 ts7 H7 s7 h7 l7 m7 => cat_step (h6.same s7) h7 (by rw [List.length_append, List.length_singleton]; omega) fun q8 H8 s8 h8 => ?_
      have ss := s6.trans (s6'.trans (s7.trans s8))
      exact q q8 _ H8 (by rw [List.length_append, List.length_append, List.length_singleton]; omega) (bd_app (bd_app (fun t z => lb t (m4 t z)) (fun u z => by rw [List.mem_singleton.mp z]; exact tb)) (fun t z => lb t (m7 t z))) h8 (B5.same ss) (k3.trans (k35.trans (keep_of ss)))
    · refine use_eqc (b := false) rfl rfl (congrArg V.bl (by rw [dV', decide_eq_false y1])) (iteF ?_)
      refine ⟨_, rfl, _, rfl, (n : Int), rfl, sl_step hS c1 fun q1 ts1 H4 s4 h4 l4 m4 => ?_⟩
      refine ⟨.ref b, rfl, .ref l, rfl, b, sb, l, _, rfl, B3.same s4, s4 _ _ hL, nb, by simp, by simp, fun i v H5 hv B5 k5 => ⟨by show 1 ≤ sizeLine; decide, fun p5 m5 => ?_⟩⟩
      have k35 : Keep b H3 H5 := (keep_of s4).trans k5
      obtain ⟨t, tb, ht⟩ := its i v hv
      have ht5 : ItAt H5 v t := ht.mono (tup_keep B3 k35)
      have h15 : StepAt H5 q1 ts1 := h4.mono (tup_keep (B3.same s4) k5)
      have s6 := same_new (o := .tup [v]) m5
      refine cat_step (h15.same s6) (one v H5 p5 t m5 ht5) (by rw [List.length_singleton]; omega) fun q6 H6 s6' h6 => ⟨_, rfl, _, rfl, _, 1, rfl, rfl, _, rfl, ?_⟩
      unfold tNoPart
      have hS6 : StepAt H6 p ts := (hS.mono (tup_keep B3 k35)).same (s6.trans s6')
      refine sl_step hS6 (c2 _) fun q7 ts7 H7 s7 h7 l7 m7 => cat_step (h6.same s7) h7 (by rw [List.length_append, List.length_singleton]; omega) fun q8 H8 s8 h8 => ?_
      have ss := s6.trans (s6'.trans (s7.trans s8))
      exact q q8 _ H8 (by rw [List.length_append, List.length_append, List.length_singleton]; omega) (bd_app (bd_app (fun t z => lb t (m4 t z)) (fun u z => by rw [List.mem_singleton.mp z]; exact tb)) (fun t z => lb t (m7 t z))) h8 (B5.same ss) (k3.trans (k35.trans (keep_of ss)))
end
/-! ### lists of steps as data -/
section
variable {base : Heap} {K : PySem.W.Frag} {mg : Str → Option Value} {P : Program} {w : World}
def StepsL (H : Hp) (l : Addr) (ss : List (List Itm)) : Prop := ∃ as : List Addr, H l = some (.lst (as.map V.ref)) ∧ Paired (StepAt H) as ss
theorem paired_snoc {H H' : Hp} {as : List Addr} {ss : List (List Itm)} {t : Addr} {x : List Itm} (k : ∀ p xs, H p = some (.tup xs) → H' p = some (.tup xs)) (h : Paired (StepAt H) as ss) (ht : StepAt H' t x) : Paired (StepAt H') (as ++ [t]) (ss ++ [x]) := by
  induction h with
  | nil => exact .cons ht .nil
  | cons r _ ih => exact .cons (r.mono k) ih
theorem steps_mono {H H' : Hp} {as : List Addr} {ss : List (List Itm)} (k : ∀ p xs, H p = some (.tup xs) → H' p = some (.tup xs)) (h : Paired (StepAt H) as ss) : Paired (StepAt H') as ss := by
  induction h with
  | nil => exact .nil
  | cons r _ ih => exact .cons (r.mono k) ih
theorem StepsL.mono {H H' : Hp} {l : Addr} {ss : List (List Itm)} (h : StepsL H l ss) (k : ∀ xs, H l = some (.lst xs) → H' l = some (.lst xs)) (t : ∀ p xs, H p = some (.tup xs) → H' p = some (.tup xs)) : StepsL H' l ss := by
  obtain ⟨as, h1, h2⟩ := h
  exact ⟨as, k _ h1, steps_mono t h2⟩
theorem StepsL.same {H H' : Hp} {l : Addr} {ss : List (List Itm)} (h : StepsL H l ss) (s : Same H H') : StepsL H' l ss := h.mono (fun _ z => s _ _ z) fun _ _ z => s _ _ z
theorem StepsL.keep {H H' : Hp} {b sb l : Addr} {ss : List (List Itm)} (h : StepsL H l ss) (B : Bag H b sb) (n : l ≠ b) (k : Keep b H H') : StepsL H' l ss := h.mono (fun _ z => k _ _ n z) (tup_keep B k)
theorem StepsL.put {H : Hp} {l : Addr} {ss : List (List Itm)} {t : Addr} {x : List Itm} {as : List Addr} (h1 : H l = some (.lst (as.map V.ref))) (h2 : Paired (StepAt H) as ss) (ht : StepAt H t x) : StepsL (upd H l (.lst (as.map V.ref ++ [.ref t]))) l (ss ++ [x]) :=
  ⟨as ++ [t], by rw [upd_same, List.map_append]; rfl, paired_snoc (tup_put h1) h2 (ht.mono (tup_put h1))⟩
end
abbrev qn : Str := "law" ++ ".<locals>." ++ "<lambda>"
section
variable {base : Heap} {K : PySem.W.Frag} {mg : Str → Option Value} {w : World}
theorem raised_step (T : Txt K mg) {Q : VK} {d : Addr} {Hf : Hp} {n : Nat} (hd : Hf d = some (.xd (badStep n))) (q : Told Q "BadStep" (.int n) Hf) : Raised K T.r_GrainError Q (.ref T.e_BadStep.C) (some d) Hf := by
  obtain ⟨cg, hg, _⟩ := T.c_GrainError
  exact raised_er T.e_BadStep hg T.t_GrainError T.sb_GrainError (no_two T.x_BadStep_at T.x_BadStep_word) rfl rfl hd q
def stepD (ts : List Itm) : PyData := .tuple (ts.map itD)
theorem step_dp {H : Hp} {p : Addr} {ts : List Itm} (h : StepAt H p ts) : Dp K H (.ref p) (stepD ts) := by
  obtain ⟨vs, h1, h2⟩ := h
  refine .tup (SqT.of h1) ?_
  clear h1
  induction h2 with
  | nil => exact .nil
  | cons r _ ih => exact .cons r.dp ih
theorem StepsL.dp {H : Hp} {l : Addr} {ss : List (List Itm)} (h : StepsL H l ss) : Dp K H (.ref l) (.list (ss.map stepD)) := by
  obtain ⟨as, h1, h2⟩ := h
  refine .lst (SqL.of h1) ?_
  clear h1
  induction h2 with
  | nil => exact .nil
  | cons r _ ih => exact .cons (step_dp r) ih
def Known (ts : List Itm) : Prop := ∀ s, Itm.str s ∈ ts → s ∈ words
theorem StepAt.known {H : Hp} {p : Addr} {ts : List Itm} (h : StepAt H p ts) : Known ts := by
  obtain ⟨vs, g, h2⟩ := h
  clear g
  induction h2 with
  | nil => exact fun s hs => by cases hs
  | cons r _ ih =>
    intro s hs
    rcases List.mem_cons.mp hs with rfl | hs
    · exact r.2
    · exact ih s hs
theorem StepsL.known {H : Hp} {l : Addr} {ss : List (List Itm)} (h : StepsL H l ss) : ∀ ts ∈ ss, Known ts := by
  obtain ⟨as, g, h2⟩ := h
  clear g
  induction h2 with
  | nil => exact fun ts h => by cases h
  | cons r _ ih =>
    intro ts h
    rcases List.mem_cons.mp h with rfl | h
    · exact r.known
    · exact ih ts h
theorem StepsL.extN {H H' : Hp} {l : Addr} {ss : List (List Itm)} (h : StepsL H l ss) (e : LamX.ExtN H H') : StepsL H' l ss := h.mono (fun _ z => lst_extN z e) fun _ _ z => tup_extN z e
theorem StepsL.handed {H : Hp} {l : Addr} {ss : List (List Itm)} (h : StepsL H l ss) : HandedS K H (.ref l) ss := by
  obtain ⟨as, h1, h2⟩ := h
  exact .list (SqL.of h1) h2
abbrev rTup (K : PySem.W.Frag) : List V → Hp → VK → Prop := fun xs H Q => ∃ p ys, xs = [V.ref p] ∧ ((SqL K H p ys ∧ ∀ l : Addr, H l = none → Q (V.ref l) (upd H l (.tup ys))) ∨ SqT K H p ys ∧ Q (V.ref p) H)
theorem PE.to {X : Cx} {e : Expr} {t t' : TE} (h : PE X e t) (q : t = t') : PE X e t' := q ▸ h
end
/-! ### the reverse of a step, by the program -/
def withS (x : Sh) (s : Str) (p : Int × Int) : Sh := if s = "across" then (p.1, p.2, x.2.2.1, x.2.2.2) else (x.1, x.2.1, p.1, p.2)
def restS (x : Sh) (s : Str) (a b : Int) : Int × Int := ((sideOf x s).1 - a, (sideOf x s).2 - b)
def revI : List Itm → List Itm
  | [.str _, .sheet x, .str s, .pair a b, .int c] => [.str "glue", .sheet (withS x s (a, b)), .sheet (withS x s (restS x s a b)), .str s, .int c]
  | [.str _, .sheet x, .sheet y, .str s, .int c] => [.str "saw", .sheet (withS x s ((sideOf x s).1 + (sideOf y s).1, (sideOf x s).2 + (sideOf y s).2)), .str s, .pair (sideOf x s).1 (sideOf x s).2, .int c]
  | [.str w, .sheet x, .str s, .int n, .int c] => if w = "split" then [.str "stack", .sheet (withS x s ((sideOf x s).1 / n, (sideOf x s).2 / n)), .str s, .int n, .int c] else [.str "split", .sheet (withS x s ((sideOf x s).1 * n, (sideOf x s).2 * n)), .str s, .int n, .int c]
  | [.str _, .sheet x, .int c] => [.str "turn", .sheet (turnS x), .int c]
  | ts => ts
theorem rev_four {w s : Str} {x : Sh} {n c : Int} : revI [.str w, .sheet x, .str s, .int n, .int c] = if w = "split" then [.str "stack", .sheet (withS x s ((sideOf x s).1 / n, (sideOf x s).2 / n)), .str s, .int n, .int c] else [.str "split", .sheet (withS x s ((sideOf x s).1 * n, (sideOf x s).2 * n)), .str s, .int n, .int c] := rfl
theorem rev_split {x : Sh} {s : Str} {n c : Int} : revI [.str "split", .sheet x, .str s, .int n, .int c] = [.str "stack", .sheet (withS x s ((sideOf x s).1 / n, (sideOf x s).2 / n)), .str s, .int n, .int c] := rev_four.trans (if_pos rfl)
theorem rev_stack {x : Sh} {s : Str} {n c : Int} : revI [.str "stack", .sheet x, .str s, .int n, .int c] = [.str "split", .sheet (withS x s ((sideOf x s).1 * n, (sideOf x s).2 * n)), .str s, .int n, .int c] := rev_four.trans (if_neg (by decide +kernel))
theorem rev_saw {w s : Str} {x : Sh} {a b c : Int} : revI [.str w, .sheet x, .str s, .pair a b, .int c] = [.str "glue", .sheet (withS x s (a, b)), .sheet (withS x s (restS x s a b)), .str s, .int c] := rfl
theorem rev_glue {w s : Str} {x y : Sh} {c : Int} : revI [.str w, .sheet x, .sheet y, .str s, .int c] = [.str "saw", .sheet (withS x s ((sideOf x s).1 + (sideOf y s).1, (sideOf x s).2 + (sideOf y s).2)), .str s, .pair (sideOf x s).1 (sideOf x s).2, .int c] := rfl
theorem rev_turn {w : Str} {x : Sh} {c : Int} : revI [.str w, .sheet x, .int c] = [.str "turn", .sheet (turnS x), .int c] := rfl
/-- bounded items -/
def ItM (M N : Nat) : Itm → Prop
  | .str _ => True
  | .int n => n.natAbs ≤ N
  | .pair a b => a.natAbs ≤ M ∧ b.natAbs ≤ M
  | .sheet x => (x.1.natAbs ≤ M ∧ x.2.1.natAbs ≤ M) ∧ x.2.2.1.natAbs ≤ M ∧ x.2.2.2.natAbs ≤ M
theorem itB_n {t : Itm} (h : ItB t) : ItM (10 ^ 7) 100 t := by
  cases t <;> exact h
def ItG (t : Itm) : Prop := ItM (2 ^ 64) (2 ^ 29) t
theorem ItM.up {M N M' N' : Nat} {t : Itm} (h : ItM M N t) (h1 : M ≤ M') (h2 : N ≤ N') : ItM M' N' t := by
  cases t with
  | str s => trivial
  | int n => exact Nat.le_trans h h2
  | pair a b => exact ⟨Nat.le_trans h.1 h1, Nat.le_trans h.2 h1⟩
  | sheet x => exact ⟨⟨Nat.le_trans h.1.1 h1, Nat.le_trans h.1.2 h1⟩, Nat.le_trans h.2.1 h1, Nat.le_trans h.2.2 h1⟩
theorem side_n {M N : Nat} {x : Sh} {s : Str} (h : ItM M N (.sheet x)) : (sideOf x s).1.natAbs ≤ M ∧ (sideOf x s).2.natAbs ≤ M := by
  unfold ItM at h
  unfold sideOf
  split
  · exact h.1
  · exact h.2
theorem with_n {M N M' : Nat} {x : Sh} {s : Str} {p : Int × Int} (h : ItM M N (.sheet x)) (hp : p.1.natAbs ≤ M' ∧ p.2.natAbs ≤ M') (l : M ≤ M') : ItM M' N (.sheet (withS x s p)) := by
  unfold ItM at h ⊢
  unfold withS
  by_cases z : s = "across"
  · simp only [if_pos z]
    exact ⟨hp, Nat.le_trans h.2.1 l, Nat.le_trans h.2.2 l⟩
  · simp only [if_neg z]
    exact ⟨⟨Nat.le_trans h.1.1 l, Nat.le_trans h.1.2 l⟩, hp⟩
theorem nat_mul {a n : Int} {M N : Nat} (h : a.natAbs ≤ M) (g : n.natAbs ≤ N) : (a * n).natAbs ≤ M * (N + 2) := by
  rw [Int.natAbs_mul]
  exact Nat.mul_le_mul h (by omega)
theorem nat_two {a b : Int} {M N : Nat} (h : a.natAbs ≤ M) (g : b.natAbs ≤ M) : (a + b).natAbs ≤ M * (N + 2) ∧ (a - b).natAbs ≤ M * (N + 2) := by
  have : M * 2 ≤ M * (N + 2) := Nat.mul_le_mul (Nat.le_refl M) (by omega)
  omega
theorem nat_div {a n : Int} {M N : Nat} (h : a.natAbs ≤ M) (hn : 2 ≤ n) : (a / n).natAbs ≤ M * (N + 2) := by
  have : M * 2 ≤ M * (N + 2) := Nat.mul_le_mul (Nat.le_refl M) (by omega)
  have h1 : (a / n).natAbs ≤ a.natAbs + 1 := by
    have e := Int.mul_ediv_add_emod a n
    have m0 := Int.emod_nonneg a (show n ≠ 0 by omega)
    have m1 := Int.emod_lt_of_pos a (show 0 < n by omega)
    rcases Int.lt_trichotomy (a / n) 0 with z | z | z
    · have k : 2 * (-(a / n) - 1) ≤ n * (-(a / n) - 1) := Int.mul_le_mul_of_nonneg_right hn (by omega)
      rw [Int.mul_sub n, Int.mul_neg, Int.mul_one] at k
      omega
    · omega
    · have : 2 * (a / n) ≤ n * (a / n) := Int.mul_le_mul_of_nonneg_right hn (by omega)
      omega
  by_cases z : a = 0
  · rw [z]
    simp
  · have : 1 ≤ M := by omega
    omega
theorem rev_n {M N : Nat} {ts : List Itm} (h : Shaped ts) (b : ∀ t ∈ ts, ItM M N t) : ∀ t ∈ revI ts, ItM (M * (N + 2)) N t := by
  have l : M ≤ M * (N + 2) := Nat.le_mul_of_pos_right M (by omega)
  cases h with
  | @saw x s a b' c hs hc =>
    have bx : ItM M N (.sheet x) := b _ (by simp)
    have bp : ItM M N (.pair a b') := b _ (by simp)
    have bc : ItM M N (.int c) := b _ (by simp)
    obtain ⟨s1, s2⟩ := side_n (s := s) bx
    intro t ht
    simp only [rev_saw, List.mem_cons, List.not_mem_nil, or_false] at ht
    rcases ht with rfl | rfl | rfl | rfl | rfl
    · trivial
    · exact with_n bx ⟨Nat.le_trans bp.1 l, Nat.le_trans bp.2 l⟩ l
    · exact with_n bx ⟨(nat_two s1 bp.1).2, (nat_two s2 bp.2).2⟩ l
    · trivial
    · exact bc
  | @split x s n c hs hn hc =>
    have bx : ItM M N (.sheet x) := b _ (by simp)
    have bn : ItM M N (.int n) := b _ (by simp)
    have bc : ItM M N (.int c) := b _ (by simp)
    obtain ⟨s1, s2⟩ := side_n (s := s) bx
    rw [rev_split]
    intro t ht
    simp only [List.mem_cons, List.not_mem_nil, or_false] at ht
    rcases ht with rfl | rfl | rfl | rfl | rfl
    · trivial
    · exact with_n bx ⟨nat_div s1 hn, nat_div s2 hn⟩ l
    · trivial
    · exact bn
    · exact bc
  | @glue x y s c hs hc =>
    have bx : ItM M N (.sheet x) := b _ (by simp)
    have bY : ItM M N (.sheet y) := b _ (by simp)
    have bc : ItM M N (.int c) := b _ (by simp)
    obtain ⟨s1, s2⟩ := side_n (s := s) bx
    obtain ⟨s3, s4⟩ := side_n (s := s) bY
    intro t ht
    simp only [rev_glue, List.mem_cons, List.not_mem_nil, or_false] at ht
    rcases ht with rfl | rfl | rfl | rfl | rfl
    · trivial
    · exact with_n bx ⟨(nat_two s1 s3).1, (nat_two s2 s4).1⟩ l
    · trivial
    · exact ⟨Nat.le_trans s1 l, Nat.le_trans s2 l⟩
    · exact bc
  | @stack x s n c hs hn hc =>
    have bx : ItM M N (.sheet x) := b _ (by simp)
    have bn : ItM M N (.int n) := b _ (by simp)
    have bc : ItM M N (.int c) := b _ (by simp)
    obtain ⟨s1, s2⟩ := side_n (s := s) bx
    rw [rev_stack]
    intro t ht
    simp only [List.mem_cons, List.not_mem_nil, or_false] at ht
    rcases ht with rfl | rfl | rfl | rfl | rfl
    · trivial
    · exact with_n bx ⟨nat_mul s1 bn, nat_mul s2 bn⟩ l
    · trivial
    · exact bn
    · exact bc
  | @turn x c hc =>
    have bx : ItM M N (.sheet x) := b _ (by simp)
    have bc : ItM M N (.int c) := b _ (by simp)
    intro t ht
    simp only [rev_turn, List.mem_cons, List.not_mem_nil, or_false] at ht
    rcases ht with rfl | rfl | rfl
    · trivial
    · have : ItM M N (.sheet (turnS x)) := ⟨bx.2, bx.1⟩
      exact this.up l (Nat.le_refl N)
    · exact bc
section
variable {base : Heap} {K : PySem.W.Frag} {mg : Str → Option Value} {P : Program} {w : World}
def spWithP : Sp := fun vs H Q _ => ∃ (p r : Addr) (x : Sh) (s : Str) (a b : Int), vs = [.ref p, .str s, .ref r] ∧ ShAt H p x ∧ H r = some (.tup [.int a, .int b]) ∧ ∀ q H', Same H H' → ShAt H' q (withS x s (a, b)) → Q (.ref q) H'
theorem ok_with_side (T : Txt K mg) : FnOk P w K mg base CX0 1 T.f_with_side T.d_with_side ["sheet", "side", "pair"] spWithP := by
  refine T.F_with_side.ok sc_with_side (fun vs H Q E h => ?_) (fun cdv A outer s H vs Q E hr h => ?_)
  · obtain ⟨p, r, x, s, a, b, rfl, _⟩ := h
    rfl
  · obtain ⟨p, r, x, sd, a, b, rfl, ⟨u, v, h1, h2, h3⟩, hr', q⟩ := h
    refine ⟨_, (pss_cons (ps_asg (pv 0) (pg_tup (by rfl) (pgs_cons (pg_name (i := 3) sc_with_side.nd rfl (Or.inl rfl)) (pgs_cons (pg_name (i := 4) sc_with_side.nd rfl (Or.inl rfl)) pgs_nil))))
      (pss_one (ps_ret (pe_ifExp (pt_cmpR op_eq (pv 1) pe_str (nomark _)) (pe_tup (pa_cons (pv 2) (pa_cons (pv 4) pa_nil))) (pe_tup (pa_cons (pv 3) (pa_cons (pv 2) pa_nil))))))), ?_⟩
    refine ⟨_, rfl, p, _, rfl, SqT.of h1, rfl, .ref u, _, rfl, .ref v, _, rfl, rfl, _, rfl, rfl, ?_⟩
    unfold withS at q
    by_cases z : sd = "across"
    · refine ⟨true, by rw [z, decide_eq_true rfl], iteT ⟨_, rfl, _, rfl, by show 2 ≤ sizeLine; decide, fun t nt => ?_⟩⟩
      have e := same_new (o := .tup [.ref r, .ref v]) nt
      rw [if_pos z] at q
      exact q t _ e ⟨r, v, upd_same, e _ _ hr', e _ _ h3⟩
    · refine ⟨false, by rw [decide_eq_false fun e => z (V.str.inj e)], iteF ⟨_, rfl, _, rfl, by show 2 ≤ sizeLine; decide, fun t nt => ?_⟩⟩
      have e := same_new (o := .tup [.ref u, .ref r]) nt
      rw [if_neg z] at q
      exact q t _ e ⟨u, r, upd_same, e _ _ h2, e _ _ hr'⟩
theorem g64 {x : Int} (h : x.natAbs ≤ 2 ^ 64) : x.natAbs < 2 ^ 9000 := w100 (Nat.lt_of_le_of_lt h (by decide))
def spRest : Sp := fun vs H Q _ => ∃ (p : Addr) (x : Sh) (s : Str) (a b c : Int), vs = [.ref p] ∧ StepAt H p [.str "saw", .sheet x, .str s, .pair a b, .int c] ∧ ItG (.pair a b) ∧ NewPair H (restS x s a b).1 (restS x s a b).2 Q
theorem ok_rest_of_saw (T : Txt K mg) : FnOk P w K mg base CX0 2 T.f_rest_of_saw T.d_rest_of_saw ["step"] spRest := by
  refine T.F_rest_of_saw.ok sc_rest_of_saw (fun vs H Q E h => ?_) (fun cdv A outer s H vs Q E hr h => ?_)
  · obtain ⟨p, x, s, a, b, c, rfl, _⟩ := h
    rfl
  · obtain ⟨p, x, sd, a, b, c, rfl, ⟨vs, hp, hts⟩, gp, q⟩ := h
    refine ⟨_, (pss_cons (ps_asg (pv 0) (pg_tup (by rfl) (pgs_cons (pg_name (i := 1) sc_rest_of_saw.nd rfl (Or.inl rfl)) (pgs_cons (pg_name (i := 2) sc_rest_of_saw.nd rfl (Or.inl rfl)) (pgs_cons (pg_name (i := 3) sc_rest_of_saw.nd rfl (Or.inl rfl)) (pgs_cons (pg_name (i := 4) sc_rest_of_saw.nd rfl (Or.inl rfl)) (pgs_cons (pg_name (i := 5) sc_rest_of_saw.nd rfl (Or.inl rfl)) pgs_nil)))))))
      (pss_one (ps_ret (pe_callR (ok_added T) (hr.mono (by decide)) (by rfl) T.g_added T.F_added.kp pass0 (pa_cons (pe_call (ok_side_of T) (hr.mono (by decide)) (by rfl) T.g_side_of T.F_side_of.kp T.b_side_of .nil pass0 (pa_cons (pv 2) (pa_cons (pv 3) pa_nil))) (pa_cons (pe_call (ok_scaled T) (hr.mono (by decide)) (by rfl) T.g_scaled T.F_scaled.kp T.b_scaled .nil pass0 (pa_cons (pv 4) (pa_cons (pe_un un_neg pe_int) pa_nil))) pa_nil)))))), ?_⟩
    obtain ⟨v0, v1, v2, v3, v4, rfl, ⟨e0, _⟩, ⟨px, e1, hx⟩, ⟨e2, _⟩, ⟨r3, e3, h3⟩, h4⟩ := pin5 hts
    subst e0 e1 e2 e3
    cases (show v4 = .int c from h4)
    refine ⟨_, rfl, p, _, rfl, SqT.of hp, rfl, .str "saw", _, rfl, .ref px, _, rfl, .str sd, _, rfl, .ref r3, _, rfl, .int c, _, rfl, rfl, ?_⟩
    refine ⟨_, rfl, _, rfl, px, x, sd, rfl, hx, fun r hr0 => ?_⟩
    refine ⟨_, rfl, 1, rfl, .ref r3, a, b, -1, rfl, ⟨r3, rfl, SqT.of h3⟩, g64 gp.1, g64 gp.2, by decide, fun r4 H1 n4 k4 h4' => ?_⟩
    refine ⟨[((sideOf x sd).1, (sideOf x sd).2), (a * -1, b * -1)], .cons ⟨r, rfl, SqT.of (k4 _ _ hr0)⟩ (.cons ⟨r4, rfl, SqT.of h4'⟩ .nil), by simp, fun r5 H2 n5 k5 h5 => ?_⟩
    refine q r5 H2 (k4.free n5) (k4.trans k5) ?_
    rw [h5]
    simp only [s1, s2, List.map_cons, List.map_nil, List.sum_cons, List.sum_nil]
    unfold restS
    rw [show (sideOf x sd).1 + (a * -1 + 0) = (sideOf x sd).1 - a by omega, show (sideOf x sd).2 + (b * -1 + 0) = (sideOf x sd).2 - b by omega]
def spRev1 (wd : Str) : Sp := fun vs H Q _ => ∃ (p : Addr) (ts : List Itm), vs = [.ref p] ∧ StepAt H p ts ∧ Shaped ts ∧ (∃ r, ts = .str wd :: r) ∧ (∀ t ∈ ts, ItG t) ∧ ∀ q H', Same H H' → StepAt H' q (revI ts) → Q (.ref q) H'
theorem words5 {s : Str} (h : SideW s) : s ∈ words := side_word h
theorem ok_reverse_of_saw (T : Txt K mg) : FnOk P w K mg base CX0 3 T.f_reverse_of_saw T.d_reverse_of_saw ["step"] (spRev1 "saw") := by
  refine T.F_reverse_of_saw.ok sc_reverse_of_saw (fun vs H Q E h => ?_) (fun cdv A outer s H vs Q E hr h => ?_)
  · obtain ⟨p, ts, rfl, _⟩ := h
    rfl
  · obtain ⟨p, ts, rfl, hp, sh, ⟨r0, e0⟩, gb, q⟩ := h
    refine ⟨_, (pss_cons (ps_asg (pv 0) (pg_tup (by rfl) (pgs_cons (pg_name (i := 1) sc_reverse_of_saw.nd rfl (Or.inl rfl)) (pgs_cons (pg_name (i := 2) sc_reverse_of_saw.nd rfl (Or.inl rfl)) (pgs_cons (pg_name (i := 3) sc_reverse_of_saw.nd rfl (Or.inl rfl)) (pgs_cons (pg_name (i := 4) sc_reverse_of_saw.nd rfl (Or.inl rfl)) (pgs_cons (pg_name (i := 5) sc_reverse_of_saw.nd rfl (Or.inl rfl)) pgs_nil)))))))
      (pss_one (ps_ret (pe_tup (pa_cons pe_str (pa_cons (pe_call (ok_with_side T) (hr.mono (by decide)) (by rfl) T.g_with_side T.F_with_side.kp T.b_with_side .nil pass0 (pa_cons (pv 2) (pa_cons (pv 3) (pa_cons (pv 4) pa_nil)))) (pa_cons (pe_call (ok_with_side T) (hr.mono (by decide)) (by rfl) T.g_with_side T.F_with_side.kp T.b_with_side .nil pass0 (pa_cons (pv 2) (pa_cons (pv 3) (pa_cons (pe_call (ok_rest_of_saw T) (hr.mono (by decide)) (by rfl) T.g_rest_of_saw T.F_rest_of_saw.kp T.b_rest_of_saw .nil pass0 (pa_cons (pv 0) pa_nil)) pa_nil)))) (pa_cons (pv 3) (pa_cons (pv 5) pa_nil))))))))), ?_⟩
    cases sh with
    | @saw x sd a b c hs hc =>
      have hp0 := hp
      obtain ⟨vs, hp, hts⟩ := hp
      obtain ⟨v0, v1, v2, v3, v4, rfl, ⟨e0, _⟩, ⟨px, e1, hx⟩, ⟨e2, _⟩, ⟨r3, e3, h3⟩, h4⟩ := pin5 hts
      subst e0 e1 e2 e3
      cases (show v4 = .int c from h4)
      refine ⟨_, rfl, p, _, rfl, SqT.of hp, rfl, .str "saw", _, rfl, .ref px, _, rfl, .str sd, _, rfl, .ref r3, _, rfl, .int c, _, rfl, rfl, ?_⟩
      refine ⟨_, rfl, _, rfl, _, rfl, px, r3, x, sd, a, b, rfl, hx, h3, fun y1 H1 k1 hy1 => ?_⟩
      refine ⟨_, rfl, _, rfl, _, rfl, p, x, sd, a, b, c, rfl, hp0.same k1, gb _ (by simp), fun r4 H2 n4 k2 h4 => ?_⟩
      refine ⟨px, r4, x, sd, _, _, rfl, (hx.same k1).same k2, h4, fun y2 H3 k3 hy2 => ⟨_, rfl, _, rfl, by show 5 ≤ sizeLine; decide, fun t nt => ?_⟩⟩
      have e := same_new (o := .tup [.str "glue", .ref y1, .ref y2, .str sd, .int c]) nt
      exact q t _ (k1.trans (k2.trans (k3.trans e))) ⟨_, upd_same, .cons ⟨rfl, by decide +kernel⟩ (.cons ⟨y1, rfl, ((hy1.same k2).same k3).same e⟩ (.cons ⟨y2, rfl, hy2.same e⟩ (.cons ⟨rfl, words5 hs⟩ (.cons rfl .nil))))⟩
    | _ => exact absurd e0 (by intro z; injection z with z _; injection z with z; revert z; decide +kernel)
theorem ok_reverse_of_glue (T : Txt K mg) : FnOk P w K mg base CX0 2 T.f_reverse_of_glue T.d_reverse_of_glue ["step"] (spRev1 "glue") := by
  refine T.F_reverse_of_glue.ok sc_reverse_of_glue (fun vs H Q E h => ?_) (fun cdv A outer s H vs Q E hr h => ?_)
  · obtain ⟨p, ts, rfl, _⟩ := h
    rfl
  · obtain ⟨p, ts, rfl, hp, sh, ⟨r0, e0⟩, gb, q⟩ := h
    refine ⟨_, (pss_cons (ps_asg (pv 0) (pg_tup (by rfl) (pgs_cons (pg_name (i := 2) sc_reverse_of_glue.nd rfl (Or.inl rfl)) (pgs_cons (pg_name (i := 3) sc_reverse_of_glue.nd rfl (Or.inl rfl)) (pgs_cons (pg_name (i := 4) sc_reverse_of_glue.nd rfl (Or.inl rfl)) (pgs_cons (pg_name (i := 5) sc_reverse_of_glue.nd rfl (Or.inl rfl)) (pgs_cons (pg_name (i := 6) sc_reverse_of_glue.nd rfl (Or.inl rfl)) pgs_nil)))))))
      (pss_cons (ps_set (i := 1) sc_reverse_of_glue.nd rfl (Or.inl rfl) (pe_call (ok_side_of T) (hr.mono (by decide)) (by rfl) T.g_side_of T.F_side_of.kp T.b_side_of .nil pass0 (pa_cons (pv 3) (pa_cons (pv 5) pa_nil))))
      (pss_one (ps_ret (pe_tup (pa_cons pe_str (pa_cons (pe_call (ok_with_side T) (hr.mono (by decide)) (by rfl) T.g_with_side T.F_with_side.kp T.b_with_side .nil pass0 (pa_cons (pv 3) (pa_cons (pv 5) (pa_cons (pe_callR (ok_added T) (hr.mono (by decide)) (by rfl) T.g_added T.F_added.kp pass0 (pa_cons (pv 1) (pa_cons (pe_call (ok_side_of T) (hr.mono (by decide)) (by rfl) T.g_side_of T.F_side_of.kp T.b_side_of .nil pass0 (pa_cons (pv 4) (pa_cons (pv 5) pa_nil))) pa_nil))) pa_nil)))) (pa_cons (pv 5) (pa_cons (pv 1) (pa_cons (pv 6) pa_nil)))))))))), ?_⟩
    cases sh with
    | @glue x y sd c hs hc =>
      obtain ⟨vs, hp, hts⟩ := hp
      obtain ⟨v0, v1, v2, v3, v4, rfl, ⟨e0, _⟩, ⟨px, e1, hx⟩, ⟨py, e2, hy⟩, ⟨e3, _⟩, h4⟩ := pin5 hts
      subst e0 e1 e2 e3
      cases (show v4 = .int c from h4)
      refine ⟨_, rfl, p, _, rfl, SqT.of hp, rfl, .str "glue", _, rfl, .ref px, _, rfl, .ref py, _, rfl, .str sd, _, rfl, .int c, _, rfl, rfl, ?_⟩
      refine ⟨_, rfl, _, rfl, px, x, sd, rfl, hx, fun r1 h1 => ?_⟩
      refine ⟨_, rfl, _, rfl, _, rfl, _, rfl, _, rfl, py, y, sd, rfl, hy, fun r2 h2 => ?_⟩
      refine ⟨[((sideOf x sd).1, (sideOf x sd).2), ((sideOf y sd).1, (sideOf y sd).2)], .cons ⟨r1, rfl, SqT.of h1⟩ (.cons ⟨r2, rfl, SqT.of h2⟩ .nil), by simp, fun r3 H1 n3 k1 h3 => ?_⟩
      have e3 : H1 r3 = some (.tup [.int ((sideOf x sd).1 + (sideOf y sd).1), .int ((sideOf x sd).2 + (sideOf y sd).2)]) := by
        rw [h3]
        simp [s1, s2]
      refine ⟨px, r3, x, sd, _, _, rfl, hx.same k1, e3, fun z H2 k2 hz => ⟨_, rfl, _, rfl, _, rfl, by show 5 ≤ sizeLine; decide, fun t nt => ?_⟩⟩
      have e := same_new (o := .tup [.str "saw", .ref z, .str sd, .ref r1, .int c]) nt
      exact q t _ (k1.trans (k2.trans e)) ⟨_, upd_same, .cons ⟨rfl, by decide +kernel⟩ (.cons ⟨z, rfl, hz.same e⟩ (.cons ⟨rfl, words5 hs⟩ (.cons ⟨r1, rfl, e _ _ (k2 _ _ (k1 _ _ h1))⟩ (.cons rfl .nil))))⟩
    | _ => exact absurd e0 (by intro z; injection z with z _; injection z with z; revert z; decide +kernel)
theorem ok_reverse_of_split (T : Txt K mg) : FnOk P w K mg base CX0 2 T.f_reverse_of_split T.d_reverse_of_split ["step"] (spRev1 "split") := by
  refine T.F_reverse_of_split.ok sc_reverse_of_split (fun vs H Q E h => ?_) (fun cdv A outer s H vs Q E hr h => ?_)
  · obtain ⟨p, ts, rfl, _⟩ := h
    rfl
  · obtain ⟨p, ts, rfl, hp, sh, ⟨r0, e0⟩, gb, q⟩ := h
    refine ⟨_, (pss_cons (ps_asg (pv 0) (pg_tup (by rfl) (pgs_cons (pg_name (i := 1) sc_reverse_of_split.nd rfl (Or.inl rfl)) (pgs_cons (pg_name (i := 2) sc_reverse_of_split.nd rfl (Or.inl rfl)) (pgs_cons (pg_name (i := 3) sc_reverse_of_split.nd rfl (Or.inl rfl)) (pgs_cons (pg_name (i := 4) sc_reverse_of_split.nd rfl (Or.inl rfl)) (pgs_cons (pg_name (i := 5) sc_reverse_of_split.nd rfl (Or.inl rfl)) pgs_nil)))))))
      (pss_cons (ps_asg (pe_call (ok_side_of T) (hr.mono (by decide)) (by rfl) T.g_side_of T.F_side_of.kp T.b_side_of .nil pass0 (pa_cons (pv 2) (pa_cons (pv 3) pa_nil))) (pg_tup (by rfl) (pgs_cons (pg_name (i := 6) sc_reverse_of_split.nd rfl (Or.inl rfl)) (pgs_cons (pg_name (i := 7) sc_reverse_of_split.nd rfl (Or.inl rfl)) pgs_nil))))
      (pss_one (ps_ret (pe_tup (pa_cons pe_str (pa_cons (pe_call (ok_with_side T) (hr.mono (by decide)) (by rfl) T.g_with_side T.F_with_side.kp T.b_with_side .nil pass0 (pa_cons (pv 2) (pa_cons (pv 3) (pa_cons (pe_tup (pa_cons (pe_op op_fdiv (pv 6) (pv 4)) (pa_cons (pe_op op_fdiv (pv 7) (pv 4)) pa_nil))) pa_nil)))) (pa_cons (pv 3) (pa_cons (pv 4) (pa_cons (pv 5) pa_nil)))))))))), ?_⟩
    cases sh with
    | @split x sd n c hs hn hc =>
      obtain ⟨vs, hp, hts⟩ := hp
      obtain ⟨v0, v1, v2, v3, v4, rfl, ⟨e0, _⟩, ⟨px, e1, hx⟩, ⟨e2, _⟩, h3, h4⟩ := pin5 hts
      subst e0 e1 e2
      cases (show v3 = .int n from h3)
      cases (show v4 = .int c from h4)
      have bn : ItG (.int n) := gb _ (by simp)
      have n2 : n < 1073741824 := by
        have : n.natAbs ≤ 2 ^ 29 := bn
        omega
      refine ⟨_, rfl, p, _, rfl, SqT.of hp, rfl, .str "split", _, rfl, .ref px, _, rfl, .str sd, _, rfl, .int n, _, rfl, .int c, _, rfl, rfl, ?_⟩
      refine ⟨_, rfl, _, rfl, px, x, sd, rfl, hx, fun r1 h1 => ⟨r1, _, rfl, SqT.of h1, rfl, .int _, _, rfl, .int _, _, rfl, rfl, ?_⟩⟩
      refine ⟨_, rfl, _, rfl, _, rfl, _, rfl, _, n, rfl, rfl, ⟨by omega, n2⟩, _, rfl, _, rfl, _, n, rfl, rfl, ⟨by omega, n2⟩, by show 2 ≤ sizeLine; decide, fun r2 nr2 => ?_⟩
      have k1 := same_new (o := .tup [.int ((sideOf x sd).1 / n), .int ((sideOf x sd).2 / n)]) nr2
      refine ⟨px, r2, x, sd, _, _, rfl, hx.same k1, upd_same, fun z H2 k2 hz => ⟨_, rfl, _, rfl, _, rfl, by show 5 ≤ sizeLine; decide, fun t nt => ?_⟩⟩
      have e := same_new (o := .tup [.str "stack", .ref z, .str sd, .int n, .int c]) nt
      rw [rev_split] at q
      exact q t _ (k1.trans (k2.trans e)) ⟨_, upd_same, .cons ⟨rfl, by decide +kernel⟩ (.cons ⟨z, rfl, hz.same e⟩ (.cons ⟨rfl, words5 hs⟩ (.cons rfl (.cons rfl .nil))))⟩
    | _ => exact absurd e0 (by intro z; injection z with z _; injection z with z; revert z; decide +kernel)
theorem ok_reverse_of_stack (T : Txt K mg) : FnOk P w K mg base CX0 2 T.f_reverse_of_stack T.d_reverse_of_stack ["step"] (spRev1 "stack") := by
  refine T.F_reverse_of_stack.ok sc_reverse_of_stack (fun vs H Q E h => ?_) (fun cdv A outer s H vs Q E hr h => ?_)
  · obtain ⟨p, ts, rfl, _⟩ := h
    rfl
  · obtain ⟨p, ts, rfl, hp, sh, ⟨r0, e0⟩, gb, q⟩ := h
    refine ⟨_, (pss_cons (ps_asg (pv 0) (pg_tup (by rfl) (pgs_cons (pg_name (i := 1) sc_reverse_of_stack.nd rfl (Or.inl rfl)) (pgs_cons (pg_name (i := 2) sc_reverse_of_stack.nd rfl (Or.inl rfl)) (pgs_cons (pg_name (i := 3) sc_reverse_of_stack.nd rfl (Or.inl rfl)) (pgs_cons (pg_name (i := 4) sc_reverse_of_stack.nd rfl (Or.inl rfl)) (pgs_cons (pg_name (i := 5) sc_reverse_of_stack.nd rfl (Or.inl rfl)) pgs_nil)))))))
      (pss_one (ps_ret (pe_tup (pa_cons pe_str (pa_cons (pe_call (ok_with_side T) (hr.mono (by decide)) (by rfl) T.g_with_side T.F_with_side.kp T.b_with_side .nil pass0 (pa_cons (pv 2) (pa_cons (pv 3) (pa_cons (pe_call (ok_scaled T) (hr.mono (by decide)) (by rfl) T.g_scaled T.F_scaled.kp T.b_scaled .nil pass0 (pa_cons (pe_call (ok_side_of T) (hr.mono (by decide)) (by rfl) T.g_side_of T.F_side_of.kp T.b_side_of .nil pass0 (pa_cons (pv 2) (pa_cons (pv 3) pa_nil))) (pa_cons (pv 4) pa_nil))) pa_nil)))) (pa_cons (pv 3) (pa_cons (pv 4) (pa_cons (pv 5) pa_nil))))))))), ?_⟩
    cases sh with
    | @stack x sd n c hs hn hc =>
      obtain ⟨vs, hp, hts⟩ := hp
      obtain ⟨v0, v1, v2, v3, v4, rfl, ⟨e0, _⟩, ⟨px, e1, hx⟩, ⟨e2, _⟩, h3, h4⟩ := pin5 hts
      subst e0 e1 e2
      cases (show v3 = .int n from h3)
      cases (show v4 = .int c from h4)
      have bn : ItG (.int n) := gb _ (by simp)
      have bx : ItG (.sheet x) := gb _ (by simp)
      obtain ⟨g1, g2⟩ := side_n (s := sd) bx
      have bn' : n.natAbs ≤ 2 ^ 29 := bn
      refine ⟨_, rfl, p, _, rfl, SqT.of hp, rfl, .str "stack", _, rfl, .ref px, _, rfl, .str sd, _, rfl, .int n, _, rfl, .int c, _, rfl, rfl, ?_⟩
      refine ⟨_, rfl, _, rfl, _, rfl, _, rfl, px, x, sd, rfl, hx, fun r1 h1 => ?_⟩
      refine ⟨_, rfl, .ref r1, _, _, n, rfl, ⟨r1, rfl, SqT.of h1⟩, g64 g1, g64 g2, g64 (by omega), fun r2 H1 nr2 k1 h2 => ?_⟩
      refine ⟨px, r2, x, sd, _, _, rfl, hx.same k1, h2, fun z H2 k2 hz => ⟨_, rfl, _, rfl, _, rfl, by show 5 ≤ sizeLine; decide, fun t nt => ?_⟩⟩
      have e := same_new (o := .tup [.str "split", .ref z, .str sd, .int n, .int c]) nt
      rw [rev_stack] at q
      exact q t _ (k1.trans (k2.trans e)) ⟨_, upd_same, .cons ⟨rfl, by decide +kernel⟩ (.cons ⟨z, rfl, hz.same e⟩ (.cons ⟨rfl, words5 hs⟩ (.cons rfl (.cons rfl .nil))))⟩
    | _ => exact absurd e0 (by intro z; injection z with z _; injection z with z; revert z; decide +kernel)
def spRev : Sp := fun vs H Q _ => ∃ (p : Addr) (ts : List Itm), vs = [.ref p] ∧ StepAt H p ts ∧ Shaped ts ∧ (∀ t ∈ ts, ItG t) ∧ ∀ q H', Same H H' → StepAt H' q (revI ts) → Q (.ref q) H'
theorem ok_reverse_of (T : Txt K mg) : FnOk P w K mg base CX0 4 T.f_reverse_of T.d_reverse_of ["step"] spRev := by
  refine T.F_reverse_of.ok sc_reverse_of (fun vs H Q E h => ?_) (fun cdv A outer s H vs Q E hr h => ?_)
  · obtain ⟨p, ts, rfl, _⟩ := h
    rfl
  · obtain ⟨p, ts, rfl, hp, sh, gb, q⟩ := h
    refine ⟨_, (pss_cons (ps_if (pt_cmpR op_eq (pe_ix ix_tup (pv 0) pe_int (fun _ _ => rfl)) pe_str (nomark _)) (pss_one (ps_ret (pe_call (ok_reverse_of_saw T) (hr.mono (by decide)) (by rfl) T.g_reverse_of_saw T.F_reverse_of_saw.kp T.b_reverse_of_saw .nil pass0 (pa_cons (pv 0) pa_nil)))) pss_nil)
      (pss_cons (ps_if (pt_cmpR op_eq (pe_ix ix_tup (pv 0) pe_int (fun _ _ => rfl)) pe_str (nomark _)) (pss_one (ps_ret (pe_call (ok_reverse_of_glue T) (hr.mono (by decide)) (by rfl) T.g_reverse_of_glue T.F_reverse_of_glue.kp T.b_reverse_of_glue .nil pass0 (pa_cons (pv 0) pa_nil)))) pss_nil)
      (pss_cons (ps_if (pt_cmpR op_eq (pe_ix ix_tup (pv 0) pe_int (fun _ _ => rfl)) pe_str (nomark _)) (pss_one (ps_ret (pe_call (ok_reverse_of_split T) (hr.mono (by decide)) (by rfl) T.g_reverse_of_split T.F_reverse_of_split.kp T.b_reverse_of_split .nil pass0 (pa_cons (pv 0) pa_nil)))) pss_nil)
      (pss_cons (ps_if (pt_cmpR op_eq (pe_ix ix_tup (pv 0) pe_int (fun _ _ => rfl)) pe_str (nomark _)) (pss_one (ps_ret (pe_call (ok_reverse_of_stack T) (hr.mono (by decide)) (by rfl) T.g_reverse_of_stack T.F_reverse_of_stack.kp T.b_reverse_of_stack .nil pass0 (pa_cons (pv 0) pa_nil)))) pss_nil)
      (pss_cons (ps_asg (pv 0) (pg_tup (by rfl) (pgs_cons (pg_name (i := 1) sc_reverse_of.nd rfl (Or.inl rfl)) (pgs_cons (pg_name (i := 2) sc_reverse_of.nd rfl (Or.inl rfl)) (pgs_cons (pg_name (i := 3) sc_reverse_of.nd rfl (Or.inl rfl)) pgs_nil)))))
      (pss_one (ps_ret (pe_tup (pa_cons (pv 1) (pa_cons (pe_call (ok_turned T) (hr.mono (by decide)) (by rfl) T.g_turned T.F_turned.kp T.b_turned .nil pass0 (pa_cons (pv 2) pa_nil)) (pa_cons (pv 3) pa_nil))))))))))), ?_⟩
    have hp0 := hp
    have sh0 := sh
    obtain ⟨vs, hp, hts⟩ := hp
    cases sh with
    | @saw x sd a b c hs hc =>
      obtain ⟨v0, vs, rfl, ⟨e0, _⟩⟩ := pinh hts
      subst e0
      exact use_ix rfl hp (atI_nat (j := 0) rfl) ⟨rfl, true, by decide +kernel, iteT ⟨_, rfl, p, _, rfl, hp0, sh0, ⟨_, rfl⟩, gb, q⟩⟩
    | @glue x y sd c hs hc =>
      obtain ⟨v0, vs, rfl, ⟨e0, _⟩⟩ := pinh hts
      subst e0
      refine use_ix rfl hp (atI_nat (j := 0) rfl) ⟨rfl, false, by decide +kernel, iteF ?_⟩
      exact use_ix rfl hp (atI_nat (j := 0) rfl) ⟨rfl, true, by decide +kernel, iteT ⟨_, rfl, p, _, rfl, hp0, sh0, ⟨_, rfl⟩, gb, q⟩⟩
    | @split x sd n c hs hn hc =>
      obtain ⟨v0, vs, rfl, ⟨e0, _⟩⟩ := pinh hts
      subst e0
      refine use_ix rfl hp (atI_nat (j := 0) rfl) ⟨rfl, false, by decide +kernel, iteF ?_⟩
      refine use_ix rfl hp (atI_nat (j := 0) rfl) ⟨rfl, false, by decide +kernel, iteF ?_⟩
      exact use_ix rfl hp (atI_nat (j := 0) rfl) ⟨rfl, true, by decide +kernel, iteT ⟨_, rfl, p, _, rfl, hp0, sh0, ⟨_, rfl⟩, gb, q⟩⟩
    | @stack x sd n c hs hn hc =>
      obtain ⟨v0, vs, rfl, ⟨e0, _⟩⟩ := pinh hts
      subst e0
      refine use_ix rfl hp (atI_nat (j := 0) rfl) ⟨rfl, false, by decide +kernel, iteF ?_⟩
      refine use_ix rfl hp (atI_nat (j := 0) rfl) ⟨rfl, false, by decide +kernel, iteF ?_⟩
      refine use_ix rfl hp (atI_nat (j := 0) rfl) ⟨rfl, false, by decide +kernel, iteF ?_⟩
      exact use_ix rfl hp (atI_nat (j := 0) rfl) ⟨rfl, true, by decide +kernel, iteT ⟨_, rfl, p, _, rfl, hp0, sh0, ⟨_, rfl⟩, gb, q⟩⟩
    | @turn x c hc =>
      obtain ⟨v0, v1, v2, rfl, ⟨e0, _⟩, ⟨px, e1, hx⟩, h2⟩ := pin3 hts
      subst e0 e1
      cases (show v2 = .int c from h2)
      refine use_ix rfl hp (atI_nat (j := 0) rfl) ⟨rfl, false, by decide +kernel, iteF ?_⟩
      refine use_ix rfl hp (atI_nat (j := 0) rfl) ⟨rfl, false, by decide +kernel, iteF ?_⟩
      refine use_ix rfl hp (atI_nat (j := 0) rfl) ⟨rfl, false, by decide +kernel, iteF ?_⟩
      refine use_ix rfl hp (atI_nat (j := 0) rfl) ⟨rfl, false, by decide +kernel, iteF ?_⟩
      refine ⟨_, rfl, p, _, rfl, SqT.of hp, rfl, .str "turn", _, rfl, .ref px, _, rfl, .int c, _, rfl, rfl, ?_⟩
      refine ⟨_, rfl, _, rfl, px, x, rfl, hx, fun z H1 nz k1 hz => ⟨_, rfl, by show 3 ≤ sizeLine; decide, fun t nt => ?_⟩⟩
      have e := same_new (o := .tup [.str "turn", .ref z, .int c]) nt
      exact q t _ (k1.trans e) ⟨_, upd_same, .cons ⟨rfl, by decide +kernel⟩ (.cons ⟨z, rfl, hz.same e⟩ (.cons rfl .nil))⟩
end
section
variable {base : Heap} {K : PySem.W.Frag} {mg : Str → Option Value} {w : World}
def spBack (T : Txt K mg) : Sp := fun vs H Q E => ∃ (p : Addr) (ts : List Itm), vs = [.ref p] ∧ StepAt H p ts ∧ ts.length ≤ 10 ∧ (stepB ts = true → (∀ t ∈ ts, ItG t) ∧ ∀ q H', Same H H' → StepAt H' q (revI ts) → Q (.ref q) H') ∧ (stepB ts = false → Throws T.e_BadStep.C (badStep 0) H E)
theorem good_shaped {ts : List Itm} (h : stepB ts = true) : Shaped ts := by
  unfold stepB at h
  rw [Bool.and_eq_true] at h
  exact shape_inv h.1
theorem ok_back_of (T : Txt K mg) (D : Shps K w T.u_SHAPES) : FnOk PySem.Challenge.pw_grainyard_k21_reverse_steps w K mg base (L2.CX PySem.Challenge.pw_grainyard_k21_reverse_steps w) 7 T.f_back_of T.d_back_of ["step"] (spBack T) := by
  refine T.F_back_of.okX sc_back_of (fun vs H Q E h => ?_) (fun cdv A outer s H vs Q E hr h => ?_)
  · obtain ⟨p, ts, rfl, _⟩ := h
    rfl
  · obtain ⟨p, ts, rfl, hp, l10, q1, q2⟩ := h
    refine ⟨_, (pss_cons (ps_expr (pe_call (ok_check_steps (w := w) T D) (hr.mono (by decide)) (by rfl) T.g_check_steps T.F_check_steps.kp T.b_check_steps .nil (passes_call (takes_of rfl rfl rfl rfl) (fun _ _ _ _ h => h)) (pa_cons (pe_lst (pa_cons (pv 0) pa_nil)) pa_nil)))
      (pss_one (ps_ret (pe_call (ok_reverse_of T) (hr.mono (by decide)) (by rfl) T.g_reverse_of T.F_reverse_of.kp T.b_reverse_of .nil pass0 (pa_cons (pv 0) pa_nil))))), ?_⟩
    refine ⟨_, rfl, by show 1 ≤ sizeLine; decide, fun l nl => ?_⟩
    have e := same_new (o := .lst [.ref p]) nl
    refine ⟨.ref l, [ts], rfl, .list (as := [p]) (SqL.of upd_same) (.cons (hp.same e) .nil), (fun t ht => by rw [List.mem_singleton.mp ht]; exact l10), fun ok H1 k1 => ?_, fun i hi => ?_⟩
    · obtain ⟨gb, q⟩ := q1 (ok ts (List.mem_singleton.mpr rfl))
      exact ⟨_, rfl, p, ts, rfl, (hp.same e).same k1, good_shaped (ok ts (List.mem_singleton.mpr rfl)), gb, fun z H2 k2 hz => q z H2 (e.trans (k1.trans k2)) hz⟩
    · obtain ⟨⟨t, ht, ft⟩, _⟩ := hi
      have i0 : i = 0 := by
        have := (List.getElem?_eq_some_iff.mp ht).1
        simp at this
        exact this
      subst i0
      cases ht
      exact (q2 ft).up e
end
/-! ### the reverse of a step, by the law -/
def givI : List Itm → List (Sh × Int)
  | [.str _, .sheet x, .str s, .pair a b, .int c] => [(withS x s (a, b), c), (withS x s (restS x s a b), c)]
  | [.str _, .sheet x, .sheet y, .str s, .int c] => [(withS x s ((sideOf x s).1 + (sideOf y s).1, (sideOf x s).2 + (sideOf y s).2), c)]
  | [.str w, .sheet x, .str s, .int n, .int c] => if w = "split" then [(withS x s ((sideOf x s).1 / n, (sideOf x s).2 / n), n * c)] else [(withS x s ((sideOf x s).1 * n, (sideOf x s).2 * n), c)]
  | [.str _, .sheet x, .int c] => [(turnS x, c)]
  | _ => []
theorem giv_four {w s : Str} {x : Sh} {n c : Int} : givI [.str w, .sheet x, .str s, .int n, .int c] = if w = "split" then [(withS x s ((sideOf x s).1 / n, (sideOf x s).2 / n), n * c)] else [(withS x s ((sideOf x s).1 * n, (sideOf x s).2 * n), c)] := rfl
theorem giv_split {x : Sh} {s : Str} {n c : Int} : givI [.str "split", .sheet x, .str s, .int n, .int c] = [(withS x s ((sideOf x s).1 / n, (sideOf x s).2 / n), n * c)] := giv_four.trans (if_pos rfl)
theorem giv_stack {x : Sh} {s : Str} {n c : Int} : givI [.str "stack", .sheet x, .str s, .int n, .int c] = [(withS x s ((sideOf x s).1 * n, (sideOf x s).2 * n), c)] := giv_four.trans (if_neg (by decide +kernel))
def RowX (H : Hp) (a : Addr) (e : Sh × Int) : Prop := ∃ q, H a = some (.tup [.ref q, .int e.2]) ∧ ShAt H q e.1
theorem RowX.same {H H' : Hp} {a : Addr} {e : Sh × Int} (h : RowX H a e) (s : Same H H') : RowX H' a e := let ⟨q, h1, h2⟩ := h; ⟨q, s _ _ h1, h2.same s⟩
section
variable {base : Heap} {K : PySem.W.Frag} {mg : Str → Option Value} {P : Program} {w : World}
def spBin (f : Int → Int → Int) : Sp := fun vs H Q _ => ∃ (p q : Addr) (a b c e : Int), vs = [.ref p, .ref q] ∧ H p = some (.tup [.int a, .int b]) ∧ H q = some (.tup [.int c, .int e]) ∧ ∀ r H', Same H H' → H' r = some (.tup [.int (f a c), .int (f b e)]) → Q (.ref r) H'
theorem ok_plus (T : Txt K mg) : FnOk P w K mg base CX0 1 T.f_plus T.d_plus ["_law_one", "_law_other"] (spBin fun x y => x + y) := by
  refine T.F_plus.ok sc_plus (fun vs H Q E h => ?_) (fun cdv A outer s H vs Q E hr h => ?_)
  · obtain ⟨p, q, a, b, c, e, rfl, _⟩ := h
    rfl
  · obtain ⟨p, q, a, b, c, e, rfl, hp, hq, k⟩ := h
    refine ⟨_, (pss_one (ps_ret (pe_tup (pa_cons (pe_op op_add (pe_ix ix_tup (pv 0) pe_int (fun _ _ => rfl)) (pe_ix ix_tup (pv 1) pe_int (fun _ _ => rfl))) (pa_cons (pe_op op_add (pe_ix ix_tup (pv 0) pe_int (fun _ _ => rfl)) (pe_ix ix_tup (pv 1) pe_int (fun _ _ => rfl))) pa_nil))))), ?_⟩
    exact ⟨_, rfl, p, _, 0, .int a, rfl, rfl, SqT.of hp, atI_nat (j := 0) rfl, _, rfl, q, _, 0, .int c, rfl, rfl, SqT.of hq, atI_nat (j := 0) rfl, a, c, rfl, rfl, _, rfl, p, _, 1, .int b, rfl, rfl, SqT.of hp, atI_nat (j := 1) rfl, _, rfl, q, _, 1, .int e, rfl, rfl, SqT.of hq, atI_nat (j := 1) rfl, b, e, rfl, rfl,
      by show 2 ≤ sizeLine; decide, fun r nr => k r _ (same_new nr) upd_same⟩
theorem ok_minus (T : Txt K mg) : FnOk P w K mg base CX0 1 T.f_minus T.d_minus ["_law_one", "_law_other"] (spBin fun x y => x - y) := by
  refine T.F_minus.ok sc_minus (fun vs H Q E h => ?_) (fun cdv A outer s H vs Q E hr h => ?_)
  · obtain ⟨p, q, a, b, c, e, rfl, _⟩ := h
    rfl
  · obtain ⟨p, q, a, b, c, e, rfl, hp, hq, k⟩ := h
    refine ⟨_, (pss_one (ps_ret (pe_tup (pa_cons (pe_op op_sub (pe_ix ix_tup (pv 0) pe_int (fun _ _ => rfl)) (pe_ix ix_tup (pv 1) pe_int (fun _ _ => rfl))) (pa_cons (pe_op op_sub (pe_ix ix_tup (pv 0) pe_int (fun _ _ => rfl)) (pe_ix ix_tup (pv 1) pe_int (fun _ _ => rfl))) pa_nil))))), ?_⟩
    exact ⟨_, rfl, p, _, 0, .int a, rfl, rfl, SqT.of hp, atI_nat (j := 0) rfl, _, rfl, q, _, 0, .int c, rfl, rfl, SqT.of hq, atI_nat (j := 0) rfl, a, c, rfl, rfl, _, rfl, p, _, 1, .int b, rfl, rfl, SqT.of hp, atI_nat (j := 1) rfl, _, rfl, q, _, 1, .int e, rfl, rfl, SqT.of hq, atI_nat (j := 1) rfl, b, e, rfl, rfl,
      by show 2 ≤ sizeLine; decide, fun r nr => k r _ (same_new nr) upd_same⟩
def spGiven : Sp := fun vs H Q _ => ∃ (p : Addr) (ts : List Itm), vs = [.ref p] ∧ StepAt H p ts ∧ Shaped ts ∧ (∀ t ∈ ts, ItB t) ∧ ∀ l as H', Same H H' → H' l = some (.lst (as.map V.ref)) → Paired (RowX H') as (givI ts) → Q (.ref l) H'
theorem ok_given (T : Txt K mg) : FnOk P w K mg base CX0 2 T.f_given T.d_given ["_law_step_z"] spGiven := by
  refine T.F_given.ok sc_given (fun vs H Q E h => ?_) (fun cdv A outer s H vs Q E hr h => ?_)
  · obtain ⟨p, ts, rfl, _⟩ := h
    rfl
  · obtain ⟨p, ts, rfl, hp, sh, gb, q⟩ := h
    refine ⟨_, (pss_cons (ps_par (i := 4) (j := 5) (by rfl) sc_given.nd rfl rfl (by decide) rfl rfl (pa_cons (pe_ix ix_tup (pv 0) pe_int (fun _ _ => rfl)) (pa_cons (pe_ix ix_tup (pv 0) pe_int (fun _ _ => rfl)) pa_nil)) (by rfl))
      (pss_cons (ps_if (pt_cmpR op_eq (pv 4) pe_str (nomark _)) (pss_one (ps_ret (pe_lst (pa_cons (pe_tup (pa_cons (pe_tup (pa_cons (pe_ix ix_tup (pv 5) pe_int (fun _ _ => rfl)) (pa_cons (pe_ix ix_tup (pv 5) pe_int (fun _ _ => rfl)) pa_nil))) (pa_cons (pe_ix ix_tup (pv 0) pe_int (fun _ _ => rfl)) pa_nil))) pa_nil)))) pss_nil)
      (pss_cons (ps_set (i := 1) sc_given.nd rfl (Or.inl rfl) (pe_ifExp (pt_cmpR op_eq (pv 4) pe_str (nomark _)) (pe_ix ix_tup (pv 0) pe_int (fun _ _ => rfl)) (pe_ix ix_tup (pv 0) pe_int (fun _ _ => rfl))))
      (pss_cons (ps_set (i := 2) sc_given.nd rfl (Or.inl rfl) (pe_call (ok_lside_of T) (hr.mono (by decide)) (by rfl) T.g_lside_of T.F_lside_of.kp T.b_lside_of .nil pass0 (pa_cons (pv 5) (pa_cons (pv 1) pa_nil))))
      (pss_cons (ps_if (pt_cmpR op_eq (pv 4) pe_str (nomark _)) (pss_cons (ps_set (i := 6) sc_given.nd rfl (Or.inl rfl) (pe_call (ok_minus T) (hr.mono (by decide)) (by rfl) T.g_minus T.F_minus.kp T.b_minus .nil pass0 (pa_cons (pv 2) (pa_cons (pe_ix ix_tup (pv 0) pe_int (fun _ _ => rfl)) pa_nil))))
      (pss_one (ps_ret (pe_lst (pa_cons (pe_tup (pa_cons (pe_call (ok_with T) (hr.mono (by decide)) (by rfl) T.g_with T.F_with.kp T.b_with .nil pass0 (pa_cons (pv 5) (pa_cons (pv 1) (pa_cons (pe_ix ix_tup (pv 0) pe_int (fun _ _ => rfl)) pa_nil)))) (pa_cons (pe_ix ix_tup (pv 0) pe_int (fun _ _ => rfl)) pa_nil))) (pa_cons (pe_tup (pa_cons (pe_call (ok_with T) (hr.mono (by decide)) (by rfl) T.g_with T.F_with.kp T.b_with .nil pass0 (pa_cons (pv 5) (pa_cons (pv 1) (pa_cons (pv 6) pa_nil)))) (pa_cons (pe_ix ix_tup (pv 0) pe_int (fun _ _ => rfl)) pa_nil))) pa_nil)))))) pss_nil)
      (pss_cons (ps_if (pt_cmpR op_eq (pv 4) pe_str (nomark _)) (pss_one (ps_ret (pe_lst (pa_cons (pe_tup (pa_cons (pe_call (ok_with T) (hr.mono (by decide)) (by rfl) T.g_with T.F_with.kp T.b_with .nil pass0 (pa_cons (pv 5) (pa_cons (pv 1) (pa_cons (pe_call (ok_plus T) (hr.mono (by decide)) (by rfl) T.g_plus T.F_plus.kp T.b_plus .nil pass0 (pa_cons (pv 2) (pa_cons (pe_call (ok_lside_of T) (hr.mono (by decide)) (by rfl) T.g_lside_of T.F_lside_of.kp T.b_lside_of .nil pass0 (pa_cons (pe_ix ix_tup (pv 0) pe_int (fun _ _ => rfl)) (pa_cons (pv 1) pa_nil))) pa_nil))) pa_nil)))) (pa_cons (pe_ix ix_tup (pv 0) pe_int (fun _ _ => rfl)) pa_nil))) pa_nil)))) pss_nil)
      (pss_cons (ps_if (pt_cmpR op_eq (pv 4) pe_str (nomark _)) (pss_one (ps_ret (pe_lst (pa_cons (pe_tup (pa_cons (pe_call (ok_with T) (hr.mono (by decide)) (by rfl) T.g_with T.F_with.kp T.b_with .nil pass0 (pa_cons (pv 5) (pa_cons (pv 1) (pa_cons (pe_call (ok_lscaled T) (hr.mono (by decide)) (by rfl) T.g_lscaled T.F_lscaled.kp T.b_lscaled .nil pass0 (pa_cons (pv 2) (pa_cons (pe_ix ix_tup (pv 0) pe_int (fun _ _ => rfl)) pa_nil))) pa_nil)))) (pa_cons (pe_ix ix_tup (pv 0) pe_int (fun _ _ => rfl)) pa_nil))) pa_nil)))) pss_nil)
      (pss_cons (ps_set (i := 3) sc_given.nd rfl (Or.inl rfl) (pe_tup (pa_cons (pe_op op_fdiv (pe_ix ix_tup (pv 2) pe_int (fun _ _ => rfl)) (pe_ix ix_tup (pv 0) pe_int (fun _ _ => rfl))) (pa_cons (pe_op op_fdiv (pe_ix ix_tup (pv 2) pe_int (fun _ _ => rfl)) (pe_ix ix_tup (pv 0) pe_int (fun _ _ => rfl))) pa_nil))))
      (pss_one (ps_ret (pe_lst (pa_cons (pe_tup (pa_cons (pe_call (ok_with T) (hr.mono (by decide)) (by rfl) T.g_with T.F_with.kp T.b_with .nil pass0 (pa_cons (pv 5) (pa_cons (pv 1) (pa_cons (pv 3) pa_nil)))) (pa_cons (pe_op op_mul (pe_ix ix_tup (pv 0) pe_int (fun _ _ => rfl)) (pe_ix ix_tup (pv 0) pe_int (fun _ _ => rfl))) pa_nil))) pa_nil)))))))))))), ?_⟩
    obtain ⟨vs, hp, hts⟩ := hp
    cases sh with
    | @turn x c hc =>
      obtain ⟨v0, v1, v2, rfl, ⟨e0, _⟩, ⟨px, e1, hx⟩, h2⟩ := pin3 hts
      subst e0 e1
      cases (show v2 = .int c from h2)
      refine use_ix rfl hp (atI_nat (j := 0) rfl) (use_ix rfl hp (atI_nat (j := 1) rfl) ⟨_, _, rfl, ?_⟩)
      refine use_eqc (b := true) rfl rfl (by decide +kernel) (iteT ?_)
      obtain ⟨u, v, g1, g2, g3⟩ := hx
      refine use_ix rfl g1 (atI_nat (j := 1) rfl) (use_ix rfl g1 (atI_nat (j := 0) rfl) ⟨by show 2 ≤ sizeLine; decide, fun t1 n1 => ?_⟩)
      have k1 := same_new (o := .tup [.ref v, .ref u]) n1
      refine use_ix rfl (k1 _ _ hp) (atI_nat (j := 2) rfl) ⟨by show 2 ≤ sizeLine; decide, fun t2 n2 => ⟨by show 1 ≤ sizeLine; decide, fun l nl => ?_⟩⟩
      have k2 := same_new (o := .tup [.ref t1, .int c]) n2
      have k3 := same_new (o := .lst [.ref t2]) nl
      exact q l [t2] _ (k1.trans (k2.trans k3)) upd_same (.cons ⟨t1, k3 _ _ upd_same, ShAt.same (k2.trans k3) ⟨v, u, upd_same, k1 _ _ g3, k1 _ _ g2⟩⟩ .nil)
    | @saw x sd a b c hs hc =>
      obtain ⟨v0, v1, v2, v3, v4, rfl, ⟨e0, _⟩, ⟨px, e1, hx⟩, ⟨e2, _⟩, ⟨r3, e3, h3⟩, h4⟩ := pin5 hts
      subst e0 e1 e2 e3
      cases (show v4 = .int c from h4)
      refine use_ix rfl hp (atI_nat (j := 0) rfl) (use_ix rfl hp (atI_nat (j := 1) rfl) ⟨_, _, rfl, ?_⟩)
      refine use_eqc (b := false) rfl rfl (by decide +kernel) (iteF ?_)
      refine use_eqc (b := false) rfl rfl (by decide +kernel) (iteF (use_ix rfl hp (atI_nat (j := 2) rfl) ?_))
      refine ⟨_, rfl, _, rfl, px, x, sd, rfl, hx, hs, fun r H1 k1 hr => ?_⟩
      refine use_eqc (b := true) rfl rfl (by decide +kernel) (iteT ?_)
      refine ⟨_, rfl, use_ix rfl (k1 _ _ hp) (atI_nat (j := 3) rfl) ⟨r, r3, _, _, _, _, rfl, hr, k1 _ _ h3, fun r4 H2 k2 h4 => ?_⟩⟩
      have k12 := k1.trans k2
      refine ⟨_, rfl, _, rfl, use_ix rfl (k12 _ _ hp) (atI_nat (j := 3) rfl) ⟨px, r3, x, sd, a, b, rfl, hx.same k12, hs, k12 _ _ h3, fun y1 H3 z1 _ k3 hy1 ey1 => ?_⟩⟩
      have k13 := k12.trans k3
      refine use_ix rfl (k13 _ _ hp) (atI_nat (j := 4) rfl) ⟨by show 2 ≤ sizeLine; decide, fun t1 n1 => ?_⟩
      have k4 := same_new (o := .tup [.ref y1, .int c]) n1
      have k14 := k13.trans k4
      refine ⟨_, rfl, _, rfl, _, rfl, px, r4, x, sd, _, _, rfl, hx.same k14, hs, k4 _ _ (k3 _ _ h4), fun y2 H5 z2 _ k5 hy2 ey2 => ?_⟩
      have k15 := k14.trans k5
      refine use_ix rfl (k15 _ _ hp) (atI_nat (j := 4) rfl) ⟨by show 2 ≤ sizeLine; decide, fun t2 n2 => ⟨by show 2 ≤ sizeLine; decide, fun l nl => ?_⟩⟩
      have k6 := same_new (o := .tup [.ref y2, .int c]) n2
      have k7 := same_new (o := .lst [.ref t1, .ref t2]) nl
      subst ey1 ey2
      exact q l [t1, t2] _ (k15.trans (k6.trans k7)) upd_same (.cons ⟨y1, (k5.trans (k6.trans k7)) _ _ upd_same, hy1.same (k4.trans (k5.trans (k6.trans k7)))⟩ (.cons ⟨y2, k7 _ _ upd_same, hy2.same (k6.trans k7)⟩ .nil))
    | @glue x y sd c hs hc =>
      obtain ⟨v0, v1, v2, v3, v4, rfl, ⟨e0, _⟩, ⟨px, e1, hx⟩, ⟨py, e2, hy⟩, ⟨e3, _⟩, h4⟩ := pin5 hts
      subst e0 e1 e2 e3
      cases (show v4 = .int c from h4)
      refine use_ix rfl hp (atI_nat (j := 0) rfl) (use_ix rfl hp (atI_nat (j := 1) rfl) ⟨_, _, rfl, ?_⟩)
      refine use_eqc (b := false) rfl rfl (by decide +kernel) (iteF ?_)
      refine use_eqc (b := true) rfl rfl (by decide +kernel) (iteT (use_ix rfl hp (atI_nat (j := 3) rfl) ?_))
      refine ⟨_, rfl, _, rfl, px, x, sd, rfl, hx, hs, fun r H1 k1 hr => ?_⟩
      refine use_eqc (b := false) rfl rfl (by decide +kernel) (iteF ?_)
      refine use_eqc (b := true) rfl rfl (by decide +kernel) (iteT ?_)
      refine ⟨_, rfl, _, rfl, _, rfl, use_ix rfl (k1 _ _ hp) (atI_nat (j := 2) rfl) ⟨_, rfl, py, y, sd, rfl, hy.same k1, hs, fun r2 H2 k2 hr2 => ?_⟩⟩
      refine ⟨r, r2, _, _, _, _, rfl, k2 _ _ hr, hr2, fun r3 H3 k3 h3 => ?_⟩
      have k13 := k1.trans (k2.trans k3)
      refine ⟨px, r3, x, sd, _, _, rfl, hx.same k13, hs, h3, fun y1 H4 z1 _ k4 hy1 ey1 => ?_⟩
      have k14 := k13.trans k4
      refine use_ix rfl (k14 _ _ hp) (atI_nat (j := 4) rfl) ⟨by show 2 ≤ sizeLine; decide, fun t1 n1 => ⟨by show 1 ≤ sizeLine; decide, fun l nl => ?_⟩⟩
      have k6 := same_new (o := .tup [.ref y1, .int c]) n1
      have k7 := same_new (o := .lst [.ref t1]) nl
      subst ey1
      exact q l [t1] _ (k14.trans (k6.trans k7)) upd_same (.cons ⟨y1, k7 _ _ upd_same, hy1.same (k6.trans k7)⟩ .nil)
    | @stack x sd n c hs hn hc =>
      obtain ⟨v0, v1, v2, v3, v4, rfl, ⟨e0, _⟩, ⟨px, e1, hx⟩, ⟨e2, _⟩, h3, h4⟩ := pin5 hts
      subst e0 e1 e2
      cases (show v3 = .int n from h3)
      cases (show v4 = .int c from h4)
      have bn : ItB (.int n) := gb _ (by simp)
      unfold ItB at bn
      rw [giv_stack] at q
      refine use_ix rfl hp (atI_nat (j := 0) rfl) (use_ix rfl hp (atI_nat (j := 1) rfl) ⟨_, _, rfl, ?_⟩)
      refine use_eqc (b := false) rfl rfl (by decide +kernel) (iteF ?_)
      refine use_eqc (b := false) rfl rfl (by decide +kernel) (iteF (use_ix rfl hp (atI_nat (j := 2) rfl) ?_))
      refine ⟨_, rfl, _, rfl, px, x, sd, rfl, hx, hs, fun r H1 k1 hr => ?_⟩
      refine use_eqc (b := false) rfl rfl (by decide +kernel) (iteF ?_)
      refine use_eqc (b := false) rfl rfl (by decide +kernel) (iteF ?_)
      refine use_eqc (b := true) rfl rfl (by decide +kernel) (iteT ?_)
      refine ⟨_, rfl, _, rfl, _, rfl, use_ix rfl (k1 _ _ hp) (atI_nat (j := 3) rfl) ⟨r, _, _, n, rfl, hr, (by unfold Sm; omega), fun r3 H3 _ k3 h3 => ?_⟩⟩
      have k13 := k1.trans k3
      refine ⟨px, r3, x, sd, _, _, rfl, hx.same k13, hs, h3, fun y1 H4 z1 _ k4 hy1 ey1 => ?_⟩
      have k14 := k13.trans k4
      refine use_ix rfl (k14 _ _ hp) (atI_nat (j := 4) rfl) ⟨by show 2 ≤ sizeLine; decide, fun t1 n1 => ⟨by show 1 ≤ sizeLine; decide, fun l nl => ?_⟩⟩
      have k6 := same_new (o := .tup [.ref y1, .int c]) n1
      have k7 := same_new (o := .lst [.ref t1]) nl
      subst ey1
      exact q l [t1] _ (k14.trans (k6.trans k7)) upd_same (.cons ⟨y1, k7 _ _ upd_same, hy1.same (k6.trans k7)⟩ .nil)
    | @split x sd n c hs hn hc =>
      obtain ⟨v0, v1, v2, v3, v4, rfl, ⟨e0, _⟩, ⟨px, e1, hx⟩, ⟨e2, _⟩, h3, h4⟩ := pin5 hts
      subst e0 e1 e2
      cases (show v3 = .int n from h3)
      cases (show v4 = .int c from h4)
      have bn : ItB (.int n) := gb _ (by simp)
      have bc : ItB (.int c) := gb _ (by simp)
      unfold ItB at bn bc
      rw [giv_split] at q
      refine use_ix rfl hp (atI_nat (j := 0) rfl) (use_ix rfl hp (atI_nat (j := 1) rfl) ⟨_, _, rfl, ?_⟩)
      refine use_eqc (b := false) rfl rfl (by decide +kernel) (iteF ?_)
      refine use_eqc (b := false) rfl rfl (by decide +kernel) (iteF (use_ix rfl hp (atI_nat (j := 2) rfl) ?_))
      refine ⟨_, rfl, _, rfl, px, x, sd, rfl, hx, hs, fun r H1 k1 hr => ?_⟩
      refine use_eqc (b := false) rfl rfl (by decide +kernel) (iteF ?_)
      refine use_eqc (b := false) rfl rfl (by decide +kernel) (iteF ?_)
      refine use_eqc (b := false) rfl rfl (by decide +kernel) (iteF ?_)
      have hp1 := k1 _ _ hp
      refine use_ix rfl hr (atI_nat (j := 0) rfl) (use_ix rfl hp1 (atI_nat (j := 3) rfl) ⟨_, n, rfl, rfl, ⟨by omega, by omega⟩, use_ix rfl hr (atI_nat (j := 1) rfl) (use_ix rfl hp1 (atI_nat (j := 3) rfl) ⟨_, n, rfl, rfl, ⟨by omega, by omega⟩, by show 2 ≤ sizeLine; decide, fun r3 n3 => ?_⟩)⟩)
      have k3 := same_new (o := .tup [.int ((sideOf x sd).1 / n), .int ((sideOf x sd).2 / n)]) n3
      have k13 := k1.trans k3
      refine ⟨_, rfl, _, rfl, _, rfl, px, r3, x, sd, _, _, rfl, hx.same k13, hs, upd_same, fun y1 H4 z1 _ k4 hy1 ey1 => ?_⟩
      have k14 := k13.trans k4
      refine use_ix rfl (k14 _ _ hp) (atI_nat (j := 3) rfl) (use_ix rfl (k14 _ _ hp) (atI_nat (j := 4) rfl) ⟨n, c, rfl, rfl, .inl ⟨by omega, by omega⟩, by show 2 ≤ sizeLine; decide, fun t1 n1 => ⟨by show 1 ≤ sizeLine; decide, fun l nl => ?_⟩⟩)
      have k6 := same_new (o := .tup [.ref y1, .int (n * c)]) n1
      have k7 := same_new (o := .lst [.ref t1]) nl
      subst ey1
      exact q l [t1] _ (k14.trans (k6.trans k7)) upd_same (.cons ⟨y1, k7 _ _ upd_same, hy1.same (k6.trans k7)⟩ .nil)
def spLRev : Sp := fun vs H Q _ => ∃ (p : Addr) (ts : List Itm), vs = [.ref p] ∧ StepAt H p ts ∧ Shaped ts ∧ (∀ t ∈ ts, ItB t) ∧ ∀ q H', Same H H' → StepAt H' q (revI ts) → Q (.ref q) H'
theorem ok_reverse (T : Txt K mg) : FnOk P w K mg base CX0 3 T.f_reverse T.d_reverse ["_law_step_z"] spLRev := by
  refine T.F_reverse.ok sc_reverse (fun vs H Q E h => ?_) (fun cdv A outer s H vs Q E hr h => ?_)
  · obtain ⟨p, ts, rfl, _⟩ := h
    rfl
  · obtain ⟨p, ts, rfl, hp, sh, gb, q⟩ := h
    refine ⟨_, (pss_cons (ps_set (i := 1) sc_reverse.nd rfl (Or.inl rfl) (pe_call (ok_given T) (hr.mono (by decide)) (by rfl) T.g_given T.F_given.kp T.b_given .nil pass0 (pa_cons (pv 0) pa_nil)))
      (pss_cons (ps_par3 (i := 2) (j := 3) (l := 4) (by rfl) sc_reverse.nd rfl rfl rfl (by decide) (by decide) (by decide) rfl rfl rfl (pa_cons (pe_ix ix_tup (pv 0) pe_int (fun _ _ => rfl)) (pa_cons (pe_ix ix_tup (pv 0) pe_int (fun _ _ => rfl)) (pa_cons (pe_ix ix_tup (pv 0) (pe_un un_neg pe_int) (fun _ _ => rfl)) pa_nil))) (by rfl))
      (pss_cons (ps_if (pt_cmpR op_eq (pv 2) pe_str (nomark _)) (pss_one (ps_ret (pe_tup (pa_cons pe_str (pa_cons (pe_ix ix_tup (pe_ix ix_list (pv 1) pe_int (fun _ _ => rfl)) pe_int (fun _ _ => rfl)) (pa_cons (pe_ix ix_tup (pe_ix ix_list (pv 1) pe_int (fun _ _ => rfl)) pe_int (fun _ _ => rfl)) (pa_cons (pe_ix ix_tup (pv 0) pe_int (fun _ _ => rfl)) (pa_cons (pv 4) pa_nil)))))))) pss_nil)
      (pss_cons (ps_if (pt_cmpR op_eq (pv 2) pe_str (nomark _)) (pss_one (ps_ret (pe_tup (pa_cons pe_str (pa_cons (pe_ix ix_tup (pe_ix ix_list (pv 1) pe_int (fun _ _ => rfl)) pe_int (fun _ _ => rfl)) (pa_cons (pe_ix ix_tup (pv 0) pe_int (fun _ _ => rfl)) (pa_cons (pe_call (ok_lside_of T) (hr.mono (by decide)) (by rfl) T.g_lside_of T.F_lside_of.kp T.b_lside_of .nil pass0 (pa_cons (pv 3) (pa_cons (pe_ix ix_tup (pv 0) pe_int (fun _ _ => rfl)) pa_nil))) (pa_cons (pv 4) pa_nil)))))))) pss_nil)
      (pss_cons (ps_if (pt_cmpR op_eq (pv 2) pe_str (nomark _)) (pss_one (ps_ret (pe_tup (pa_cons pe_str (pa_cons (pe_ix ix_tup (pe_ix ix_list (pv 1) pe_int (fun _ _ => rfl)) pe_int (fun _ _ => rfl)) (pa_cons (pv 4) pa_nil)))))) pss_nil)
      (pss_one (ps_ret (pe_tup (pa_cons (pe_ifExp (pt_cmpR op_eq (pv 2) pe_str (nomark _)) pe_str pe_str) (pa_cons (pe_ix ix_tup (pe_ix ix_list (pv 1) pe_int (fun _ _ => rfl)) pe_int (fun _ _ => rfl)) (pa_cons (pe_ix ix_tup (pv 0) pe_int (fun _ _ => rfl)) (pa_cons (pe_ix ix_tup (pv 0) pe_int (fun _ _ => rfl)) (pa_cons (pv 4) pa_nil))))))))))))), ?_⟩
    refine ⟨_, rfl, p, ts, rfl, hp, sh, gb, fun l as H1 k1 hl hR => ?_⟩
    obtain ⟨vs, hp, hts⟩ := hp.same k1
    cases sh with
    | @turn x c hc =>
      obtain ⟨v0, v1, v2, rfl, ⟨e0, _⟩, ⟨px, e1, hx⟩, h2⟩ := pin3 hts
      obtain ⟨a1, rfl, ⟨y1, g1, hy1⟩⟩ := pin1 hR
      subst e0 e1
      cases (show v2 = .int c from h2)
      refine use_ix rfl hp (atI_nat (j := 0) rfl) (use_ix rfl hp (atI_nat (j := 1) rfl) ⟨_, rfl, 1, rfl, p, _, -1, .int c, rfl, rfl, SqT.of hp, atI_last [V.str "turn", V.ref px] (V.int c), _, _, _, rfl, ?_⟩)
      refine use_eqc (b := false) rfl rfl (by decide +kernel) (iteF (use_eqc (b := false) rfl rfl (by decide +kernel) (iteF (use_eqc (b := true) rfl rfl (by decide +kernel) (iteT ?_)))))
      refine use_ixL rfl hl (atI_nat (j := 0) rfl) ⟨a1, _, 0, .ref y1, rfl, rfl, SqT.of g1, atI_nat (j := 0) rfl, _, rfl, by show 3 ≤ sizeLine; decide, fun t nt => ?_⟩
      have e := same_new (o := .tup [.str "turn", .ref y1, .int c]) nt
      exact q t _ (k1.trans e) ⟨_, upd_same, .cons ⟨rfl, by decide +kernel⟩ (.cons ⟨y1, rfl, hy1.same e⟩ (.cons rfl .nil))⟩
    | @saw x sd a b c hs hc =>
      obtain ⟨v0, v1, v2, v3, v4, rfl, ⟨e0, _⟩, ⟨px, e1, hx⟩, ⟨e2, _⟩, ⟨r3, e3, h3⟩, h4⟩ := pin5 hts
      obtain ⟨a1, a2, rfl, ⟨y1, g1, hy1⟩, ⟨y2, g2, hy2⟩⟩ := pin2 hR
      subst e0 e1 e2 e3
      cases (show v4 = .int c from h4)
      refine use_ix rfl hp (atI_nat (j := 0) rfl) (use_ix rfl hp (atI_nat (j := 1) rfl) ⟨_, rfl, 1, rfl, p, _, -1, .int c, rfl, rfl, SqT.of hp, atI_last [V.str "saw", V.ref px, V.str sd, V.ref r3] (V.int c), _, _, _, rfl, ?_⟩)
      refine use_eqc (b := true) rfl rfl (by decide +kernel) (iteT ?_)
      refine use_ixL rfl hl (atI_nat (j := 0) rfl) ⟨a1, _, 0, .ref y1, rfl, rfl, SqT.of g1, atI_nat (j := 0) rfl, use_ixL rfl hl (atI_nat (j := 1) rfl) ⟨a2, _, 0, .ref y2, rfl, rfl, SqT.of g2, atI_nat (j := 0) rfl, use_ix rfl hp (atI_nat (j := 2) rfl) ⟨_, rfl, by show 5 ≤ sizeLine; decide, fun t nt => ?_⟩⟩⟩
      have e := same_new (o := .tup [.str "glue", .ref y1, .ref y2, .str sd, .int c]) nt
      exact q t _ (k1.trans e) ⟨_, upd_same, .cons ⟨rfl, by decide +kernel⟩ (.cons ⟨y1, rfl, hy1.same e⟩ (.cons ⟨y2, rfl, hy2.same e⟩ (.cons ⟨rfl, side_word hs⟩ (.cons rfl .nil))))⟩
    | @glue x y sd c hs hc =>
      obtain ⟨v0, v1, v2, v3, v4, rfl, ⟨e0, _⟩, ⟨px, e1, hx⟩, ⟨py, e2, hy⟩, ⟨e3, _⟩, h4⟩ := pin5 hts
      obtain ⟨a1, rfl, ⟨y1, g1, hy1⟩⟩ := pin1 hR
      subst e0 e1 e2 e3
      cases (show v4 = .int c from h4)
      refine use_ix rfl hp (atI_nat (j := 0) rfl) (use_ix rfl hp (atI_nat (j := 1) rfl) ⟨_, rfl, 1, rfl, p, _, -1, .int c, rfl, rfl, SqT.of hp, atI_last [V.str "glue", V.ref px, V.ref py, V.str sd] (V.int c), _, _, _, rfl, ?_⟩)
      refine use_eqc (b := false) rfl rfl (by decide +kernel) (iteF (use_eqc (b := true) rfl rfl (by decide +kernel) (iteT ?_)))
      refine use_ixL rfl hl (atI_nat (j := 0) rfl) ⟨a1, _, 0, .ref y1, rfl, rfl, SqT.of g1, atI_nat (j := 0) rfl, use_ix rfl hp (atI_nat (j := 3) rfl) ?_⟩
      refine ⟨_, rfl, use_ix rfl hp (atI_nat (j := 3) rfl) ⟨px, x, sd, rfl, hx, hs, fun r H2 k2 hr => ⟨_, rfl, by show 5 ≤ sizeLine; decide, fun t nt => ?_⟩⟩⟩
      have e := same_new (o := .tup [.str "saw", .ref y1, .str sd, .ref r, .int c]) nt
      exact q t _ (k1.trans (k2.trans e)) ⟨_, upd_same, .cons ⟨rfl, by decide +kernel⟩ (.cons ⟨y1, rfl, (hy1.same k2).same e⟩ (.cons ⟨rfl, side_word hs⟩ (.cons ⟨r, rfl, e _ _ hr⟩ (.cons rfl .nil))))⟩
    | @stack x sd n c hs hn hc =>
      rw [giv_stack] at hR
      rw [rev_stack] at q
      obtain ⟨v0, v1, v2, v3, v4, rfl, ⟨e0, _⟩, ⟨px, e1, hx⟩, ⟨e2, _⟩, h3, h4⟩ := pin5 hts
      obtain ⟨a1, rfl, ⟨y1, g1, hy1⟩⟩ := pin1 hR
      subst e0 e1 e2
      cases (show v3 = .int n from h3)
      cases (show v4 = .int c from h4)
      refine use_ix rfl hp (atI_nat (j := 0) rfl) (use_ix rfl hp (atI_nat (j := 1) rfl) ⟨_, rfl, 1, rfl, p, _, -1, .int c, rfl, rfl, SqT.of hp, atI_last [V.str "stack", V.ref px, V.str sd, V.int n] (V.int c), _, _, _, rfl, ?_⟩)
      refine use_eqc (b := false) rfl rfl (by decide +kernel) (iteF (use_eqc (b := false) rfl rfl (by decide +kernel) (iteF (use_eqc (b := false) rfl rfl (by decide +kernel) (iteF ?_)))))
      refine use_eqc (b := false) rfl rfl (by decide +kernel) (iteF (use_ixL rfl hl (atI_nat (j := 0) rfl) ⟨a1, _, 0, .ref y1, rfl, rfl, SqT.of g1, atI_nat (j := 0) rfl, use_ix rfl hp (atI_nat (j := 2) rfl) (use_ix rfl hp (atI_nat (j := 3) rfl) ⟨_, rfl, by show 5 ≤ sizeLine; decide, fun t nt => ?_⟩)⟩))
      have e := same_new (o := .tup [.str "split", .ref y1, .str sd, .int n, .int c]) nt
      exact q t _ (k1.trans e) ⟨_, upd_same, .cons ⟨rfl, by decide +kernel⟩ (.cons ⟨y1, rfl, hy1.same e⟩ (.cons ⟨rfl, side_word hs⟩ (.cons rfl (.cons rfl .nil))))⟩
    | @split x sd n c hs hn hc =>
      rw [giv_split] at hR
      rw [rev_split] at q
      obtain ⟨v0, v1, v2, v3, v4, rfl, ⟨e0, _⟩, ⟨px, e1, hx⟩, ⟨e2, _⟩, h3, h4⟩ := pin5 hts
      obtain ⟨a1, rfl, ⟨y1, g1, hy1⟩⟩ := pin1 hR
      subst e0 e1 e2
      cases (show v3 = .int n from h3)
      cases (show v4 = .int c from h4)
      refine use_ix rfl hp (atI_nat (j := 0) rfl) (use_ix rfl hp (atI_nat (j := 1) rfl) ⟨_, rfl, 1, rfl, p, _, -1, .int c, rfl, rfl, SqT.of hp, atI_last [V.str "split", V.ref px, V.str sd, V.int n] (V.int c), _, _, _, rfl, ?_⟩)
      refine use_eqc (b := false) rfl rfl (by decide +kernel) (iteF (use_eqc (b := false) rfl rfl (by decide +kernel) (iteF (use_eqc (b := false) rfl rfl (by decide +kernel) (iteF ?_)))))
      refine use_eqc (b := true) rfl rfl (by decide +kernel) (iteT (use_ixL rfl hl (atI_nat (j := 0) rfl) ⟨a1, _, 0, .ref y1, rfl, rfl, SqT.of g1, atI_nat (j := 0) rfl, use_ix rfl hp (atI_nat (j := 2) rfl) (use_ix rfl hp (atI_nat (j := 3) rfl) ⟨_, rfl, by show 5 ≤ sizeLine; decide, fun t nt => ?_⟩)⟩))
      have e := same_new (o := .tup [.str "stack", .ref y1, .str sd, .int n, .int c]) nt
      exact q t _ (k1.trans e) ⟨_, upd_same, .cons ⟨rfl, by decide +kernel⟩ (.cons ⟨y1, rfl, hy1.same e⟩ (.cons ⟨rfl, side_word hs⟩ (.cons rfl (.cons rfl .nil))))⟩
end
/-! ### the order of the pairs -/
/-- the pair stands for a positive value -/
def Po (d a b : Int) : Prop := (d * b * b < a * a ∧ 0 < a) ∨ (a * a < d * b * b ∧ 0 < b)
theorem norm_ne {d : Int} (hd : IsRoot d) {a b : Int} (h : a * a = d * b * b) : a = 0 ∧ b = 0 := by
  obtain ⟨d0, d1, k, hk, h1, h2⟩ := hd
  have hb : b = 0 := by
    rcases Int.lt_trichotomy b 0 with z | z | z
    · rcases Int.le_total 0 a with y | y
      · exact absurd (show a * a = d * -b * -b by grind) (no_square hk h1 h2 (-b).toNat (-b) a (by omega) y (Nat.le_refl _))
      · exact absurd (show -a * -a = d * -b * -b by grind) (no_square hk h1 h2 (-b).toNat (-b) (-a) (by omega) (by omega) (Nat.le_refl _))
    · exact z
    · rcases Int.le_total 0 a with y | y
      · exact absurd h (no_square hk h1 h2 b.toNat b a z y (Nat.le_refl _))
      · exact absurd (show -a * -a = d * b * b by grind) (no_square hk h1 h2 b.toNat b (-a) z (by omega) (Nat.le_refl _))
  subst hb
  refine ⟨?_, rfl⟩
  rcases Int.lt_trichotomy a 0 with z | z | z
  · have := Int.mul_pos_of_neg_of_neg z z
    omega
  · exact z
  · have := Int.mul_pos z z
    omega
theorem abs_lt_of_sq {x y : Int} (h0 : 0 < y) (h : x * x < y * y) : -y < x ∧ x < y := by
  refine ⟨?_, lt_of_sq (by omega) h⟩
  have := lt_of_sq (x := -x) (y := y) (by omega) (by grind)
  omega
theorem mul_lt4 {a b c e : Int} (a0 : 0 ≤ a) (c0 : 0 ≤ c) (h1 : a < b) (h2 : c < e) : a * c < b * e := by
  have h3 : a * c ≤ a * e := Int.mul_le_mul_of_nonneg_left (by omega) a0
  have h4 : a * e < b * e := Int.mul_lt_mul_of_pos_right h1 (by omega)
  omega
theorem dsq_nn {d b : Int} (h : 0 < d) : 0 ≤ d * b * b := by
  have := Int.mul_nonneg (Int.le_of_lt h) (sq_nn b)
  grind
/-- both greater in their first numbers -/
theorem pp {d a b c e : Int} (hd : 0 < d) (h1 : d * b * b < a * a) (h2 : d * e * e < c * c) (a0 : 0 < a) (c0 : 0 < c) : -(a * c) < d * b * e ∧ d * b * e < a * c := by
  refine abs_lt_of_sq (Int.mul_pos a0 c0) ?_
  have := mul_lt4 (dsq_nn hd) (dsq_nn hd) h1 h2
  grind
theorem qq {d a b c e : Int} (hd : 0 < d) (h1 : a * a < d * b * b) (h2 : c * c < d * e * e) (b0 : 0 < b) (e0 : 0 < e) : -(d * b * e) < a * c ∧ a * c < d * b * e := by
  refine abs_lt_of_sq (Int.mul_pos (Int.mul_pos hd b0) e0) ?_
  have := mul_lt4 (sq_nn a) (sq_nn c) h1 h2
  grind
theorem Po.add {d a b c e : Int} (hd : IsRoot d) (h1 : Po d a b) (h2 : Po d c e) : Po d (a + c) (b + e) := by
  have d0 : 0 < d := by have := hd.1; omega
  have key : (a + c) * (a + c) - d * (b + e) * (b + e) = (a * a - d * b * b) + (c * c - d * e * e) + 2 * (a * c - d * b * e) := by grind
  have mixed : ∀ {a b c e : Int}, d * b * b < a * a → 0 < a → c * c < d * e * e → 0 < e → Po d (a + c) (b + e) := by
    intro a b c e h1 a0 h2 e0
    rcases Int.lt_trichotomy ((a + c) * (a + c)) (d * (b + e) * (b + e)) with z | z | z
    · refine .inr ⟨z, ?_⟩
      rcases Int.lt_or_le 0 (b + e) with y | y
      · exact y
      · exfalso
        have z1 : (-(a + c)) * (-(a + c)) < d * (-(b + e)) * (-(b + e)) := by grind
        have y1 : 0 < -(b + e) := by
          rcases Int.lt_or_eq_of_le y with q | q
          · omega
          · rw [q] at z
            have := sq_nn (a + c)
            omega
        have p := qq d0 z1 h2 y1 e0
        have k : (-(a + c) + c) * (-(a + c) + c) - d * (-(b + e) + e) * (-(b + e) + e) = ((-(a + c)) * (-(a + c)) - d * (-(b + e)) * (-(b + e))) + (c * c - d * e * e) + 2 * ((-(a + c)) * c - d * (-(b + e)) * e) := by grind
        have k2 : (-(a + c) + c) * (-(a + c) + c) - d * (-(b + e) + e) * (-(b + e) + e) = a * a - d * b * b := by grind
        omega
    · obtain ⟨u, v⟩ := norm_ne hd z
      have : a * a = c * c := by
        have : a = -c := by omega
        rw [this]
        grind
      have : d * b * b = d * e * e := by
        have : b = -e := by omega
        rw [this]
        grind
      omega
    · refine .inl ⟨z, ?_⟩
      rcases Int.lt_or_le 0 (a + c) with y | y
      · exact y
      · exfalso
        have z1 : d * (-(b + e)) * (-(b + e)) < (-(a + c)) * (-(a + c)) := by grind
        have y1 : 0 < -(a + c) := by
          rcases Int.lt_or_eq_of_le y with q | q
          · omega
          · rw [q] at z
            have := dsq_nn (b := b + e) d0
            omega
        have p := pp d0 z1 h1 y1 a0
        have k : (-(a + c) + a) * (-(a + c) + a) - d * (-(b + e) + b) * (-(b + e) + b) = ((-(a + c)) * (-(a + c)) - d * (-(b + e)) * (-(b + e))) + (a * a - d * b * b) + 2 * ((-(a + c)) * a - d * (-(b + e)) * b) := by grind
        have k2 : (-(a + c) + a) * (-(a + c) + a) - d * (-(b + e) + b) * (-(b + e) + b) = c * c - d * e * e := by grind
        omega
  rcases h1 with ⟨h1, a0⟩ | ⟨h1, b0⟩
  · rcases h2 with ⟨h2, c0⟩ | ⟨h2, e0⟩
    · have p := pp d0 h1 h2 a0 c0
      exact .inl ⟨by omega, by omega⟩
    · exact mixed h1 a0 h2 e0
  · rcases h2 with ⟨h2, c0⟩ | ⟨h2, e0⟩
    · have := mixed h2 c0 h1 b0
      rw [Int.add_comm c a, Int.add_comm e b] at this
      exact this
    · have p := qq d0 h1 h2 b0 e0
      exact .inr ⟨by omega, by omega⟩
/-- the sign by squares tells it -/
theorem po_iff {d a b : Int} (hd : IsRoot d) : Po d a b ↔ 0 < vl a b d := by
  have d0 : 0 < d := by have := hd.1; omega
  unfold Po vl
  have hb := dsq_nn (b := b) d0
  have ha := sq_nn a
  have hd2 : b < 0 → 0 < d * b * b := fun z => by
    have := Int.mul_pos d0 (Int.mul_pos_of_neg_of_neg z z)
    grind
  have hd3 : 0 < b → 0 < d * b * b := fun z => by
    have := Int.mul_pos d0 (Int.mul_pos z z)
    grind
  have ha2 : a < 0 → 0 < a * a := fun z => Int.mul_pos_of_neg_of_neg z z
  have ha3 : 0 < a → 0 < a * a := fun z => Int.mul_pos z z
  rcases Int.lt_or_le a 0 with x | x
  · rcases Int.lt_or_le b 0 with y | y
    · rw [ab_neg x, ab_neg y, Int.mul_neg, Int.mul_neg]
      omega
    · rw [ab_neg x, ab_nn y, Int.mul_neg]
      rcases Int.lt_or_eq_of_le y with z | z
      · omega
      · subst z
        simp
        omega
  · rcases Int.lt_or_le b 0 with y | y
    · rw [ab_nn x, ab_neg y, Int.mul_neg]
      rcases Int.lt_or_eq_of_le x with z | z
      · omega
      · subst z
        simp
        omega
    · rw [ab_nn x, ab_nn y]
      rcases Int.lt_or_eq_of_le x with z | z
      · rcases Int.lt_or_eq_of_le y with u | u
        · have := ha3 z
          have := hd3 u
          have : a * a ≠ d * b * b := fun q => by
            have := (norm_ne hd q).1
            omega
          omega
        · subst u
          have := ha3 z
          simp
          omega
      · subst z
        rcases Int.lt_or_eq_of_le y with u | u
        · have := hd3 u
          simp
          omega
        · subst u
          simp
/-! ### what a step takes and gives, as numbers -/
def needI : List Itm → List (Sh × Int)
  | [.str _, .sheet x, .str _, .pair _ _, .int c] => [(x, c)]
  | [.str _, .sheet x, .sheet y, .str _, .int c] => if y = x then [(x, 2 * c)] else [(x, c), (y, c)]
  | [.str w, .sheet x, .str _, .int n, .int c] => if w = "split" then [(x, c)] else [(x, n * c)]
  | [.str _, .sheet x, .int c] => [(x, c)]
  | _ => []
theorem need_four {w s : Str} {x : Sh} {n c : Int} : needI [.str w, .sheet x, .str s, .int n, .int c] = if w = "split" then [(x, c)] else [(x, n * c)] := rfl
theorem need_split {x : Sh} {s : Str} {n c : Int} : needI [.str "split", .sheet x, .str s, .int n, .int c] = [(x, c)] := need_four.trans (if_pos rfl)
theorem need_stack {x : Sh} {s : Str} {n c : Int} : needI [.str "stack", .sheet x, .str s, .int n, .int c] = [(x, n * c)] := need_four.trans (if_neg (by decide +kernel))
theorem need_cases {ts : List Itm} (h : Shaped ts) : (∃ x c, needI ts = [(x, c)]) ∨ ∃ x y c, y ≠ x ∧ needI ts = [(x, c), (y, c)] := by
  cases h with
  | @saw x s a b c _ _ => exact .inl ⟨x, c, rfl⟩
  | @split x s n c _ _ _ => exact .inl ⟨x, c, need_split⟩
  | @glue x y s c _ _ =>
    by_cases z : y = x
    · exact .inl ⟨x, 2 * c, if_pos z⟩
    · exact .inr ⟨x, y, c, z, if_neg z⟩
  | @stack x s n c _ _ _ => exact .inl ⟨x, n * c, need_stack⟩
  | @turn x c _ => exact .inl ⟨x, c, rfl⟩
def pairsE (rs : DEs) : List (Sh × Int) := rs.map fun e => (e.1, e.2.2)
def fsum (φ : Sh → Int) (l : List (Sh × Int)) : Int := (l.map fun e => e.2 * φ e.1).sum
theorem wsum_pairs (φ : Sh → Int) (rs : DEs) : wsum φ rs = fsum φ (pairsE rs) := by
  unfold wsum fsum pairsE
  rw [List.map_map]
  rfl
theorem need_len {ts : List Itm} (h : Shaped ts) : (needI ts).length ≤ 2 := by
  rcases need_cases h with ⟨x, c, e⟩ | ⟨x, y, c, _, e⟩
  · rw [e]
    exact Nat.le_succ 1
  · rw [e]
    exact Nat.le_refl 2
theorem need_nd {ts : List Itm} (h : Shaped ts) : ((needI ts).map (·.1)).Nodup := by
  rcases need_cases h with ⟨x, c, e⟩ | ⟨x, y, c, z, e⟩
  · rw [e]
    simp
  · rw [e]
    simp only [List.map_cons, List.map_nil, List.nodup_cons, List.mem_singleton, List.not_mem_nil, not_false_eq_true, List.nodup_nil, and_self, and_true]
    exact fun q => z q.symm
theorem pairs_keys (rs : DEs) : keysD rs = (pairsE rs).map (·.1) := by
  unfold keysD pairsE
  rw [List.map_map]
  rfl
theorem cnt_put (es : DEs) (x : Sh) (p : Addr) (n : Int) (y : Sh) : cnt (putD es x p n) y = if y = x then n else cnt es y := by
  unfold cnt
  rw [valD_put]
  split <;> rfl
theorem valD_drop (es : DEs) (x y : Sh) : valD (dropD es x) y = if y = x then none else valD es y := by
  induction es with
  | nil => unfold valD dropD; simp
  | cons e es ih =>
    have e1 : dropD (e :: es) x = if e.1 = x then dropD es x else e :: dropD es x := by
      unfold dropD
      by_cases z : e.1 = x
      · rw [List.filter_cons, if_pos z, if_neg (by simp [z])]
      · rw [List.filter_cons, if_neg z, if_pos (by simp [z])]
    rw [e1, valD_cons]
    by_cases z : e.1 = x
    · rw [if_pos z, ih]
      by_cases q : y = x
      · rw [if_pos q, if_pos q]
      · rw [if_neg q, if_neg q, if_neg fun r => q (r.symm.trans z)]
    · rw [if_neg z, valD_cons, ih]
      by_cases q : y = x
      · rw [if_pos q, if_pos q, if_neg fun r => z (r.trans q)]
      · rw [if_neg q, if_neg q]
theorem cnt_drop (es : DEs) (x y : Sh) : cnt (dropD es x) y = if y = x then 0 else cnt es y := by
  unfold cnt
  rw [valD_drop]
  split <;> rfl
theorem drop_nd {es : DEs} (h : (keysD es).Nodup) (x : Sh) : (keysD (dropD es x)).Nodup := by
  unfold keysD dropD
  exact h.sublist (List.Sublist.map _ List.filter_sublist)
theorem drop_wsum (φ : Sh → Int) (x : Sh) : ∀ {es : DEs}, (keysD es).Nodup → wsum φ (dropD es x) = wsum φ es - cnt es x * φ x
  | [], _ => by simp [dropD, wsum, cnt, valD]
  | e :: es, nd => by
    have nd' : e.1 ∉ keysD es ∧ (keysD es).Nodup := List.nodup_cons.mp nd
    have ih := drop_wsum φ x nd'.2
    unfold cnt at ih ⊢
    rw [valD_cons, wsum_cons]
    by_cases z : e.1 = x
    · have e1 : dropD (e :: es) x = dropD es x := by
        unfold dropD
        rw [List.filter_cons, if_neg (by simp [z])]
      rw [e1, ih, if_pos z, valD_none.mpr (z ▸ nd'.1), z]
      show wsum φ es - 0 * φ x = e.2.2 * φ x + wsum φ es - e.2.2 * φ x
      omega
    · have e1 : dropD (e :: es) x = e :: dropD es x := by
        unfold dropD
        rw [List.filter_cons, if_pos (by simp [z])]
      rw [e1, wsum_cons, ih, if_neg z]
      omega
def takeE (acc : DEs) (e : Sh × Addr × Int) : DEs := if cnt acc e.1 - e.2.2 = 0 then dropD (putD acc e.1 e.2.1 (cnt acc e.1 - e.2.2)) e.1 else putD acc e.1 e.2.1 (cnt acc e.1 - e.2.2)
theorem take_cnt (acc : DEs) (e : Sh × Addr × Int) (y : Sh) : cnt (takeE acc e) y = if y = e.1 then cnt acc e.1 - e.2.2 else cnt acc y := by
  unfold takeE
  by_cases z : cnt acc e.1 - e.2.2 = 0
  · rw [if_pos z, cnt_drop, cnt_put]
    by_cases q : y = e.1
    · rw [if_pos q, if_pos q, z]
    · rw [if_neg q, if_neg q]
  · rw [if_neg z, cnt_put]
theorem take_wsum (φ : Sh → Int) {acc : DEs} (h : (keysD acc).Nodup) (e : Sh × Addr × Int) : wsum φ (takeE acc e) = wsum φ acc - e.2.2 * φ e.1 := by
  have w1 : wsum φ (putD acc e.1 e.2.1 (cnt acc e.1 - e.2.2)) = wsum φ acc - e.2.2 * φ e.1 := by
    have := wsum_put (φ := φ) h e.1 e.2.1 (-e.2.2)
    rw [Int.neg_mul] at this
    exact this
  unfold takeE
  by_cases z : cnt acc e.1 - e.2.2 = 0
  · rw [if_pos z, drop_wsum φ e.1 (put_nodup h _ _ _), w1, cnt_put, if_pos rfl, z]
    omega
  · rw [if_neg z, w1]
theorem drop_len (es : DEs) (x : Sh) : (dropD es x).length ≤ es.length := List.length_filter_le _ _
theorem put_in_len {es : DEs} {x : Sh} {p : Addr} {n v : Int} (h : valD es x = some v) : (putD es x p n).length = es.length := by
  unfold putD
  rw [h, if_pos (show (some v : Option Int).isSome = true from rfl), List.length_map]
theorem val_cnt {es : DEs} {x : Sh} (h : 1 ≤ cnt es x) : valD es x = some (cnt es x) := by
  unfold cnt at h ⊢
  cases e : valD es x with
  | none =>
    rw [e] at h
    exact absurd h (by decide)
  | some v => rfl
theorem take_len {acc : DEs} {e : Sh × Addr × Int} (h : 1 ≤ cnt acc e.1) : (takeE acc e).length ≤ acc.length := by
  have := put_in_len (p := e.2.1) (n := cnt acc e.1 - e.2.2) (val_cnt h)
  unfold takeE
  split
  · exact Nat.le_trans (drop_len _ _) (Nat.le_of_eq this)
  · exact Nat.le_of_eq this
/-- entries that make a heap -/
structure GoodE (d : Int) (es : DEs) : Prop where
  nd : (keysD es).Nodup
  row : ∀ e ∈ es, rowB d e = true
  b : Es100 es
theorem row_iff {d : Int} {e : Sh × Addr × Int} : rowB d e = true ↔ 1 ≤ e.2.2 ∧ shB d e.1 = true := by
  unfold rowB
  rw [Bool.and_eq_true, decide_eq_true_iff]
theorem GoodE.cnt {d : Int} {es : DEs} (h : GoodE d es) (x : Sh) : cnt es x = 0 ∨ 1 ≤ cnt es x := by
  unfold Gy.cnt
  cases e : valD es x with
  | none => exact .inl rfl
  | some v =>
    obtain ⟨f, hf, _, rfl⟩ := valD_some e
    exact .inr (row_iff.mp (h.row f hf)).1
theorem GoodE.put {d : Int} {es : DEs} (h : GoodE d es) {x : Sh} {p : Addr} {n : Int} (h1 : 1 ≤ n) (h2 : shB d x = true) (h3 : Sh100 x) : GoodE d (putD es x p n) := by
  refine ⟨put_nodup h.nd _ _ _, fun e he => ?_, fun e he => ?_⟩
  · rcases putD_in he with ⟨e1, e2⟩ | he
    · rw [row_iff, e1, e2]
      exact ⟨h1, h2⟩
    · exact h.row e he
  · rcases putD_in he with ⟨e1, e2⟩ | he
    · rw [e1]
      exact h3
    · exact h.b e he
theorem GoodE.key {d : Int} {es : DEs} (h : GoodE d es) {x : Sh} (g : 1 ≤ Gy.cnt es x) : shB d x = true ∧ Sh100 x := by
  obtain ⟨f, hf, rfl, _⟩ := valD_some (val_cnt g)
  exact ⟨(row_iff.mp (h.row f hf)).2, h.b f hf⟩
theorem GoodE.take {d : Int} {es : DEs} (h : GoodE d es) {e : Sh × Addr × Int} (h1 : 1 ≤ e.2.2) (h2 : e.2.2 ≤ Gy.cnt es e.1) : GoodE d (takeE es e) := by
  have k := h.key (x := e.1) (by omega)
  unfold takeE
  by_cases z : Gy.cnt es e.1 - e.2.2 = 0
  · rw [if_pos z]
    refine ⟨drop_nd (put_nodup h.nd _ _ _) _, fun f hf => ?_, fun f hf => ?_⟩
    · have ne : f.1 ≠ e.1 := of_decide_eq_true (List.mem_filter.mp hf).2
      rcases putD_in (dropD_mem hf) with ⟨e1, _⟩ | hf
      · exact absurd e1 ne
      · exact h.row f hf
    · have ne : f.1 ≠ e.1 := of_decide_eq_true (List.mem_filter.mp hf).2
      rcases putD_in (dropD_mem hf) with ⟨e1, _⟩ | hf
      · exact absurd e1 ne
      · exact h.b f hf
  · rw [if_neg z]
    exact h.put (by omega) k.1 k.2
theorem GoodE.add {d : Int} {es : DEs} (h : GoodE d es) {e : Sh × Addr × Int} (h1 : 1 ≤ e.2.2) (h2 : shB d e.1 = true) (h3 : Sh100 e.1) : GoodE d (addE es e) := by
  unfold addE
  refine h.put ?_ h2 h3
  rcases h.cnt e.1 with z | z <;> · unfold Gy.cnt at z; omega
def takeTo (es rs : DEs) (i : Nat) : DEs := (rs.take i).foldl takeE es
def addTo (es rs : DEs) (i : Nat) : DEs := (rs.take i).foldl addE es
theorem foldTo_succ {f : DEs → Sh × Addr × Int → DEs} {es rs : DEs} {i : Nat} {e : Sh × Addr × Int} (he : rs[i]? = some e) : (rs.take (i + 1)).foldl f es = f ((rs.take i).foldl f es) e := by
  obtain ⟨h, rfl⟩ := List.getElem?_eq_some_iff.mp he
  rw [List.take_add_one, List.getElem?_eq_getElem h, List.foldl_append]
  rfl
theorem takeTo_cnt {es : DEs} : ∀ {rs : DEs} {y : Sh}, y ∉ keysD rs → cnt (rs.foldl takeE es) y = cnt es y
  | [], _, _ => rfl
  | e :: rs, y, h => by
    have h1 : y ≠ e.1 := fun z => h (z ▸ List.mem_cons_self)
    rw [List.foldl_cons, takeTo_cnt fun z => h (List.mem_cons_of_mem _ z), take_cnt, if_neg h1]
theorem takeTo_at {es rs : DEs} (nd : (keysD rs).Nodup) {i : Nat} {e : Sh × Addr × Int} (he : rs[i]? = some e) : cnt (takeTo es rs i) e.1 = cnt es e.1 := by
  refine takeTo_cnt fun z => ?_
  obtain ⟨h, rfl⟩ := List.getElem?_eq_some_iff.mp he
  have e2 := List.take_append_drop i rs
  rw [← e2] at nd
  unfold keysD at nd
  rw [List.map_append] at nd
  have := (List.nodup_append.mp nd).2.2
  refine this _ z _ (List.mem_map.mpr ⟨rs[i], ?_, rfl⟩) rfl
  rw [List.drop_eq_getElem_cons h]
  exact List.mem_cons_self
structure Taken (es rs : DEs) : Prop where
  nd : (keysD rs).Nodup
  le : ∀ e ∈ rs, 1 ≤ e.2.2 ∧ e.2.2 ≤ cnt es e.1
theorem takeTo_good {d : Int} {es rs : DEs} (h : GoodE d es) (t : Taken es rs) : ∀ i, i ≤ rs.length → GoodE d (takeTo es rs i) ∧ (takeTo es rs i).length ≤ es.length ∧ ∀ φ, wsum φ (takeTo es rs i) = wsum φ es - wsum φ (rs.take i)
  | 0, _ => ⟨h, Nat.le_refl _, fun φ => by
    show wsum φ es = wsum φ es - 0
    omega⟩
  | i + 1, hi => by
    obtain ⟨g1, g2, g3⟩ := takeTo_good h t i (by omega)
    have he : rs[i]? = some rs[i] := List.getElem?_eq_getElem (by omega)
    have m := t.le _ (List.mem_of_getElem? he)
    have c := takeTo_at (es := es) t.nd he
    have e1 : takeTo es rs (i + 1) = takeE (takeTo es rs i) rs[i] := foldTo_succ he
    rw [e1]
    refine ⟨g1.take m.1 (by rw [c]; exact m.2), Nat.le_trans (take_len (by rw [c]; omega)) g2, fun φ => ?_⟩
    rw [take_wsum φ g1.nd, g3 φ, List.take_add_one, he, wsum_app]
    show _ = wsum φ es - (wsum φ (rs.take i) + (rs[i].2.2 * φ rs[i].1 + 0))
    omega
theorem addTo_good {d : Int} {es rs : DEs} (h : GoodE d es) (t : ∀ e ∈ rs, 1 ≤ e.2.2 ∧ shB d e.1 = true ∧ Sh100 e.1) : ∀ i, i ≤ rs.length → GoodE d (addTo es rs i) ∧ (addTo es rs i).length ≤ es.length + i ∧ ∀ φ, wsum φ (addTo es rs i) = wsum φ es + wsum φ (rs.take i)
  | 0, _ => ⟨h, Nat.le_refl _, fun φ => by
    show wsum φ es = wsum φ es + 0
    omega⟩
  | i + 1, hi => by
    obtain ⟨g1, g2, g3⟩ := addTo_good h t i (by omega)
    have he : rs[i]? = some rs[i] := List.getElem?_eq_getElem (by omega)
    have m := t _ (List.mem_of_getElem? he)
    have e1 : addTo es rs (i + 1) = addE (addTo es rs i) rs[i] := foldTo_succ he
    rw [e1]
    refine ⟨g1.add m.1 m.2.1 m.2.2, ?_, fun φ => ?_⟩
    · have := fold_len [rs[i]] (addTo es rs i)
      have : (addE (addTo es rs i) rs[i]).length ≤ (addTo es rs i).length + 1 := this
      omega
    · have := wsum_put (φ := φ) g1.nd rs[i].1 rs[i].2.1 rs[i].2.2
      unfold addE
      rw [this, g3 φ, List.take_add_one, he, wsum_app]
      show _ = wsum φ es + (wsum φ (rs.take i) + (rs[i].2.2 * φ rs[i].1 + 0))
      omega
theorem GoodE.within {d : Int} {es : DEs} (h : ∀ e ∈ es, rowB d e = true) : ∃ M, 0 ≤ M ∧ Within (fun x => shB d x = true) M es := by
  induction es with
  | nil => exact ⟨0, by omega, fun e he => by cases he⟩
  | cons e es ih =>
    obtain ⟨M, m0, hM⟩ := ih fun f hf => h f (List.mem_cons_of_mem _ hf)
    have h1 := row_iff.mp (h e List.mem_cons_self)
    refine ⟨M + e.2.2, by omega, fun f hf => ?_⟩
    rcases List.mem_cons.mp hf with rfl | hf
    · exact ⟨h1.2, h1.1, by omega⟩
    · have := hM f hf
      exact ⟨this.1, this.2.1, by omega⟩
/-- the heap that is made of good entries -/
theorem GoodE.made {d : Int} {es : DEs} (h : GoodE d es) : Asc (sortE (mergeD es)) ∧ GoodE d (sortE (mergeD es)) ∧ (sortE (mergeD es)).length ≤ es.length ∧ ∀ φ, wsum φ (sortE (mergeD es)) = wsum φ es := by
  obtain ⟨M, m0, hM⟩ := GoodE.within h.row
  have nd := merge_nodup es
  have hk : ∀ e ∈ sortE (mergeD es), e ∈ mergeD es := fun e he => (sortE_perm nd).mem_iff.mp he
  have hS : ∀ e ∈ es, Sh100 e.1 ∧ 1 ≤ e.2.2 ∧ e.2.2 ≤ M := fun e he => ⟨h.b e he, (hM e he).2⟩
  refine ⟨asc_made m0 hM, ⟨sortE_keys nd, fun e he => ?_, fun e he => ?_⟩, ?_, fun φ => made_wsum φ es⟩
  · have := merge_within m0 hM e (hk e he)
    exact row_iff.mpr ⟨this.2.1, this.1⟩
  · exact (merge_within (S := Sh100) m0 hS e (hk e he)).1
  · rw [(sortE_perm nd).length_eq]
    exact merge_len es
/-! ### the reverse of a good step -/
theorem side_ac (x : Sh) : sideOf x "across" = (x.1, x.2.1) := if_pos rfl
theorem side_al (x : Sh) : sideOf x "along" = (x.2.2.1, x.2.2.2) := if_neg (by decide +kernel)
theorem with_ac (x : Sh) (p : Int × Int) : withS x "across" p = (p.1, p.2, x.2.2.1, x.2.2.2) := if_pos rfl
theorem with_al (x : Sh) (p : Int × Int) : withS x "along" p = (x.1, x.2.1, p.1, p.2) := if_neg (by decide +kernel)
inductive Good : List Itm → Prop
  | saw {x : Sh} {s : Str} {a b c : Int} (hs : SideW s) (hc : 1 ≤ c) : Good [.str "saw", .sheet x, .str s, .pair a b, .int c]
  | split {x : Sh} {s : Str} {n c : Int} (hs : SideW s) (hn : 2 ≤ n) (hc : 1 ≤ c) (e1 : (sideOf x s).1 % n = 0) (e2 : (sideOf x s).2 % n = 0) : Good [.str "split", .sheet x, .str s, .int n, .int c]
  | glue {x y : Sh} {s : Str} {c : Int} (hs : SideW s) (hc : 1 ≤ c) (he : sideOf (turnS x) s = sideOf (turnS y) s) : Good [.str "glue", .sheet x, .sheet y, .str s, .int c]
  | stack {x : Sh} {s : Str} {n c : Int} (hs : SideW s) (hn : 2 ≤ n) (hc : 1 ≤ c) : Good [.str "stack", .sheet x, .str s, .int n, .int c]
  | turn {x : Sh} {c : Int} (hc : 1 ≤ c) : Good [.str "turn", .sheet x, .int c]
theorem more_split (x : Sh) (s : Str) (n c : Int) : moreB [.str "split", .sheet x, .str s, .int n, .int c] = evenB x s n := by unfold moreB; exact if_pos rfl
theorem more_glue (x y : Sh) (s : Str) (c : Int) : moreB [.str "glue", .sheet x, .sheet y, .str s, .int c] = glueB x y s := by unfold moreB; exact if_pos rfl
theorem good_of {ts : List Itm} (h : stepB ts = true) : Good ts := by
  unfold stepB at h
  rw [Bool.and_eq_true] at h
  obtain ⟨h1, h2⟩ := h
  cases shape_inv h1 with
  | saw hs hc => exact .saw hs hc
  | split hs hn hc =>
    rw [more_split] at h2
    unfold evenB at h2
    rw [Bool.and_eq_true] at h2
    exact .split hs hn hc (of_decide_eq_true h2.1) (of_decide_eq_true h2.2)
  | glue hs hc =>
    rw [more_glue] at h2
    exact .glue hs hc (of_decide_eq_true h2)
  | stack hs hn hc => exact .stack hs hn hc
  | turn hc => exact .turn hc
theorem least_int {m n : Int} (h : m ≤ n) : leastB m (.int n) = true := by
  show decide (m ≤ n) = true
  exact decide_eq_true h
theorem side_str {s : Str} (h : SideW s) : sideB (.str s) = true := by
  rcases h with rfl | rfl <;> decide +kernel
theorem Good.step {ts : List Itm} (h : Good ts) : stepB ts = true := by
  cases h with
  | saw hs hc => rw [step_saw, least_int hc, side_str hs]; rfl
  | split hs hn hc e1 e2 =>
    rw [step_split, least_int hc, side_str hs, least_int hn, more_split]
    unfold evenB
    rw [decide_eq_true e1, decide_eq_true e2]
    rfl
  | glue hs hc he =>
    rw [step_glue, least_int hc, side_str hs, more_glue]
    unfold glueB
    rw [decide_eq_true he]
    rfl
  | stack hs hn hc => rw [step_stack, least_int hc, side_str hs, least_int hn]; rfl
  | turn hc => rw [step_turn, least_int hc]; rfl
theorem Good.shaped {ts : List Itm} (h : Good ts) : Shaped ts := by
  cases h with
  | saw hs hc => exact .saw hs hc
  | split hs hn hc => exact .split hs hn hc
  | glue hs hc => exact .glue hs hc
  | stack hs hn hc => exact .stack hs hn hc
  | turn hc => exact .turn hc
theorem Good.rev {ts : List Itm} (h : Good ts) : Good (revI ts) ∧ revI (revI ts) = ts := by
  cases h with
  | @saw x s a b c hs hc =>
    obtain ⟨x1, x2, x3, x4⟩ := x
    rcases hs with rfl | rfl
    · have e1 : a + (x1 - a) = x1 := by omega
      have e2 : b + (x2 - b) = x2 := by omega
      simp only [rev_saw, rev_glue, restS, side_ac, with_ac, e1, e2, and_true]
      exact .glue (.inl rfl) hc rfl
    · have e1 : a + (x3 - a) = x3 := by omega
      have e2 : b + (x4 - b) = x4 := by omega
      simp only [rev_saw, rev_glue, restS, side_al, with_al, e1, e2, and_true]
      exact .glue (.inr rfl) hc (by rw [side_al, side_al]; rfl)
  | @split x s n c hs hn hc h1 h2 =>
    obtain ⟨x1, x2, x3, x4⟩ := x
    rw [rev_split, rev_stack]
    refine ⟨.stack hs hn hc, ?_⟩
    rcases hs with rfl | rfl
    · rw [side_ac] at h1 h2
      simp only [side_ac, with_ac]
      rw [Int.ediv_mul_cancel (Int.dvd_of_emod_eq_zero h1), Int.ediv_mul_cancel (Int.dvd_of_emod_eq_zero h2)]
    · rw [side_al] at h1 h2
      simp only [side_al, with_al]
      rw [Int.ediv_mul_cancel (Int.dvd_of_emod_eq_zero h1), Int.ediv_mul_cancel (Int.dvd_of_emod_eq_zero h2)]
  | @glue x y s c hs hc he =>
    obtain ⟨x1, x2, x3, x4⟩ := x
    obtain ⟨y1, y2, y3, y4⟩ := y
    rcases hs with rfl | rfl
    · rw [side_ac, side_ac] at he
      have k1 : x3 = y3 := congrArg Prod.fst he
      have k2 : x4 = y4 := congrArg Prod.snd he
      subst k1 k2
      have e1 : x1 + y1 - x1 = y1 := by omega
      have e2 : x2 + y2 - x2 = y2 := by omega
      simp only [rev_saw, rev_glue, restS, side_ac, with_ac, e1, e2, and_true]
      exact .saw (.inl rfl) hc
    · rw [side_al, side_al] at he
      have k1 : x1 = y1 := congrArg Prod.fst he
      have k2 : x2 = y2 := congrArg Prod.snd he
      subst k1 k2
      have e1 : x3 + y3 - x3 = y3 := by omega
      have e2 : x4 + y4 - x4 = y4 := by omega
      simp only [rev_saw, rev_glue, restS, side_al, with_al, e1, e2, and_true]
      exact .saw (.inr rfl) hc
  | @stack x s n c hs hn hc =>
    obtain ⟨x1, x2, x3, x4⟩ := x
    have n0 : n ≠ 0 := by omega
    rw [rev_stack, rev_split]
    rcases hs with rfl | rfl
    · simp only [side_ac, with_ac]
      rw [Int.mul_ediv_cancel _ n0, Int.mul_ediv_cancel _ n0]
      exact ⟨.split (.inl rfl) hn hc (by rw [side_ac]; exact Int.mul_emod_left _ _) (by rw [side_ac]; exact Int.mul_emod_left _ _), rfl⟩
    · simp only [side_al, with_al]
      rw [Int.mul_ediv_cancel _ n0, Int.mul_ediv_cancel _ n0]
      exact ⟨.split (.inr rfl) hn hc (by rw [side_al]; exact Int.mul_emod_left _ _) (by rw [side_al]; exact Int.mul_emod_left _ _), rfl⟩
  | @turn x c hc => exact ⟨.turn hc, rfl⟩
/-! ### what a step makes is positive -/
theorem vl_scale {a b d n : Int} (hn : 0 < n) : vl (a * n) (b * n) d = vl a b d * (n * n) := by
  have e : ∀ a : Int, ab (a * n) = ab a * n := by
    intro a
    unfold ab
    by_cases z : a < 0
    · rw [if_pos z, if_pos (Int.mul_neg_of_neg_of_pos z hn), Int.neg_mul]
    · rw [if_neg z, if_neg (by have := Int.mul_nonneg (show 0 ≤ a by omega) (show 0 ≤ n by omega); omega)]
  unfold vl
  rw [e, e]
  grind
theorem vl_up {a b d n : Int} (hn : 0 < n) (h : 0 < vl a b d) : 0 < vl (a * n) (b * n) d := by
  rw [vl_scale hn]
  exact Int.mul_pos h (Int.mul_pos hn hn)
theorem vl_down {a b d n : Int} (hn : 0 < n) (h : 0 < vl (a * n) (b * n) d) : 0 < vl a b d := by
  rw [vl_scale hn] at h
  refine Int.not_le.mp fun z => ?_
  have := Int.mul_le_mul_of_nonneg_right z (show 0 ≤ n * n from Int.le_of_lt (Int.mul_pos hn hn))
  omega
theorem vl_add {d a b c e : Int} (hd : IsRoot d) (h1 : 0 < vl a b d) (h2 : 0 < vl c e d) : 0 < vl (a + c) (b + e) d := (po_iff hd).mp (Po.add hd ((po_iff hd).mpr h1) ((po_iff hd).mpr h2))
theorem sh_iff {d : Int} {x : Sh} : shB d x = true ↔ 0 < vl x.1 x.2.1 d ∧ 0 < vl x.2.2.1 x.2.2.2 d := by
  unfold shB
  rw [Bool.and_eq_true, decide_eq_true_iff, decide_eq_true_iff]
theorem sh_side {d : Int} {x : Sh} {s : Str} (h : shB d x = true) : 0 < vl (sideOf x s).1 (sideOf x s).2 d := by
  rw [sh_iff] at h
  unfold sideOf
  split
  · exact h.1
  · exact h.2
theorem sh_with {d : Int} {x : Sh} {s : Str} {p : Int × Int} (h : shB d x = true) (hp : 0 < vl p.1 p.2 d) : shB d (withS x s p) = true := by
  rw [sh_iff] at h ⊢
  unfold withS
  by_cases z : s = "across"
  · rw [if_pos z]
    exact ⟨hp, h.2⟩
  · rw [if_neg z]
    exact ⟨h.1, hp⟩
def SawOk (d : Int) : List Itm → Prop
  | [.str _, .sheet x, .str s, .pair a b, .int _] => 0 < vl a b d ∧ 0 < vl (restS x s a b).1 (restS x s a b).2 d
  | _ => True
def NeedOk (d : Int) (ts : List Itm) : Prop := ∀ e ∈ needI ts, shB d e.1 = true
theorem need_glue {x y : Sh} {s : Str} {c : Int} : needI [.str "glue", .sheet x, .sheet y, .str s, .int c] = if y = x then [(x, 2 * c)] else [(x, c), (y, c)] := rfl
theorem glue_need {d : Int} {x y : Sh} {s : Str} {c : Int} : NeedOk d [.str "glue", .sheet x, .sheet y, .str s, .int c] ↔ shB d x = true ∧ shB d y = true := by
  rw [NeedOk, need_glue]
  by_cases z : y = x
  · subst z
    simp
  · simp [z]
theorem rev_ok {d : Int} {ts : List Itm} (hd : IsRoot d) (g : Good ts) (n : NeedOk d ts) (k : SawOk d ts) : NeedOk d (revI ts) ∧ SawOk d (revI ts) := by
  cases g with
  | @saw x s a b c hs hc =>
    have hx : shB d x = true := n (x, c) List.mem_cons_self
    exact ⟨glue_need.mpr ⟨sh_with hx k.1, sh_with hx k.2⟩, trivial⟩
  | @split x s m c hs hm hc e1 e2 =>
    rw [NeedOk, need_split] at n
    have hx : shB d x = true := n (x, c) List.mem_cons_self
    have hp := sh_side (s := s) hx
    rw [rev_split]
    refine ⟨fun e he => ?_, trivial⟩
    rw [need_stack, List.mem_singleton] at he
    subst he
    refine sh_with hx (vl_down (n := m) (by omega) ?_)
    rw [Int.ediv_mul_cancel (Int.dvd_of_emod_eq_zero e1), Int.ediv_mul_cancel (Int.dvd_of_emod_eq_zero e2)]
    exact hp
  | @glue x y s c hs hc he =>
    obtain ⟨hx, hy⟩ := glue_need.mp n
    have px := sh_side (s := s) hx
    have py := sh_side (s := s) hy
    have pz := vl_add hd px py
    refine ⟨fun e he => ?_, px, ?_⟩
    · have he : e ∈ [(withS x s ((sideOf x s).1 + (sideOf y s).1, (sideOf x s).2 + (sideOf y s).2), c)] := he
      rw [List.mem_singleton] at he
      subst he
      exact sh_with hx pz
    · have es : ∀ p : Int × Int, sideOf (withS x s p) s = p := by
        intro p
        unfold sideOf withS
        by_cases z : s = "across"
        · rw [if_pos z, if_pos z]
        · rw [if_neg z, if_neg z]
      unfold restS
      rw [es]
      rw [show (sideOf x s).1 + (sideOf y s).1 - (sideOf x s).1 = (sideOf y s).1 by omega, show (sideOf x s).2 + (sideOf y s).2 - (sideOf x s).2 = (sideOf y s).2 by omega]
      exact py
  | @stack x s m c hs hm hc =>
    rw [NeedOk, need_stack] at n
    have hx : shB d x = true := n (x, m * c) List.mem_cons_self
    have hp := sh_side (s := s) hx
    rw [rev_stack]
    refine ⟨fun e he => ?_, trivial⟩
    rw [need_split, List.mem_singleton] at he
    subst he
    exact sh_with hx (vl_up (by omega) hp)
  | @turn x c hc =>
    have hx : shB d x = true := n (x, c) List.mem_cons_self
    refine ⟨fun e he => ?_, trivial⟩
    have he : e ∈ [(turnS x, c)] := he
    rw [List.mem_singleton] at he
    subst he
    rw [sh_iff] at hx ⊢
    exact ⟨hx.2, hx.1⟩
theorem need_pos {ts : List Itm} (g : Good ts) : ∀ e ∈ needI ts, 1 ≤ e.2 := by
  cases g with
  | @saw x s a b c hs hc =>
    intro e he
    rw [List.mem_singleton.mp he]
    exact hc
  | @split x s m c hs hm hc e1 e2 =>
    rw [need_split]
    intro e he
    rw [List.mem_singleton.mp he]
    exact hc
  | @glue x y s c hs hc he =>
    intro e he
    rw [need_glue] at he
    by_cases z : y = x
    · rw [if_pos z, List.mem_singleton] at he
      rw [he]
      show 1 ≤ 2 * c
      omega
    · rw [if_neg z] at he
      simp only [List.mem_cons, List.not_mem_nil, or_false] at he
      rcases he with rfl | rfl <;> exact hc
  | @stack x s m c hs hm hc =>
    rw [need_stack]
    intro e he
    rw [List.mem_singleton.mp he]
    have := Int.mul_le_mul hm hc (by omega) (by omega)
    show 1 ≤ m * c
    omega
  | @turn x c hc =>
    intro e he
    rw [List.mem_singleton.mp he]
    exact hc
theorem need_100 {ts : List Itm} (g : Good ts) (h : ∀ t ∈ ts, ItG t) : ∀ e ∈ needI ts, Sh100 e.1 := by
  have up : ∀ {x : Sh}, ItG (.sheet x) → Sh100 x := by
    intro x hx
    unfold ItG ItM at hx
    exact ⟨Nat.lt_of_le_of_lt hx.1.1 (by decide), Nat.lt_of_le_of_lt hx.1.2 (by decide), Nat.lt_of_le_of_lt hx.2.1 (by decide), Nat.lt_of_le_of_lt hx.2.2 (by decide)⟩
  cases g with
  | @saw x s a b c hs hc =>
    intro e he
    rw [List.mem_singleton.mp he]
    exact up (h _ (by simp))
  | @split x s m c hs hm hc e1 e2 =>
    rw [need_split]
    intro e he
    rw [List.mem_singleton.mp he]
    exact up (h _ (by simp))
  | @glue x y s c hs hc he =>
    intro e he
    rw [need_glue] at he
    by_cases z : y = x
    · rw [if_pos z, List.mem_singleton] at he
      rw [he]
      exact up (h _ (by simp))
    · rw [if_neg z] at he
      simp only [List.mem_cons, List.not_mem_nil, or_false] at he
      rcases he with rfl | rfl <;> exact up (h _ (by simp))
  | @stack x s m c hs hm hc =>
    rw [need_stack]
    intro e he
    rw [List.mem_singleton.mp he]
    exact up (h _ (by simp))
  | @turn x c hc =>
    intro e he
    rw [List.mem_singleton.mp he]
    exact up (h _ (by simp))
/-! ### sheets as data that are compared -/
theorem encS_eqv (x y : Sh) : PyData.eqv (encS x) (encS y) = decide (x = y) := by
  obtain ⟨a, b, c, e⟩ := x
  obtain ⟨a', b', c', e'⟩ := y
  unfold encS
  rw [Bool.eq_iff_iff, decide_eq_true_iff]
  simp [PyData.eqv, PyData.eqvAll, and_assoc]
theorem encS_shaped (x : Sh) : SeqAt.shaped (encS x) = true := by
  unfold encS SeqAt.shaped
  simp [PyData.canLay0, PyData.canLayAll0, PyData.depth, PyData.depthAll]
/-! ### steps that are allowed -/
def turnB : List Itm → Bool
  | .str s :: _ => decide (s = "turn")
  | _ => false
def allowB (tu : Bool) (ts : List Itm) : Bool := stepB ts && (tu || !turnB ts)
theorem step_word {ts : List Itm} (h : stepB ts = true) : ∃ s r, ts = .str s :: r := by
  unfold stepB at h
  rw [Bool.and_eq_true] at h
  cases shape_inv h.1 <;> exact ⟨_, _, rfl⟩
theorem dS {x y : Str} : decide (V.str x = V.str y) = decide (x = y) := by
  by_cases h : x = y
  · rw [h, decide_eq_true rfl, decide_eq_true rfl]
  · rw [decide_eq_false h, decide_eq_false fun z => h (V.str.inj z)]
section
variable {base : Heap} {K : PySem.W.Frag} {mg : Str → Option Value} {P : Program} {w : World}
def spAllow : Sp := fun vs H Q _ => ∃ (p : Addr) (ts : List Itm) (tu : Bool), vs = [.ref p, .bl tu] ∧ StepAt H p ts ∧ ts.length ≤ 10 ∧ ∀ H', Same H H' → Q (.bl (allowB tu ts)) H'
theorem ok_is_allowed (T : Txt K mg) (D : Shps K w T.u_SHAPES) : FnOk P w K mg base CX0 6 T.f_is_allowed T.d_is_allowed ["step", "turning"] spAllow := by
  refine T.F_is_allowed.ok sc_is_allowed (fun vs H Q E h => ?_) (fun cdv A outer s H vs Q E hr h => ?_)
  · obtain ⟨p, ts, tu, rfl, _⟩ := h
    rfl
  · obtain ⟨p, ts, tu, rfl, hS, ln, q⟩ := h
    refine ⟨_, (pss_one (ps_ret (pe_and (pe_call (ok_is_step T D) (hr.mono (by decide)) (by rfl) T.g_is_step T.F_is_step.kp T.b_is_step .nil pass0 (pa_cons (pv 0) pa_nil)) (pe_one (pe_or (pv 1) (pe_one (pe_cmpR op_ne (pe_ix ix_tup (pv 0) pe_int (fun _ _ => rfl)) pe_str (nomark _)))))))), ?_⟩
    refine ⟨_, rfl, p, ts, rfl, hS, ln, fun H1 s1 => ⟨stepB ts, rfl, ?_⟩⟩
    unfold allowB at q
    cases z : stepB ts with
    | false =>
      rw [z, Bool.false_and] at q
      exact iteF (q _ s1)
    | true =>
      rw [z, Bool.true_and] at q
      refine iteT ⟨_, rfl, tu, rfl, ?_⟩
      cases tu with
      | true => exact iteT (q _ s1)
      | false =>
        obtain ⟨wd, r, rfl⟩ := step_word z
        obtain ⟨vs, hp, hts⟩ := hS.same s1
        obtain ⟨v, vs', rfl, ⟨e, _⟩⟩ := pinh hts
        subst e
        refine iteF (use_ix rfl hp (atI_nat (j := 0) rfl) ⟨rfl, ?_⟩)
        rw [dS]
        exact q _ s1
end
/-! ### a step, done to the counts of a heap -/
section
variable {X : Cx}
theorem ps_dead {st : Stmt} : PS X st (fun _ _ _ => False) := ⟨fun _ _ _ _ _ _ h => h.elim⟩
end
section
variable {base : Heap} {K : PySem.W.Frag} {mg : Str → Option Value} {P : Program} {w : World}
def spNeeds : Sp := fun vs H Q _ => ∃ (p : Addr) (ts : List Itm), vs = [.ref p] ∧ StepAt H p ts ∧ Good ts ∧ (∀ t ∈ ts, ItG t) ∧ ∀ l rs H', H l = none → Same H H' → RowsL H' l rs → pairsE rs = needI ts → Q (.ref l) H'
theorem dInt {x y : Int} : decide (V.int x = V.int y) = decide (x = y) := by
  by_cases h : x = y
  · rw [h, decide_eq_true rfl, decide_eq_true rfl]
  · rw [decide_eq_false h, decide_eq_false fun z => h (V.int.inj z)]
theorem rowsL_one {H : Hp} {t l q : Addr} {x : Sh} {n : Int} (ht : H t = none) (hl : (upd H t (.tup [.ref q, .int n])) l = none) (hx : ShAt H q x) :
    Same H (upd (upd H t (.tup [.ref q, .int n])) l (.lst [.ref t])) ∧ RowsL (upd (upd H t (.tup [.ref q, .int n])) l (.lst [.ref t])) l [(x, q, n)] := by
  have k1 := same_new (o := .tup [.ref q, .int n]) ht
  have k2 := same_new (o := .lst [.ref t]) hl
  refine ⟨k1.trans k2, [t], upd_same, .cons (k2 _ _ upd_same) .nil, fun e he => ?_⟩
  rw [List.mem_singleton.mp he]
  exact hx.same (k1.trans k2)
theorem ok_needs_of (T : Txt K mg) : FnOk P w K mg base CX0 1 T.f_needs_of T.d_needs_of ["step"] spNeeds := by
  refine T.F_needs_of.ok sc_needs_of (fun vs H Q E h => ?_) (fun cdv A outer s H vs Q E hr h => ?_)
  · obtain ⟨p, ts, rfl, _⟩ := h
    rfl
  · obtain ⟨p, ts, rfl, hp, sh, gb, q⟩ := h
    refine ⟨_, (pss_cons (ps_set (i := 1) sc_needs_of.nd rfl (Or.inl rfl) (pe_ix ix_tup (pv 0) pe_int (fun _ _ => rfl)))
      (pss_cons (ps_set (i := 2) sc_needs_of.nd rfl (Or.inl rfl) (pe_ix ix_tup (pv 0) (pe_un un_neg pe_int) (fun _ _ => rfl)))
      (pss_cons (ps_if (pt_cmpR op_eq (pe_ix ix_tup (pv 0) pe_int (fun _ _ => rfl)) pe_str (nomark _)) (pss_one (ps_ret (pe_lst (pa_cons (pe_tup (pa_cons (pv 1) (pa_cons (pe_op op_mulW (pe_ix ix_tup (pv 0) pe_int (fun _ _ => rfl)) (pv 2)) pa_nil))) pa_nil)))) pss_nil)
      (pss_cons (ps_if (pt_cmpR op_ne (pe_ix ix_tup (pv 0) pe_int (fun _ _ => rfl)) pe_str (nomark _)) (pss_one (ps_ret (pe_lst (pa_cons (pe_tup (pa_cons (pv 1) (pa_cons (pv 2) pa_nil))) pa_nil)))) pss_nil)
      (pss_cons (ps_set (i := 3) sc_needs_of.nd rfl (Or.inl rfl) (pe_ix ix_tup (pv 0) pe_int (fun _ _ => rfl)))
      (pss_cons (ps_if (pt_cmpR (op_eqD hr.units) (pv 3) (pv 1) (nomark _)) (pss_one (ps_ret (pe_lst (pa_cons (pe_tup (pa_cons (pv 1) (pa_cons (pe_op op_mulW pe_int (pv 2)) pa_nil))) pa_nil)))) pss_nil)
      (pss_one (ps_ret (pe_lst (pa_cons (pe_tup (pa_cons (pv 1) (pa_cons (pv 2) pa_nil))) (pa_cons (pe_tup (pa_cons (pv 3) (pa_cons (pv 2) pa_nil))) pa_nil))))))))))), ?_⟩
    obtain ⟨vs, hp, hts⟩ := hp
    have i64 : ∀ {n : Int}, ItG (.int n) → n.natAbs < 2 ^ 64 := fun h => Nat.lt_of_le_of_lt h (by decide)
    cases sh with
    | @turn x c hc =>
      obtain ⟨v0, v1, v2, rfl, ⟨e0, _⟩, ⟨px, e1, hx⟩, h2⟩ := pin3 hts
      subst e0 e1
      cases (show v2 = .int c from h2)
      refine use_ix rfl hp (atI_nat (j := 1) rfl) ⟨_, rfl, 1, rfl, p, _, -1, .int c, rfl, rfl, SqT.of hp, atI_last [V.str "turn", V.ref px] (V.int c), ?_⟩
      refine use_ix rfl hp (atI_nat (j := 0) rfl) ⟨rfl, false, by decide +kernel, iteF ?_⟩
      refine use_ix rfl hp (atI_nat (j := 0) rfl) ⟨rfl, true, by decide +kernel, iteT ?_⟩
      refine ⟨_, rfl, _, rfl, by show 2 ≤ sizeLine; decide, fun t nt => ⟨by show 1 ≤ sizeLine; decide, fun l nl => ?_⟩⟩
      obtain ⟨k, R⟩ := rowsL_one (l := l) nt nl hx
      exact q l _ _ ((same_new nt).free nl) k R rfl
    | @saw x sd a b c hs hc =>
      obtain ⟨v0, v1, v2, v3, v4, rfl, ⟨e0, _⟩, ⟨px, e1, hx⟩, ⟨e2, _⟩, ⟨r3, e3, h3⟩, h4⟩ := pin5 hts
      subst e0 e1 e2 e3
      cases (show v4 = .int c from h4)
      refine use_ix rfl hp (atI_nat (j := 1) rfl) ⟨_, rfl, 1, rfl, p, _, -1, .int c, rfl, rfl, SqT.of hp, atI_last [V.str "saw", V.ref px, V.str sd, V.ref r3] (V.int c), ?_⟩
      refine use_ix rfl hp (atI_nat (j := 0) rfl) ⟨rfl, false, by decide +kernel, iteF ?_⟩
      refine use_ix rfl hp (atI_nat (j := 0) rfl) ⟨rfl, true, by decide +kernel, iteT ?_⟩
      refine ⟨_, rfl, _, rfl, by show 2 ≤ sizeLine; decide, fun t nt => ⟨by show 1 ≤ sizeLine; decide, fun l nl => ?_⟩⟩
      obtain ⟨k, R⟩ := rowsL_one (l := l) nt nl hx
      exact q l _ _ ((same_new nt).free nl) k R rfl
    | @glue x y sd c hs hc he =>
      obtain ⟨v0, v1, v2, v3, v4, rfl, ⟨e0, _⟩, ⟨px, e1, hx⟩, ⟨py, e2, hy⟩, ⟨e3, _⟩, h4⟩ := pin5 hts
      subst e0 e1 e2 e3
      cases (show v4 = .int c from h4)
      have bc : ItG (.int c) := gb _ (by simp)
      refine use_ix rfl hp (atI_nat (j := 1) rfl) ⟨_, rfl, 1, rfl, p, _, -1, .int c, rfl, rfl, SqT.of hp, atI_last [V.str "glue", V.ref px, V.ref py, V.str sd] (V.int c), ?_⟩
      refine use_ix rfl hp (atI_nat (j := 0) rfl) ⟨rfl, false, by decide +kernel, iteF ?_⟩
      refine use_ix rfl hp (atI_nat (j := 0) rfl) ⟨rfl, false, by decide +kernel, iteF ?_⟩
      refine use_ix rfl hp (atI_nat (j := 2) rfl) ?_
      rw [need_glue] at q
      by_cases z : y = x
      · rw [if_pos z] at q
        refine ⟨_, rfl, _, rfl, _, _, sh_dp hy, sh_dp hx, encS_shaped _, encS_shaped _, true, (by rw [encS_eqv, decide_eq_true z]), iteT ?_⟩
        refine ⟨_, rfl, _, rfl, 2, c, rfl, rfl, wide_mul (show (2 : Int).natAbs < 2 ^ 2 by decide) (i64 bc) (by decide) (by decide) (by decide), by show 2 ≤ sizeLine; decide, fun t nt => ⟨by show 1 ≤ sizeLine; decide, fun l nl => ?_⟩⟩
        obtain ⟨k, R⟩ := rowsL_one (l := l) nt nl hx
        exact q l _ _ ((same_new nt).free nl) k R rfl
      · rw [if_neg z] at q
        refine ⟨_, rfl, _, rfl, _, _, sh_dp hy, sh_dp hx, encS_shaped _, encS_shaped _, false, (by rw [encS_eqv, decide_eq_false z]), iteF ?_⟩
        refine ⟨_, rfl, _, rfl, by show 2 ≤ sizeLine; decide, fun t nt => ⟨_, rfl, _, rfl, by show 2 ≤ sizeLine; decide, fun t2 nt2 => ⟨by show 2 ≤ sizeLine; decide, fun l nl => ?_⟩⟩⟩
        have k1 := same_new (o := .tup [.ref px, .int c]) nt
        have k2 := same_new (o := .tup [.ref py, .int c]) nt2
        have k3 := same_new (o := .lst [.ref t, .ref t2]) nl
        refine q l [(x, px, c), (y, py, c)] _ ((k1.trans k2).free nl) (k1.trans (k2.trans k3)) ⟨[t, t2], upd_same, .cons ((k2.trans k3) _ _ upd_same) (.cons (k3 _ _ upd_same) .nil), fun e he => ?_⟩ rfl
        simp only [List.mem_cons, List.not_mem_nil, or_false] at he
        rcases he with rfl | rfl
        · exact hx.same (k1.trans (k2.trans k3))
        · exact hy.same (k1.trans (k2.trans k3))
    | @stack x sd n c hs hn hc =>
      obtain ⟨v0, v1, v2, v3, v4, rfl, ⟨e0, _⟩, ⟨px, e1, hx⟩, ⟨e2, _⟩, h3, h4⟩ := pin5 hts
      subst e0 e1 e2
      cases (show v3 = .int n from h3)
      cases (show v4 = .int c from h4)
      have bn : ItG (.int n) := gb _ (by simp)
      have bc : ItG (.int c) := gb _ (by simp)
      rw [need_stack] at q
      refine use_ix rfl hp (atI_nat (j := 1) rfl) ⟨_, rfl, 1, rfl, p, _, -1, .int c, rfl, rfl, SqT.of hp, atI_last [V.str "stack", V.ref px, V.str sd, V.int n] (V.int c), ?_⟩
      refine use_ix rfl hp (atI_nat (j := 0) rfl) ⟨rfl, true, by decide +kernel, iteT ?_⟩
      refine ⟨_, rfl, use_ix rfl hp (atI_nat (j := 3) rfl) ⟨_, rfl, n, c, rfl, rfl, wide_mul (i64 bn) (i64 bc) (by decide) (by decide) (by decide), by show 2 ≤ sizeLine; decide, fun t nt => ⟨by show 1 ≤ sizeLine; decide, fun l nl => ?_⟩⟩⟩
      obtain ⟨k, R⟩ := rowsL_one (l := l) nt nl hx
      exact q l _ _ ((same_new nt).free nl) k R rfl
    | @split x sd n c hs hn hc e1 e2 =>
      obtain ⟨v0, v1, v2, v3, v4, rfl, ⟨e0, _⟩, ⟨px, e1, hx⟩, ⟨e2, _⟩, h3, h4⟩ := pin5 hts
      subst e0 e1 e2
      cases (show v3 = .int n from h3)
      cases (show v4 = .int c from h4)
      rw [need_split] at q
      refine use_ix rfl hp (atI_nat (j := 1) rfl) ⟨_, rfl, 1, rfl, p, _, -1, .int c, rfl, rfl, SqT.of hp, atI_last [V.str "split", V.ref px, V.str sd, V.int n] (V.int c), ?_⟩
      refine use_ix rfl hp (atI_nat (j := 0) rfl) ⟨rfl, false, by decide +kernel, iteF ?_⟩
      refine use_ix rfl hp (atI_nat (j := 0) rfl) ⟨rfl, true, by decide +kernel, iteT ?_⟩
      refine ⟨_, rfl, _, rfl, by show 2 ≤ sizeLine; decide, fun t nt => ⟨by show 1 ≤ sizeLine; decide, fun l nl => ?_⟩⟩
      obtain ⟨k, R⟩ := rowsL_one (l := l) nt nl hx
      exact q l _ _ ((same_new nt).free nl) k R rfl
def spSaws : Sp := fun vs H Q _ => ∃ (p : Addr) (d : Int) (x : Sh) (s : Str) (a b c : Int), vs = [.ref p, .int d] ∧ StepAt H p [.str "saw", .sheet x, .str s, .pair a b, .int c] ∧ ItG (.pair a b) ∧ ItG (.sheet x) ∧ d.natAbs < 2 ^ 64 ∧ 0 < vl a b d ∧ 0 < vl (restS x s a b).1 (restS x s a b).2 d ∧ ∀ H', Same H H' → Q (.bl true) H'
theorem ok_saws_lengths (T : Txt K mg) : FnOk P w K mg base CX0 3 T.f_saws_lengths T.d_saws_lengths ["step", "root"] spSaws := by
  refine T.F_saws_lengths.ok sc_saws_lengths (fun vs H Q E h => ?_) (fun cdv A outer s H vs Q E hr h => ?_)
  · obtain ⟨p, d, x, sd, a, b, c, rfl, _⟩ := h
    rfl
  · obtain ⟨p, d, x, sd, a, b, c, rfl, hp, b1, b2, hd, v1, v2, q⟩ := h
    refine ⟨_, (pss_one (ps_ret (pe_and (pe_call (ok_is_length T) (hr.mono (by decide)) (by rfl) T.g_is_length T.F_is_length.kp T.b_is_length .nil pass0 (pa_cons (pe_ix ix_tup (pv 0) pe_int (fun _ _ => rfl)) (pa_cons (pv 1) pa_nil))) (pe_one (pe_call (ok_is_length T) (hr.mono (by decide)) (by rfl) T.g_is_length T.F_is_length.kp T.b_is_length .nil pass0 (pa_cons (pe_call (ok_rest_of_saw T) (hr.mono (by decide)) (by rfl) T.g_rest_of_saw T.F_rest_of_saw.kp T.b_rest_of_saw .nil pass0 (pa_cons (pv 0) pa_nil)) (pa_cons (pv 1) pa_nil))))))), ?_⟩
    obtain ⟨vs, hp0, hts⟩ := id hp
    obtain ⟨v0, v1, v2, v3, v4, rfl, ⟨e0, _⟩, ⟨px, e1, hx⟩, ⟨e2, _⟩, ⟨r3, e3, h3⟩, h4⟩ := pin5 hts
    subst e0 e1 e2 e3
    cases (show v4 = .int c from h4)
    have s1 := side_n (s := sd) b2
    have w1 : ∀ {z : Int}, z.natAbs ≤ 2 ^ 64 → z.natAbs < 2 ^ 9000 := fun h => w100 (Nat.lt_of_le_of_lt h (by decide))
    have w2 : ∀ {y z : Int}, y.natAbs ≤ 2 ^ 64 → z.natAbs ≤ 2 ^ 64 → (y - z).natAbs < 2 ^ 9000 := fun h g => w100 (Nat.lt_of_le_of_lt (nat_two (N := 0) h g).2 (by decide))
    refine use_ix rfl hp0 (atI_nat (j := 3) rfl) ⟨_, rfl, .ref r3, d, a, b, rfl, ⟨r3, rfl, SqT.of h3⟩, hd, w1 b1.1, w1 b1.2, _, rfl, ?_⟩
    rw [sgnI_pos v1]
    refine iteT ⟨_, rfl, p, x, sd, a, b, c, rfl, hp, b1, fun r H1 n1 k1 hr => ⟨_, rfl, .ref r, d, _, _, rfl, ⟨r, rfl, SqT.of hr⟩, hd, w2 s1.1 b1.1, w2 s1.2 b1.2, ?_⟩⟩
    rw [sgnI_pos v2]
    exact q _ k1
def spPossible : Sp := fun vs H Q _ => ∃ (p : Addr) (d i : Int) (ts : List Itm), vs = [.ref p, .int d, .bl true, .int i] ∧ StepAt H p ts ∧ Good ts ∧ (∀ t ∈ ts, ItG t) ∧ d.natAbs < 2 ^ 64 ∧ SawOk d ts ∧ ∀ H', Same H H' → Q .non H'
theorem ok_check_possible (T : Txt K mg) (D : Shps K w T.u_SHAPES) : FnOk P w K mg base CX0 7 T.f_check_possible T.d_check_possible ["step", "root", "turning", "at"] spPossible := by
  refine T.F_check_possible.ok sc_check_possible (fun vs H Q E h => ?_) (fun cdv A outer s H vs Q E hr h => ?_)
  · obtain ⟨p, d, i, ts, rfl, _⟩ := h
    rfl
  · obtain ⟨p, d, i, ts, rfl, hp, g, gb, hd, sk, q⟩ := h
    refine ⟨_, (pss_cons (ps_if (pt_not (pt_val (pe_call (ok_is_allowed T D) (hr.mono (by decide)) (by rfl) T.g_is_allowed T.F_is_allowed.kp T.b_is_allowed .nil pass0 (pa_cons (pv 0) (pa_cons (pv 2) pa_nil))))) (pss_one ps_dead) pss_nil)
      (pss_one (ps_if (PW.pt (pw_and (pt_cmpR op_eq (pe_ix ix_tup (pv 0) pe_int (fun _ _ => rfl)) pe_str (nomark _)) (pw_and1 (pt_not (pt_val (pe_call (ok_saws_lengths T) (hr.mono (by decide)) (by rfl) T.g_saws_lengths T.F_saws_lengths.kp T.b_saws_lengths .nil pass0 (pa_cons (pv 0) (pa_cons (pv 1) pa_nil)))))))) (pss_one ps_dead) pss_nil))), ?_⟩
    have ln : ts.length ≤ 10 := by cases g <;> simp
    refine ⟨_, rfl, _, rfl, p, ts, true, rfl, hp, ln, fun H1 s1 => ⟨_, rfl, ?_⟩⟩
    have al : allowB true ts = true := by
      unfold allowB
      rw [g.step]
      rfl
    rw [al]
    refine iteF ?_
    have hp1 := hp.same s1
    obtain ⟨vs, hp0, hts⟩ := id hp1
    cases g with
    | @saw x sd a b c hs hc =>
      obtain ⟨v0, vs', rfl, ⟨e0, _⟩⟩ := pinh hts
      subst e0
      refine use_ix rfl hp0 (atI_nat (j := 0) rfl) ⟨rfl, true, by decide +kernel, iteT ?_⟩
      exact ⟨_, rfl, _, rfl, p, d, x, sd, a, b, c, rfl, hp1, gb _ (by simp), gb _ (by simp), hd, sk.1, sk.2, fun H2 s2 => ⟨_, rfl, iteF (q _ (s1.trans s2))⟩⟩
    | @split x sd n c hs hn hc e1 e2 =>
      obtain ⟨v0, vs', rfl, ⟨e0, _⟩⟩ := pinh hts
      subst e0
      exact use_ix rfl hp0 (atI_nat (j := 0) rfl) ⟨rfl, false, by decide +kernel, iteF (q _ s1)⟩
    | @glue x y sd c hs hc he =>
      obtain ⟨v0, vs', rfl, ⟨e0, _⟩⟩ := pinh hts
      subst e0
      exact use_ix rfl hp0 (atI_nat (j := 0) rfl) ⟨rfl, false, by decide +kernel, iteF (q _ s1)⟩
    | @stack x sd n c hs hn hc =>
      obtain ⟨v0, vs', rfl, ⟨e0, _⟩⟩ := pinh hts
      subst e0
      exact use_ix rfl hp0 (atI_nat (j := 0) rfl) ⟨rfl, false, by decide +kernel, iteF (q _ s1)⟩
    | @turn x c hc =>
      obtain ⟨v0, vs', rfl, ⟨e0, _⟩⟩ := pinh hts
      subst e0
      exact use_ix rfl hp0 (atI_nat (j := 0) rfl) ⟨rfl, false, by decide +kernel, iteF (q _ s1)⟩
def spCounts (P : Program) (w : World) (C : Addr) : Sp := fun vs H Q _ => ∃ (p : Addr) (d : Int) (es : DEs), vs = [.ref p] ∧ HeapAt P w C H p d es ∧ (keysD es).Nodup ∧ es.length ≤ 1000 ∧ ∀ c H', H c = none → Same H H' → DAt P w H' c es → Q (.ref c) H'
theorem ok_counts_of (T : Txt K mg) : FnOk P w K mg base CX0 2 T.f_counts_of T.d_counts_of ["heap"] (spCounts P w T.C_Heap) := by
  refine T.F_counts_of.ok sc_counts_of (fun vs H Q E h => ?_) (fun cdv A outer s H vs Q E hr h => ?_)
  · obtain ⟨p, d, es, rfl, _⟩ := h
    rfl
  · obtain ⟨p, d, es, rfl, hp, nd, hn, q⟩ := h
    refine ⟨_, (pss_one (ps_ret (pe_dcS (own := [("sheet", 1), ("count", 2)]) (g := (gTup K 2 (gCons (gName 1) (gCons (gName 2) gNil)))) (by rfl) hr.units sc_counts_of.nd (pi_list (pe_meth0 (pv 0) T.cl_Heap T.m_Heap_rows (ok_Heap_rows T) (hr.mono (by decide)) T.b_Heap_rows .nil pass0)) (blkOk_by (own := [("sheet", 1), ("count", 2)]) (N := ["heap", "sheet", "count"]) (sc := defScope s_counts_of) (by decide +kernel)) (fun _ _ _ _ _ => (pg_tup (by rfl) (pgs_cons (pg_name (i := 1) sc_counts_of.nd rfl (Or.inl rfl)) (pgs_cons (pg_name (i := 2) sc_counts_of.nd rfl (Or.inl rfl)) pgs_nil)))) (fun _ _ _ _ _ => (pv 1)) (fun _ _ _ _ _ => (pv 2))))), ?_⟩
    obtain ⟨dx, c, hq, DA⟩ := id hp
    refine ⟨_, rfl, p, dx, _, rfl, hq, rfl, p, d, es, rfl, hp, fun l as H1 n1 s1 hl hR => ⟨l, rfl, ⟨_, SqL.of hl⟩, fun D hD => ?_⟩⟩
    refine dcS_list (K := K) (a := l) (xs := as.map V.ref) (fun i G => Same H1 G ∧ DAt P w G D (es.take i)) ⟨same_new hD, upd_same, fun x hx => by cases hx⟩ (fun i G _ z => SqL.of (z.1 _ _ hl)) ?_ ?_ ?_
    · rintro i x G hx ⟨sG, DG⟩
      obtain ⟨a, e, rfl, he, ha⟩ := hR.row hx
      have hs := (DA.same (s1.trans sG)).ks e (List.mem_of_getElem? he)
      have e1 := take_put nd he
      refine ⟨a, _, rfl, SqT.of (sG _ _ ha), rfl, .ref e.2.1, _, rfl, .int e.2.2, _, rfl, rfl, rfl, .ref e.2.1, rfl, .int e.2.2, rfl, e.2.1, e.1, e.2.2, _, rfl, rfl, DG, hs, small_of (by rw [List.length_take]; omega), ?_⟩
      rw [e1]
      refine ⟨fun b o z => (upd_ne (ne_of_none z hD)).trans (sG b o z), ?_⟩
      have := DG.put (n := e.2.2) hs
      rw [e1] at this
      exact this
    · rintro G ⟨sG, DG⟩
      rw [List.length_map, hR.len, List.take_length] at DG
      exact q D G (s1.free hD) (s1.trans sG) DG
    · rintro N N' x G hN ⟨a, xs, h1, h2, h3, v, r, h4, v2, r2, h5, h6, hw, y, h7, z, h8, p1, k1, m1, es1, g1, g2, g3, g4, g5, h15⟩
      exact ⟨a, xs, h1, h2, h3, v, r, h4, v2, r2, h5, h6, hw, y, h7, z, h8, p1, k1, m1, es1, g1, g2, g3, g4, g5, hN _ h15⟩
def spTake (P : Program) (w : World) : Sp := fun vs H Q _ => ∃ (c l : Addr) (es rs : DEs), vs = [.ref c, .ref l] ∧ DAt P w H c es ∧ RowsL H l rs ∧ Taken es rs ∧ es.length ≤ 1000 ∧ ∀ H', Keep c H H' → DAt P w H' c (takeTo es rs rs.length) → Q .non H'
theorem ok_take_rows (T : Txt K mg) : FnOk P w K mg base CX0 1 T.f_take_rows T.d_take_rows ["counts", "rows"] (spTake P w) := by
  refine T.F_take_rows.ok sc_take_rows (fun vs H Q E h => ?_) (fun cdv A outer s H vs Q E hr h => ?_)
  · obtain ⟨c, l, es, rs, rfl, _⟩ := h
    rfl
  · obtain ⟨c, l, es, rs, rfl, D, R, tk, hn, q⟩ := h
    refine ⟨_, (pss_cons (ps_for PassesOwn.never rfl (pi_list (pv 1)) (pg_tup (by rfl) (pgs_cons (pg_name (i := 2) sc_take_rows.nd rfl (Or.inl rfl)) (pgs_cons (pg_name (i := 3) sc_take_rows.nd rfl (Or.inl rfl)) pgs_nil))) (pss_one (ps_if (pt_cmpR op_lt (pe_sget2 hr.units (pv 0) (pv 2) pe_int ⟨rfl, rfl, rfl, rfl⟩) (pv 3) (nomark _)) (pss_one ps_dead) pss_nil)))
      (pss_one (ps_for PassesOwn.never rfl (pi_list (pv 1)) (pg_tup (by rfl) (pgs_cons (pg_name (i := 2) sc_take_rows.nd rfl (Or.inl rfl)) (pgs_cons (pg_name (i := 3) sc_take_rows.nd rfl (Or.inl rfl)) pgs_nil))) (pss_cons (ps_saug hr.units (pv 0) (pv 2) (pv 3) ip_sub (fun _ _ _ => rfl))
      (pss_one (ps_if (pt_cmpR op_eq (pe_sget hr.units (pv 0) (pv 2) (fun _ _ => rfl)) pe_int (nomark _)) (pss_one (ps_sdel hr.units (pv 0) (pv 2))) pss_nil)))))), ?_⟩
    obtain ⟨as, hl, hR, hk⟩ := R
    have nlc : l ≠ c := ne_of hl D.hd (by intro z; cases z)
    have tup : ∀ {G : Hp}, Keep c H G → ∀ a xs, H a = some (.tup xs) → G a = some (.tup xs) := fun k a xs z => k _ _ (ne_of z D.hd (by intro q; cases q)) z
    have tkLen : ∀ i, i ≤ rs.length → (takeTo es rs i).length ≤ es.length := by
      intro i
      induction i with
      | zero => exact fun _ => Nat.le_refl _
      | succ i ih =>
        intro hi
        have he : rs[i]? = some rs[i] := List.getElem?_eq_getElem (by omega)
        have m := tk.le _ (List.mem_of_getElem? he)
        have c := takeTo_at (es := es) tk.nd he
        rw [show takeTo es rs (i + 1) = takeE (takeTo es rs i) rs[i] from foldTo_succ he]
        exact Nat.le_trans (take_len (by rw [c]; omega)) (ih (by omega))
    refine ⟨_, rfl, l, rfl, ⟨_, SqL.of hl⟩, for_list (K := K) (a := l) (xs := as.map V.ref) (fun i σ H' => ∃ y2 y3, σ = [some (.ref c), some (.ref l), y2, y3] ∧ H' = H) ⟨none, none, rfl, rfl⟩ (fun i σ H' _ z => by obtain ⟨_, _, _, rfl⟩ := z; exact SqL.of hl) ?_ ?_⟩
    · rintro i x σ G hx ⟨y2, y3, rfl, rfl⟩
      obtain ⟨a, e, rfl, he, ha⟩ := hR.row hx
      have m := tk.le e (List.mem_of_getElem? he)
      have hs := hk e (List.mem_of_getElem? he)
      refine ⟨a, _, rfl, SqT.of ha, rfl, .ref e.2.1, _, rfl, .int e.2.2, _, rfl, rfl, ?_⟩
      refine ⟨.ref c, rfl, c, _, rfl, D.rd, .ref e.2.1, rfl, e.2.1, e.1, 0, _, rfl, rfl, D.rd, hs, .int e.2.2, rfl, _, _, rfl, rfl, _, rfl, ?_⟩
      rw [decide_eq_false (show ¬ (valD es e.1).getD 0 < e.2.2 from Int.not_lt.mpr m.2)]
      exact iteF ⟨_, _, rfl, rfl⟩
    · rintro σ G ⟨y2, y3, rfl, rfl⟩
      refine ⟨_, rfl, l, rfl, ⟨_, SqL.of hl⟩, for_list (K := K) (a := l) (xs := as.map V.ref) (fun i σ H' => ∃ y2 y3, σ = [some (.ref c), some (.ref l), y2, y3] ∧ Keep c G H' ∧ DAt P w H' c (takeTo es rs i)) ⟨_, _, rfl, Keep.refl _, D⟩ (fun i σ H' _ z => by obtain ⟨_, _, _, k, _⟩ := z; exact SqL.of (k _ _ nlc hl)) ?_ ?_⟩
      · rintro i x σ G2 hx ⟨y2, y3, rfl, k, DG⟩
        obtain ⟨a, e, rfl, he, ha⟩ := hR.row hx
        have hs := (hk e (List.mem_of_getElem? he)).mono (tup k)
        have m := tk.le e (List.mem_of_getElem? he)
        have hi : i < rs.length := (List.getElem?_eq_some_iff.mp he).1
        have ec := takeTo_at (es := es) tk.nd he
        have hv := val_cnt (es := takeTo es rs i) (x := e.1) (by omega)
        have tl : (takeTo es rs i).length ≤ es.length := tkLen i (by omega)
        have D2 := DG.put (n := cnt (takeTo es rs i) e.1 - e.2.2) hs
        have hs2 := hs.mono (H' := upd G2 c (DS P w c (putD (takeTo es rs i) e.1 e.2.1 (cnt (takeTo es rs i) e.1 - e.2.2)))) (tup_ext DG.hd)
        have hv2 : valD (putD (takeTo es rs i) e.1 e.2.1 (cnt (takeTo es rs i) e.1 - e.2.2)) e.1 = some (cnt (takeTo es rs i) e.1 - e.2.2) := by rw [valD_put, if_pos rfl]
        refine ⟨a, _, rfl, SqT.of (tup k _ _ ha), rfl, .ref e.2.1, _, rfl, .int e.2.2, _, rfl, rfl, ?_⟩
        refine ⟨.ref c, rfl, .ref e.2.1, rfl, c, e.2.1, _, e.1, _, rfl, rfl, DG, hs, hv, .int e.2.2, rfl, _, _, rfl, rfl, _, _, rfl, DG, hs, small_of (by omega), ?_⟩
        refine ⟨.ref c, rfl, .ref e.2.1, rfl, c, e.2.1, _, e.1, _, rfl, rfl, D2.rd, hs2, hv2, rfl, _, rfl, ?_⟩
        rw [dInt]
        have stp : takeTo es rs (i + 1) = takeE (takeTo es rs i) e := foldTo_succ he
        unfold takeE at stp
        by_cases z : cnt (takeTo es rs i) e.1 - e.2.2 = 0
        · rw [decide_eq_true z]
          rw [if_pos z] at stp
          refine iteT ⟨.ref c, rfl, .ref e.2.1, rfl, c, e.2.1, _, e.1, _, rfl, rfl, D2, hs2, hv2, ?_⟩
          refine ⟨_, _, rfl, fun b o nb w => (upd_ne nb).trans ((upd_ne nb).trans (k b o nb w)), ?_⟩
          rw [stp]
          exact D2.drop
        · rw [decide_eq_false z]
          rw [if_neg z] at stp
          refine iteF ⟨_, _, rfl, fun b o nb w => (upd_ne nb).trans (k b o nb w), ?_⟩
          rw [stp]
          exact D2
      · rintro σ G2 ⟨y2, y3, rfl, k, DG⟩
        rw [List.length_map, hR.len] at DG
        exact q _ k DG
def spPut (P : Program) (w : World) : Sp := fun vs H Q _ => ∃ (c l : Addr) (es rs : DEs), vs = [.ref c, .ref l] ∧ DAt P w H c es ∧ RowsL H l rs ∧ es.length + rs.length ≤ 1000 ∧ ∀ H', Keep c H H' → DAt P w H' c (addTo es rs rs.length) → Q .non H'
theorem ok_put_rows (T : Txt K mg) : FnOk P w K mg base CX0 1 T.f_put_rows T.d_put_rows ["counts", "rows"] (spPut P w) := by
  refine T.F_put_rows.ok sc_put_rows (fun vs H Q E h => ?_) (fun cdv A outer s H vs Q E hr h => ?_)
  · obtain ⟨c, l, es, rs, rfl, _⟩ := h
    rfl
  · obtain ⟨c, l, es, rs, rfl, D, R, hn, q⟩ := h
    refine ⟨_, (pss_one (ps_for PassesOwn.never rfl (pi_list (pv 1)) (pg_tup (by rfl) (pgs_cons (pg_name (i := 2) sc_put_rows.nd rfl (Or.inl rfl)) (pgs_cons (pg_name (i := 3) sc_put_rows.nd rfl (Or.inl rfl)) pgs_nil))) (pss_one (ps_sput hr.units (pv 0) (pv 2) (pe_op op_add (pe_sget2 hr.units (pv 0) (pv 2) pe_int ⟨rfl, rfl, rfl, rfl⟩) (pv 3)) rfl)))), ?_⟩
    obtain ⟨as, hl, hR, hk⟩ := R
    have nlc : l ≠ c := ne_of hl D.hd (by intro z; cases z)
    have tup : ∀ {G : Hp}, Keep c H G → ∀ a xs, H a = some (.tup xs) → G a = some (.tup xs) := fun k a xs z => k _ _ (ne_of z D.hd (by intro q; cases q)) z
    have addLen : ∀ i, (addTo es rs i).length ≤ es.length + i := by
      intro i
      have := fold_len (rs.take i) es
      have h2 := List.length_take_le i rs
      unfold addTo
      omega
    refine ⟨_, rfl, l, rfl, ⟨_, SqL.of hl⟩, for_list (K := K) (a := l) (xs := as.map V.ref) (fun i σ H' => ∃ y2 y3, σ = [some (.ref c), some (.ref l), y2, y3] ∧ Keep c H H' ∧ DAt P w H' c (addTo es rs i)) ⟨none, none, rfl, Keep.refl _, D⟩ (fun i σ H' _ z => by obtain ⟨_, _, _, k, _⟩ := z; exact SqL.of (k _ _ nlc hl)) ?_ ?_⟩
    · rintro i x σ G hx ⟨y2, y3, rfl, k, DG⟩
      obtain ⟨a, e, rfl, he, ha⟩ := hR.row hx
      have hs := (hk e (List.mem_of_getElem? he)).mono (tup k)
      have hi : i < rs.length := (List.getElem?_eq_some_iff.mp he).1
      refine ⟨a, _, rfl, SqT.of (tup k _ _ ha), rfl, .ref e.2.1, _, rfl, .int e.2.2, _, rfl, rfl, ?_⟩
      refine ⟨.ref c, rfl, c, _, rfl, DG.rd, .ref e.2.1, rfl, e.2.1, e.1, 0, _, rfl, rfl, DG.rd, hs, .int e.2.2, rfl, _, _, rfl, rfl, .ref c, rfl, .ref e.2.1, rfl, c, e.2.1, _, e.1, _, rfl, rfl, rfl, DG, hs, small_of (by have := addLen i; omega), ?_⟩
      refine ⟨_, _, rfl, fun b o nb z => (upd_ne nb).trans (k b o nb z), ?_⟩
      rw [show addTo es rs (i + 1) = addE (addTo es rs i) e from foldTo_succ he]
      exact DG.put hs
    · rintro σ G ⟨y2, y3, rfl, k, DG⟩
      rw [List.length_map, hR.len] at DG
      exact q _ k DG
end
/-! ### a step, done to a heap -/
structure StepOk (d : Int) (es : DEs) (ts : List Itm) : Prop where
  root : IsRoot d
  good : Good ts
  b1 : ∀ t ∈ ts, ItG t
  b2 : ∀ t ∈ revI ts, ItG t
  saw : SawOk d ts
  need : ∀ e ∈ needI ts, e.2 ≤ cnt es e.1
  ge : GoodE d es
  len : es.length ≤ 900
theorem StepOk.ok {d : Int} {es : DEs} {ts : List Itm} (h : StepOk d es ts) : NeedOk d ts := fun e he => (h.ge.key (by
  have := need_pos h.good e he
  have := h.need e he
  omega)).1
theorem StepOk.taken {d : Int} {es rs : DEs} {ts : List Itm} (h : StepOk d es ts) (e : pairsE rs = needI ts) : Taken es rs := by
  refine ⟨by rw [pairs_keys, e]; exact need_nd h.good.shaped, fun f hf => ?_⟩
  have m : (f.1, f.2.2) ∈ needI ts := by
    rw [← e]
    exact List.mem_map.mpr ⟨f, hf, rfl⟩
  exact ⟨need_pos h.good _ m, h.need _ m⟩
theorem StepOk.given {d : Int} {es rs : DEs} {ts : List Itm} (h : StepOk d es ts) (e : pairsE rs = needI (revI ts)) : ∀ f ∈ rs, 1 ≤ f.2.2 ∧ shB d f.1 = true ∧ Sh100 f.1 := by
  intro f hf
  have m : (f.1, f.2.2) ∈ needI (revI ts) := by
    rw [← e]
    exact List.mem_map.mpr ⟨f, hf, rfl⟩
  exact ⟨need_pos h.good.rev.1 _ m, (rev_ok h.root h.good h.ok h.saw).1 _ m, need_100 h.good.rev.1 h.b2 _ m⟩
def DoneTo (es : DEs) (ts : List Itm) (gs : DEs) : Prop := ∀ φ, wsum φ gs = wsum φ es - fsum φ (needI ts) + fsum φ (needI (revI ts))
theorem StepOk.done {d : Int} {es rs rs2 : DEs} {ts : List Itm} (h : StepOk d es ts) (e : pairsE rs = needI ts) (e2 : pairsE rs2 = needI (revI ts)) : GoodE d (addTo (takeTo es rs rs.length) rs2 rs2.length) ∧ (takeTo es rs rs.length).length ≤ es.length ∧ rs2.length ≤ 2 ∧
    (addTo (takeTo es rs rs.length) rs2 rs2.length).length ≤ es.length + 2 ∧ DoneTo es ts (addTo (takeTo es rs rs.length) rs2 rs2.length) := by
  obtain ⟨g1, l1, w1⟩ := takeTo_good h.ge (h.taken e) rs.length (Nat.le_refl _)
  obtain ⟨g2, l2, w2⟩ := addTo_good g1 (h.given e2) rs2.length (Nat.le_refl _)
  have l3 : rs2.length ≤ 2 := by
    have := need_len h.good.rev.1.shaped
    rw [← e2] at this
    unfold pairsE at this
    rw [List.length_map] at this
    exact this
  refine ⟨g2, l1, l3, by omega, fun φ => ?_⟩
  rw [w2 φ, w1 φ, List.take_length, List.take_length, wsum_pairs φ rs, wsum_pairs φ rs2, e, e2]
theorem Same.kept {c : Addr} {H H' : Hp} (s : Same H H') : Keep c H H' := fun a o _ e => s a o e
section
variable {base : Heap} {K : PySem.W.Frag} {mg : Str → Option Value} {P : Program} {w : World}
theorem DAt.tups {H H' : Hp} {c : Addr} {es : DEs} (D : DAt P w H c es) (k : Keep c H H') : ∀ a xs, H a = some (.tup xs) → H' a = some (.tup xs) := fun a xs z => k _ _ (ne_of z D.hd (by intro q; cases q)) z
def spChange (P : Program) (w : World) : Sp := fun vs H Q _ => ∃ (c p : Addr) (d : Int) (es : DEs) (ts : List Itm), vs = [.ref c, .ref p] ∧ DAt P w H c es ∧ StepAt H p ts ∧ StepOk d es ts ∧
  ∀ gs H', Keep c H H' → DAt P w H' c gs → GoodE d gs → gs.length ≤ es.length + 2 → DoneTo es ts gs → Q .non H'
theorem ok_change_counts (T : Txt K mg) : FnOk P w K mg base CX0 5 T.f_change_counts T.d_change_counts ["counts", "step"] (spChange P w) := by
  refine T.F_change_counts.ok sc_change_counts (fun vs H Q E h => ?_) (fun cdv A outer s H vs Q E hr h => ?_)
  · obtain ⟨c, p, d, es, ts, rfl, _⟩ := h
    rfl
  · obtain ⟨c, p, d, es, ts, rfl, D, hp, ok, q⟩ := h
    refine ⟨_, (pss_cons (ps_expr (pe_call (ok_take_rows T) (hr.mono (by decide)) (by rfl) T.g_take_rows T.F_take_rows.kp T.b_take_rows .nil pass0 (pa_cons (pv 0) (pa_cons (pe_call (ok_needs_of T) (hr.mono (by decide)) (by rfl) T.g_needs_of T.F_needs_of.kp T.b_needs_of .nil pass0 (pa_cons (pv 1) pa_nil)) pa_nil))))
      (pss_one (ps_expr (pe_call (ok_put_rows T) (hr.mono (by decide)) (by rfl) T.g_put_rows T.F_put_rows.kp T.b_put_rows .nil pass0 (pa_cons (pv 0) (pa_cons (pe_call (ok_needs_of T) (hr.mono (by decide)) (by rfl) T.g_needs_of T.F_needs_of.kp T.b_needs_of .nil pass0 (pa_cons (pe_call (ok_reverse_of T) (hr.mono (by decide)) (by rfl) T.g_reverse_of T.F_reverse_of.kp T.b_reverse_of .nil pass0 (pa_cons (pv 1) pa_nil)) pa_nil)) pa_nil)))))), ?_⟩
    have ln := ok.len
    refine ⟨_, rfl, _, rfl, p, ts, rfl, hp, ok.good, ok.b1, fun l rs H1 n1 s1 R e1 => ?_⟩
    refine ⟨c, l, es, rs, rfl, D.same s1, R, ok.taken e1, by omega, fun H2 k2 D2 => ?_⟩
    have hp2 := (hp.same s1).mono ((D.same s1).tups k2)
    refine ⟨_, rfl, _, rfl, p, ts, rfl, hp2, ok.good.shaped, ok.b1, fun r H3 s3 hr' => ?_⟩
    refine ⟨r, revI ts, rfl, hr', ok.good.rev.1, ok.b2, fun l2 rs2 H4 n4 s4 R2 e2 => ?_⟩
    obtain ⟨g, l1, l3, l4, dn⟩ := ok.done e1 e2
    refine ⟨c, l2, _, rs2, rfl, (D2.same s3).same s4, R2, by omega, fun H5 k5 D5 => ?_⟩
    exact q _ _ ((Same.kept s1).trans (k2.trans ((Same.kept s3).trans ((Same.kept s4).trans k5)))) D5 g l4 dn
end
section
variable {base : Heap} {K : PySem.W.Frag} {mg : Str → Option Value} {w : World}
def NewHeap (C : Addr) (w : World) (H : Hp) (d : Int) (es : DEs) (ts : List Itm) (Q : VK) : Prop := ∀ p gs H', H p = none → Same H H' → HeapAt PySem.Challenge.pw_grainyard_k21_reverse_steps w C H' p d gs → Asc gs → GoodE d gs → gs.length ≤ es.length + 2 → DoneTo es ts gs → Q (.ref p) H'
def spApply (T : Txt K mg) (w : World) : Sp := fun vs H Q _ => ∃ (p l q : Addr) (d : Int) (es : DEs) (ts : List Itm), vs = [.ref p, .ref l, .bl true] ∧ HeapAt PySem.Challenge.pw_grainyard_k21_reverse_steps w T.C_Heap H p d es ∧ H l = some (.lst [.ref q]) ∧ StepAt H q ts ∧ StepOk d es ts ∧ NewHeap T.C_Heap w H d es ts Q
theorem ok_apply_steps (T : Txt K mg) (D : Shps K w T.u_SHAPES) : FnOk PySem.Challenge.pw_grainyard_k21_reverse_steps w K mg base CX0 8 T.f_apply_steps T.d_apply_steps ["heap", "steps", "turning"] (spApply T w) := by
  refine T.F_apply_steps.ok sc_apply_steps (fun vs H Q E h => ?_) (fun cdv A outer s H vs Q E hr h => ?_)
  · obtain ⟨p, l, q, d, es, ts, rfl, _⟩ := h
    rfl
  · obtain ⟨p, l, q, d, es, ts, rfl, hA, hl, hs, ok, k⟩ := h
    refine ⟨_, (pss_cons (ps_set (i := 3) sc_apply_steps.nd rfl (Or.inl rfl) (pe_call (ok_counts_of T) (hr.mono (by decide)) (by rfl) T.g_counts_of T.F_counts_of.kp T.b_counts_of .nil pass0 (pa_cons (pv 0) pa_nil)))
      (pss_cons (ps_for PassesOwn.never rfl (pi_enum (by rfl) T.n_enumerate (pa_cons (pv 1) pa_nil)) (pg_tup (by rfl) (pgs_cons (pg_name (i := 4) sc_apply_steps.nd rfl (Or.inl rfl)) (pgs_cons (pg_name (i := 5) sc_apply_steps.nd rfl (Or.inl rfl)) pgs_nil))) (pss_cons (ps_expr (pe_call (ok_check_possible T D) (hr.mono (by decide)) (by rfl) T.g_check_possible T.F_check_possible.kp T.b_check_possible .nil pass0 (pa_cons (pv 5) (pa_cons (pe_prop (pv 0) T.cl_Heap T.pr_Heap_root (ok_Heap_root T) (hr.mono (by decide)) T.b_Heap_root .nil pass0 rfl) (pa_cons (pv 2) (pa_cons (pv 4) pa_nil))))))
      (pss_one (ps_expr (pe_call (ok_change_counts T) (hr.mono (by decide)) (by rfl) T.g_change_counts T.F_change_counts.kp T.b_change_counts .nil pass0 (pa_cons (pv 3) (pa_cons (pv 5) pa_nil)))))))
      (pss_one (ps_ret (pe_make T.M_Heap (ok_Heap_init T) (hr.mono (by decide)) (by rfl) T.g_Heap T.b_Heap_init .nil pass_never (pa_cons (pe_prop (pv 0) T.cl_Heap T.pr_Heap_root (ok_Heap_root T) (hr.mono (by decide)) T.b_Heap_root .nil pass0 rfl) (pa_cons (pe_callTy (call_list_itemsDS rfl) (by rfl) T.n_list (by decide +kernel) (pa_cons (pe_itemsDS (pv 3)) pa_nil)) pa_nil))))))), ?_⟩
    obtain ⟨dx, c0, h1, D0⟩ := id hA
    have ln := ok.len
    refine ⟨_, rfl, p, d, es, rfl, hA, ok.ge.nd, by omega, fun c H1 nc s1 DC => ?_⟩
    have kk : ∀ {G : Hp}, Keep c H1 G → Same H G := fun k a o z => k a o (ne_of_none z nc) (s1 a o z)
    refine ⟨_, rfl, l, _, rfl, SqL.of (s1 _ _ hl), for_enumL (K := K) (a := l) (xs := [.ref q]) (fun i σ H' => ∃ y4 y5 gs, σ = [some (.ref p), some (.ref l), some (.bl true), some (.ref c), y4, y5] ∧ Keep c H1 H' ∧ DAt PySem.Challenge.pw_grainyard_k21_reverse_steps w H' c gs ∧ (i = 0 → gs = es) ∧ (i = 1 → GoodE d gs ∧ gs.length ≤ es.length + 2 ∧ DoneTo es ts gs))
      ⟨none, none, es, rfl, Keep.refl _, DC, fun _ => rfl, fun z => absurd z (by decide)⟩ (fun i σ G _ z => by obtain ⟨_, _, _, _, kp, _⟩ := z; exact SqL.of (kk kp _ _ hl)) ?_ ?_⟩
    · rintro i x τ G T1 hx ⟨y4, y5, gs, rfl, kp, DG, e0, _⟩ hT
      cases i with
      | succ n => simp at hx
      | zero =>
        cases hx
        cases e0 rfl
        have s2 := same_new (o := .tup [.int ((0 : Nat) : Int), .ref q]) hT
        have sG := (kk kp).trans s2
        have hA1 := hA.same sG
        refine ⟨T1, _, rfl, SqT.of upd_same, rfl, .int ((0 : Nat) : Int), _, rfl, .ref q, _, rfl, rfl, ?_⟩
        refine ⟨_, rfl, _, rfl, p, dx, _, rfl, sG _ _ h1, p, d, es, rfl, hA1, _, rfl, _, rfl, q, d, 0, ts, rfl, hs.same sG, ok.good, ok.b1, ok.root.small, ok.saw, fun H2 s3 => ?_⟩
        refine ⟨_, rfl, _, rfl, c, q, d, es, ts, rfl, (DG.same s2).same s3, hs.same (sG.trans s3), ok, fun gs H3 k3 D3 g3 l3 dn => ?_⟩
        exact ⟨_, _, gs, rfl, kp.trans ((Same.kept s2).trans ((Same.kept s3).trans k3)), D3, fun z => absurd z (by decide), fun _ => ⟨g3, l3, dn⟩⟩
    · rintro τ G ⟨y4, y5, gs, rfl, kp, DG, _, e1⟩
      obtain ⟨g3, l3, dn⟩ := e1 rfl
      have sG := kk kp
      refine ⟨_, rfl, p, dx, _, rfl, sG _ _ h1, p, d, es, rfl, hA.same sG, _, rfl, c, gs, rfl, rfl, DG, fun v hv => ?_⟩
      refine ⟨v, c, gs, rfl, upd_same, DG.same (same_new hv), fun l2 as H4 hl2 s4 hL hR => ?_⟩
      have DG4 := (DG.same (same_new hv)).same s4
      refine mk_heap (T := T) (w := w) (isRB_of ok.root) (Handed.list (SqL.of hL) hR DG4.ks) g3.b g3.row (by omega) fun x H5 hx s5 hA' => ?_
      obtain ⟨asc, gg, ll, ww⟩ := g3.made
      have s6 := sG.trans ((same_new hv).trans s4)
      exact k x _ H5 (s6.free hx) (s6.trans s5) hA' asc gg (by omega) fun φ => by rw [ww φ]; exact dn φ
def spAfter (T : Txt K mg) (w : World) : Sp := fun vs H Q _ => ∃ (p q : Addr) (d : Int) (es : DEs) (ts : List Itm), vs = [.ref p, .ref q, .bl true] ∧ HeapAt PySem.Challenge.pw_grainyard_k21_reverse_steps w T.C_Heap H p d es ∧ StepAt H q ts ∧ StepOk d es ts ∧ NewHeap T.C_Heap w H d es ts Q
theorem ok_after (T : Txt K mg) (D : Shps K w T.u_SHAPES) : FnOk PySem.Challenge.pw_grainyard_k21_reverse_steps w K mg base CX0 9 T.f_after T.d_after ["heap", "step", "turning"] (spAfter T w) := by
  refine T.F_after.ok sc_after (fun vs H Q E h => ?_) (fun cdv A outer s H vs Q E hr h => ?_)
  · obtain ⟨p, q, d, es, ts, rfl, _⟩ := h
    rfl
  · obtain ⟨p, q, d, es, ts, rfl, hA, hs, ok, k⟩ := h
    refine ⟨_, (pss_one (ps_ret (pe_callN (ok_apply_steps (w := w) T D) (hr.mono (by decide)) (by rfl) T.g_apply_steps T.F_apply_steps.kp T.kb_apply_steps_turning pass0 (pa_cons (pv 0) (pa_cons (pe_lst (pa_cons (pv 1) pa_nil)) pa_nil)) (pk_cons (pv 2) pk_nil)))), ?_⟩
    refine ⟨_, rfl, _, rfl, by show 1 ≤ sizeLine; decide, fun l nl => ?_⟩
    have s1 := same_new (o := .lst [.ref q]) nl
    exact ⟨_, rfl, rfl, rfl, p, l, q, d, es, ts, rfl, hA.same s1, upd_same, hs.same s1, ok, fun x gs H' nx s2 hA' asc g3 l3 dn => k x gs H' (s1.free nx) (s1.trans s2) hA' asc g3 l3 dn⟩
end
/-! ### the step that comes next, drawn -/
section
variable {base : Heap} {K : PySem.W.Frag} {mg : Str → Option Value} {P : Program} {w : World}
def spBig : Sp := fun vs H Q _ => ∃ (b sb : Addr) (d : Int), vs = [.ref b, .int d, .int 3] ∧ Bag H b sb ∧ IsRoot d ∧ ∀ l es H', H l = none → RowsL H' l es → Within (ShB d) (10 ^ 6) es → 0 < es.length → es.length ≤ 3 → Bag H' b sb → Keep b H H' → Q (.ref l) H'
theorem ok_big_rows (T : Txt K mg) : FnOk P w K mg base CX0 7 T.f_big_rows T.d_big_rows ["_law_bag", "_law_root", "_law_most"] spBig := by
  refine T.F_big_rows.ok sc_big_rows (fun vs H Q E h => ?_) (fun cdv A outer s H vs Q E hr h => ?_)
  · obtain ⟨b, sb, d, rfl, _⟩ := h
    rfl
  · obtain ⟨b, sb, d, rfl, B, hd, q⟩ := h
    refine ⟨_, (pss_one (ps_ret (pe_op op_cat (pe_call (ok_some_rows T) (hr.mono (by decide)) (by rfl) T.g_some_rows T.F_some_rows.kp T.b_some_rows .nil pass0 (pa_cons (pv 0) (pa_cons (pv 1) (pa_cons (pe_op op_sub (pv 2) pe_int) pa_nil)))) (pe_lst (pa_cons (pe_tup (pa_cons (pe_call (ok_a_sheet T) (hr.mono (by decide)) (by rfl) T.g_a_sheet T.F_a_sheet.kp T.b_a_sheet .nil pass0 (pa_cons (pv 0) (pa_cons (pv 1) pa_nil))) (pa_cons (pe_call (ok_some_count T) (hr.mono (by decide)) (by rfl) T.g_some_count T.F_some_count.kp T.b_some_count .nil pass0 (pa_cons (pv 0) pa_nil)) pa_nil))) pa_nil))))), ?_⟩
    refine ⟨_, rfl, _, rfl, _, rfl, 3, 1, rfl, rfl, b, sb, d, 2, rfl, B, hd, by decide, by decide, fun l es H1 n1 R wi ln B1 k1 => ?_⟩
    refine ⟨_, rfl, _, rfl, b, sb, d, rfl, B1, hd, fun x p H2 lb hx B2 k2 => ?_⟩
    refine ⟨_, rfl, b, sb, rfl, B2, fun n H3 z1 z2 B3 k3 => ⟨by show 2 ≤ sizeLine; decide, fun t nt => ⟨by show 1 ≤ sizeLine; decide, fun l2 nl2 => ?_⟩⟩⟩
    have e1 := same_new (o := .tup [.ref p, .int n]) nt
    have e2 := same_new (o := .lst [.ref t]) nl2
    have B5 := (B3.new (o := .tup [.ref p, .int n]) nt).new (o := .lst [.ref t]) nl2
    have R5 := ((R.keep B1 (B.ne n1) (k2.trans k3)).same e1).same e2
    have hx5 := ((hx.keep B2 k3).same e1).same e2
    obtain ⟨as, h1, h2, h3⟩ := R5
    have la : as.length = es.length := h2.len
    refine ⟨l, l2, _, _, rfl, rfl, h1, upd_same, ?_, fun l3 nl3 => ?_⟩
    · rw [List.length_map, la]
      exact Nat.le_of_lt (small1000 (show es.length + 1 ≤ 1000 by omega))
    · have e3 := same_new (o := .lst (as.map V.ref ++ [.ref t])) nl3
      have kk := k1.trans (k2.trans (k3.trans ((keep_of e1).trans ((keep_of e2).trans (keep_of e3)))))
      refine q l3 (es ++ [(x, p, n)]) _ (keep_free (k1.trans (k2.trans (k3.trans ((keep_of e1).trans (keep_of e2))))) (B5.ne nl3) nl3) ⟨as ++ [t], by rw [upd_same, List.map_append]; rfl, ?_, fun e he => ?_⟩ (fun e he => ?_) (by rw [List.length_append, List.length_singleton]; omega) (by rw [List.length_append, List.length_singleton]; omega) (B5.new nl3) kk
      · exact Paired.snoc (a := t) (b := (x, p, n)) ((e2.trans e3) _ _ upd_same) (h2.mono fun _ _ z => e3 _ _ z)
      · rcases List.mem_append.mp he with he | he
        · exact (h3 e he).same e3
        · rw [List.mem_singleton.mp he]
          exact hx5.same e3
      · rcases List.mem_append.mp he with he | he
        · exact wi e he
        · rw [List.mem_singleton.mp he]
          exact ⟨lb, z1, z2⟩
theorem data_all {ds : List PyData} (h : ∀ d ∈ ds, d.canLay0 = true ∧ d.depth ≤ 3) : SeqAt.shaped (.list ds) = true := by
  have all : ∀ ds : List PyData, (∀ d ∈ ds, d.canLay0 = true ∧ d.depth ≤ 3) → PyData.canLayAll0 ds = true ∧ PyData.depthAll ds ≤ 3 := by
    intro ds
    induction ds with
    | nil => exact fun _ => ⟨by simp [PyData.canLayAll0], by simp [PyData.depthAll]⟩
    | cons d ds ih =>
      intro h
      obtain ⟨r1, r2⟩ := h d List.mem_cons_self
      obtain ⟨r3, r4⟩ := ih fun e he => h e (List.mem_cons_of_mem _ he)
      exact ⟨by simp [PyData.canLayAll0, r1, r3], by simp only [PyData.depthAll]; omega⟩
  obtain ⟨h1, h2⟩ := all ds h
  unfold SeqAt.shaped
  rw [Bool.and_eq_true]
  refine ⟨by simp [PyData.canLay0, h1], decide_eq_true ?_⟩
  simp only [PyData.depth]
  omega
theorem data_nil {ds : List PyData} : PyData.eqv (.list ds) (.list []) = ds.isEmpty := by
  cases ds with
  | nil => simp [PyData.eqv, PyData.eqvAll]
  | cons e es => simp [PyData.eqv, PyData.eqvAll]
theorem data_list {α : Type} {H : Hp} {l : Addr} {zs : List α} {f : α → V} {g : α → PyData} (h : H l = some (.lst (zs.map f))) (hz : ∀ z ∈ zs, Dp K H (f z) (g z)) : Dp K H (.ref l) (.list (zs.map g)) := by
  refine .lst (SqL.of h) ?_
  clear h
  induction zs with
  | nil => exact .nil
  | cons z zs ih => exact .cons (hz z List.mem_cons_self) (ih fun y hy => hz y (List.mem_cons_of_mem _ hy))
def pairF (z : Addr × Int × Int) : V := .ref z.1
def pairD (z : Addr × Int × Int) : PyData := .tuple [.int z.2.1, .int z.2.2]
theorem pairD_ok (z : Addr × Int × Int) : (pairD z).canLay0 = true ∧ (pairD z).depth ≤ 3 := by
  unfold pairD
  exact ⟨by simp [PyData.canLay0, PyData.canLayAll0], by simp [PyData.depth, PyData.depthAll]⟩
theorem encS_ok (x : Sh) : (encS x).canLay0 = true ∧ (encS x).depth ≤ 3 := by
  unfold encS
  exact ⟨by simp [PyData.canLay0, PyData.canLayAll0], by simp [PyData.depth, PyData.depthAll]⟩
theorem unit_len {d : Int} (hd : IsRoot d) : LenB d 0 1 := by
  refine ⟨(po_iff hd).mp (.inr ⟨?_, by decide⟩), by decide, by decide⟩
  have := hd.1
  omega
theorem below_len {d : Int} {k : Nat} (hd : IsRoot d) (h : (k : Int) * k ≤ d) (k9 : k ≤ 9) : LenB d (0 - k) 1 := by
  refine ⟨(po_iff hd).mp (.inr ⟨?_, by decide⟩), by omega, by decide⟩
  obtain ⟨_, _, j, j0, j1, j2⟩ := hd
  have ne : (k : Int) * k ≠ d := by
    intro e
    have a1 : j < k := by
      refine Int.not_le.mp fun z => ?_
      have := Int.mul_le_mul z z (by omega) j0
      omega
    have a2 : (k : Int) < j + 1 := by
      refine Int.not_le.mp fun z => ?_
      have := Int.mul_le_mul z z (by omega) (by omega)
      omega
    omega
  have e : (0 - (k : Int)) * (0 - k) = (k : Int) * k := by rw [Int.zero_sub, Int.neg_mul_neg]
  omega
theorem above_len {d : Int} {k : Nat} (hd : IsRoot d) (h : d < ((k : Int) + 1) * (k + 1)) (k9 : k ≤ 9) : LenB d (k + 1) (-1) := by
  refine ⟨(po_iff hd).mp (.inl ⟨?_, by omega⟩), by omega, by decide⟩
  omega
def GotBelow (b sb : Addr) (d a c : Int) (H : Hp) (Q : VK) : Prop := ∀ v H', Bag H' b sb → Keep b H H' → (v = .non ∨ ∃ (t : Addr) (x y : Int), v = .ref t ∧ H' t = some (.tup [.int x, .int y]) ∧ LenB d x y ∧ 0 < vl (a - x) (c - y) d) → Q v H'
def spBelow : Sp := fun vs H Q _ => ∃ (b sb r : Addr) (d a c : Int), vs = [.ref b, .ref r, .int d] ∧ Bag H b sb ∧ IsRoot d ∧ H r = some (.tup [.int a, .int c]) ∧ LenB d a c ∧ GotBelow b sb d a c H Q
theorem ok_part_below (T : Txt K mg) : FnOk P w K mg base CX0 5 T.f_part_below T.d_part_below ["_law_bag", "_law_length", "_law_root"] spBelow := by
  refine T.F_part_below.ok sc_part_below (fun vs H Q E h => ?_) (fun cdv A outer s H vs Q E hr h => ?_)
  · obtain ⟨b, sb, r, d, a, c, rfl, _⟩ := h
    rfl
  · obtain ⟨b, sb, r, d, a, c, rfl, B, hd, hr0, ok, q⟩ := h
    refine ⟨_, (pss_cons (ps_asg (pe_tup (pa_cons (pe_tup (pa_cons pe_int (pa_cons pe_int pa_nil))) (pa_cons pe_int pa_nil))) (pg_tup (by rfl) (pgs_cons (pg_name (i := 4) sc_part_below.nd rfl (Or.inl rfl)) (pgs_cons (pg_name (i := 5) sc_part_below.nd rfl (Or.inl rfl)) pgs_nil))))
      (pss_cons (ps_while PassesOwn.never (pt_cmpR op_le (pe_op op_mul (pe_op op_add (pv 5) pe_int) (pe_op op_add (pv 5) pe_int)) (pv 2) (nomark _)) (pss_one (ps_set (i := 5) sc_part_below.nd rfl (Or.inl rfl) (pe_op op_add (pv 5) pe_int))))
      (pss_cons (ps_set (i := 3) sc_part_below.nd rfl (Or.inl rfl) (pe_lst (pa_cons (pe_call (ok_a_length T) (hr.mono (by decide)) (by rfl) T.g_a_length T.F_a_length.kp T.b_a_length .nil pass0 (pa_cons (pv 0) (pa_cons (pv 2) pa_nil))) (pa_cons (pe_tup (pa_cons pe_int (pa_cons pe_int pa_nil))) (pa_cons (pv 4) (pa_cons (pe_tup (pa_cons (pe_op op_sub pe_int (pv 5)) (pa_cons pe_int pa_nil))) (pa_cons (pe_tup (pa_cons (pe_op op_add (pv 5) pe_int) (pa_cons (pe_un un_neg pe_int) pa_nil))) pa_nil)))))))
      (pss_cons (ps_setLc (i := 3) (own := [("_law_one", 6)]) (g := (gName 6)) (by rfl) sc_part_below.nd rfl rfl (sw_true rfl rfl rfl (by decide +kernel)) (pi_list (pv 3)) (blkOk_by (own := [("_law_one", 6)]) (N := ["_law_bag", "_law_length", "_law_root", "_law_some", "_law_unit", "_law_whole", "_law_one"]) (sc := defScope s_part_below) (by decide +kernel)) (fun _ _ _ _ _ => (pg_name (i := 6) sc_part_below.nd rfl (Or.inl rfl))) (fun _ _ _ _ _ => (pts_one (pt_cmpR op_gt (pe_call (ok_lsign T) (hr.mono (by decide)) (by rfl) T.g_lsign T.F_lsign.kp T.b_lsign .nil pass0 (pa_cons (pe_call (ok_minus T) (hr.mono (by decide)) (by rfl) T.g_minus T.F_minus.kp T.b_minus .nil pass0 (pa_cons (pv 1) (pa_cons (pv 6) pa_nil))) (pa_cons (pv 2) pa_nil))) pe_int (nomark _)))) (fun _ _ _ _ _ => (pv 6)))
      (pss_one (ps_ret (pe_ifExp (pt_cmpR (op_neD hr.units) (pv 3) (pe_lst pa_nil) (nomark _)) (pe_call (ok_of T) (hr.mono (by decide)) (by rfl) T.g_of T.F_of.kp T.b_of .nil pass0 (pa_cons (pv 0) (pa_cons (pv 3) pa_nil))) pe_non))))))), ?_⟩
    refine ⟨by show 2 ≤ sizeLine; decide, fun u nu => ⟨by show 2 ≤ sizeLine; decide, fun t nt => ⟨t, _, rfl, SqT.of upd_same, rfl, .ref u, _, rfl, .int 0, _, rfl, rfl, ?_⟩⟩⟩
    have e1 := same_new (o := .tup [.int 0, .int 1]) nu
    have e2 := same_new (o := .tup [.ref u, .int 0]) nt
    have B2 := (B.new (o := .tup [.int 0, .int 1]) nu).new (o := .tup [.ref u, .int 0]) nt
    have hu : (upd (upd H u (.tup [.int 0, .int 1])) t (.tup [.ref u, .int 0])) u = some (.tup [.int 0, .int 1]) := e2 _ _ upd_same
    have hr2 := (e1.trans e2) _ _ hr0
    have k02 : Keep b H (upd (upd H u (.tup [.int 0, .int 1])) t (.tup [.ref u, .int 0])) := keep_of (e1.trans e2)
    generalize (upd (upd H u (.tup [.int 0, .int 1])) t (.tup [.ref u, .int 0])) = H2 at B2 hu hr2 k02 ⊢
    have d99 := hd.2.1
    have up9 : ∀ {k : Nat}, (k : Int) * k ≤ d → k ≤ 9 := by
      intro k h
      refine Nat.not_lt.mp fun z => ?_
      have := Int.mul_le_mul (show (10 : Int) ≤ k by omega) (show (10 : Int) ≤ k by omega) (by decide) (by omega)
      omega
    refine ⟨fun m σ G => ∃ k : Nat, m = 100 - k ∧ σ = [some (.ref b), some (.ref r), some (.int d), none, some (.ref u), some (.int k), none] ∧ G = H2 ∧ (k : Int) * k ≤ d, ⟨_, 0, rfl, rfl, rfl, by have := hd.1; omega⟩, ?_⟩
    rintro m σ G ⟨k, rfl, rfl, rfl, hk⟩
    have k9 := up9 hk
    refine ⟨_, rfl, k, 1, rfl, rfl, _, rfl, k, 1, rfl, rfl, _, _, rfl, rfl, .inr ⟨by omega, by omega⟩, _, rfl, _, _, rfl, rfl, _, rfl, ?_⟩
    by_cases z : ((k : Int) + 1) * (k + 1) ≤ d
    · rw [decide_eq_true z]
      exact iteT ⟨_, fun _ _ h => h, _, rfl, k, 1, rfl, rfl, 100 - (k + 1), by omega, k + 1, rfl, rfl, rfl, z⟩
    · rw [decide_eq_false z]
      have z' : d < ((k : Int) + 1) * (k + 1) := by omega
      refine iteF ?_
      refine ⟨_, rfl, _, rfl, b, sb, d, rfl, B2, hd, fun x y p H3 lb np hp B3 k3 => ?_⟩
      refine ⟨by show 2 ≤ sizeLine; decide, fun t1 nt1 => ⟨_, rfl, _, rfl, 0, k, rfl, rfl, by show 2 ≤ sizeLine; decide, fun t2 nt2 => ⟨_, rfl, k, 1, rfl, rfl, 1, rfl, by show 2 ≤ sizeLine; decide, fun t3 nt3 => ⟨by show 5 ≤ sizeLine; decide, fun l nl => ?_⟩⟩⟩⟩
      have f1 := same_new (o := .tup [.int 1, .int 0]) nt1
      have f2 := same_new (o := .tup [.int (0 - (k : Int)), .int 1]) nt2
      have f3 := same_new (o := .tup [.int ((k : Int) + 1), .int (-1)]) nt3
      have f4 := same_new (o := .lst [.ref p, .ref t1, .ref u, .ref t2, .ref t3]) nl
      have B7 := (((B3.new (o := .tup [.int 1, .int 0]) nt1).new (o := .tup [.int (0 - (k : Int)), .int 1]) nt2).new (o := .tup [.int ((k : Int) + 1), .int (-1)]) nt3).new (o := .lst [.ref p, .ref t1, .ref u, .ref t2, .ref t3]) nl
      have s37 := f1.trans (f2.trans (f3.trans f4))
      have k37 : Keep b H3 _ := keep_of s37
      let five : List (Addr × Int × Int) := [(p, x, y), (t1, 1, 0), (u, 0, 1), (t2, 0 - k, 1), (t3, k + 1, -1)]
      have g0 := s37 p _ hp
      have g1 := (f2.trans (f3.trans f4)) t1 _ upd_same
      have g2 := s37 u _ (tup_keep B2 k3 _ _ hu)
      have g3 := (f3.trans f4) t2 _ upd_same
      have g4 := f4 t3 _ upd_same
      have hl : (upd (upd (upd (upd H3 t1 (.tup [.int 1, .int 0])) t2 (.tup [.int (0 - (k : Int)), .int 1])) t3 (.tup [.int ((k : Int) + 1), .int (-1)])) l (.lst [.ref p, .ref t1, .ref u, .ref t2, .ref t3])) l = some (.lst (five.map pairF)) := upd_same
      have hr7 := s37 _ _ (tup_keep B2 k3 _ _ hr2)
      have k07 := k02.trans (k3.trans k37)
      have l5 : five.length = 5 := rfl
      generalize (upd (upd (upd (upd H3 t1 (.tup [.int 1, .int 0])) t2 (.tup [.int (0 - (k : Int)), .int 1])) t3 (.tup [.int ((k : Int) + 1), .int (-1)])) l (.lst [.ref p, .ref t1, .ref u, .ref t2, .ref t3])) = H7 at B7 g0 g1 g2 g3 g4 hl hr7 k07 ⊢
      have h5 : ∀ z ∈ five, H7 z.1 = some (.tup [.int z.2.1, .int z.2.2]) ∧ LenB d z.2.1 z.2.2 := by
        intro z hz
        simp only [five, List.mem_cons, List.not_mem_nil, or_false] at hz
        rcases hz with rfl | rfl | rfl | rfl | rfl
        · exact ⟨g0, lb⟩
        · exact ⟨g1, vl_one 1 d (by decide), (by show (1 : Int).natAbs ≤ 10 ^ 6; decide), (by show (0 : Int).natAbs ≤ 10 ^ 6; decide)⟩
        · exact ⟨g2, unit_len hd⟩
        · exact ⟨g3, below_len hd hk k9⟩
        · exact ⟨g4, above_len hd z' k9⟩
      generalize five = five at h5 hl l5
      refine ⟨_, rfl, l, rfl, ⟨_, SqL.of hl⟩, fun D nD => lc_list (K := K) (a := l) (xs := five.map pairF) (fun i G => Same H7 G ∧ ∃ zs : List (Addr × Int × Int), G D = some (.lst (zs.map pairF)) ∧ zs.length ≤ i ∧ ∀ z ∈ zs, z ∈ five ∧ 0 < vl (a - z.2.1) (c - z.2.2) d) ⟨same_new nD, [], upd_same, Nat.le_refl _, fun z hz => by cases hz⟩ (fun i G _ z => SqL.of (z.1 _ _ hl)) ?_ ?_⟩
      · rintro i v G hx ⟨sG, zs, hD, lz, gz⟩
        rw [List.getElem?_map] at hx
        cases hz : five[i]? with
        | none =>
          rw [hz] at hx
          cases hx
        | some z =>
          rw [hz] at hx
          cases hx
          have mz := List.mem_of_getElem? hz
          have hi := (List.getElem?_eq_some_iff.mp hz).1
          obtain ⟨g1, g2⟩ := h5 z mz
          have w1 : ∀ {m n : Int}, m.natAbs ≤ 10 ^ 6 → n.natAbs ≤ 10 ^ 6 → (m - n).natAbs < 2 ^ 9000 := fun h g => w100 (Nat.lt_of_le_of_lt (nat_two (N := 0) h g).2 (by decide))
          refine ⟨rfl, _, rfl, _, rfl, r, z.1, a, c, z.2.1, z.2.2, rfl, sG _ _ hr7, sG _ _ g1, fun r2 G2 s2 hr2 => ?_⟩
          refine ⟨_, rfl, r2, d, _, _, rfl, SqT.of hr2, hd.small, w1 ok.2.1 g2.2.1, w1 ok.2.2 g2.2.2, _, 0, rfl, rfl, _, rfl, ?_⟩
          have sG2 := sG.trans s2
          by_cases q0 : 0 < vl (a - z.2.1) (c - z.2.2) d
          · rw [sgnI_pos q0]
            refine iteT ⟨_, rfl, _, s2 _ _ hD, ?_, ?_⟩
            · rw [List.length_map]
              exact small1000 (show zs.length ≤ 1000 by omega)
            · refine ⟨fun o e w => (upd_ne (ne_of_none w nD)).trans (sG2 o e w), zs ++ [z], by rw [upd_same, List.map_append]; rfl, by rw [List.length_append, List.length_singleton]; omega, fun y hy => ?_⟩
              rcases List.mem_append.mp hy with hy | hy
              · exact gz y hy
              · rw [List.mem_singleton.mp hy]
                exact ⟨mz, q0⟩
          · have sg : ¬ 0 < sgnI (vl (a - z.2.1) (c - z.2.2) d) := by
              rcases sgn_cases (a - z.2.1) (c - z.2.2) d with ⟨e, _⟩ | ⟨_, e⟩ | ⟨e, _⟩
              · rw [e]; decide
              · exact absurd e q0
              · rw [e]; decide
            rw [decide_eq_false sg]
            exact iteF ⟨sG2, zs, s2 _ _ hD, by omega, gz⟩
      · rintro G ⟨sG, zs, hD, lz, gz⟩
        have BG := B7.same sG
        have kG := k07.trans (keep_of sG)
        refine ⟨_, rfl, by show 0 ≤ sizeLine; decide, fun l0 nl0 => ?_⟩
        have e0 := same_new (o := .lst []) nl0
        refine ⟨_, _, data_list (e0 _ _ hD) (fun z hz => dpair (e0 _ _ (sG _ _ (h5 z (gz z hz).1).1))) (g := pairD), .lst (SqL.of upd_same) .nil, data_all (fun e he => by obtain ⟨z, _, rfl⟩ := List.mem_map.mp he; exact pairD_ok z), rfl, _, rfl, ?_⟩
        rw [data_nil]
        cases zs with
        | nil => exact iteF (q _ _ (BG.same e0) (kG.trans (keep_of e0)) (.inl rfl))
        | cons z0 zs =>
          have nD2 : D ≠ b := B7.ne nD
          rw [List.length_map, l5] at lz
          refine iteT ⟨_, rfl, _, rfl, b, sb, D, _, rfl, BG.same e0, e0 _ _ hD, nD2, by simp, by rw [List.length_map]; omega, fun i v H9 hv B9 k9 => ?_⟩
          rw [List.getElem?_map] at hv
          cases hz : (z0 :: zs)[i]? with
          | none =>
            rw [hz] at hv
            cases hv
          | some z =>
            rw [hz] at hv
            cases hv
            obtain ⟨g1, g2⟩ := gz z (List.mem_of_getElem? hz)
            obtain ⟨g3, g4⟩ := h5 z g1
            exact q _ _ B9 (kG.trans ((keep_of e0).trans k9)) (.inr ⟨z.1, z.2.1, z.2.2, rfl, tup_keep (BG.same e0) k9 _ _ (e0 _ _ (sG _ _ g3)), g4, g2⟩)
def otherW (s : Str) : Str := if s = "across" then "along" else "across"
def GotMate (b sb : Addr) (es : DEs) (x : Sh) (s : Str) (H : Hp) (Q : VK) : Prop := ∀ v H', Bag H' b sb → Keep b H H' → (v = .non ∨ ∃ (t : Addr) (e : Sh × Addr × Int), e ∈ es ∧ v = .ref t ∧ ShAt H' t e.1 ∧ sideOf e.1 (otherW s) = sideOf x (otherW s) ∧ (e.1 = x → 1 < cnt es x)) → Q v H'
def spMate (P : Program) (w : World) : Sp := fun vs H Q _ => ∃ (b sb c p : Addr) (es : DEs) (x : Sh) (s : Str), vs = [.ref b, .ref c, .ref p, .str s] ∧ Bag H b sb ∧ DAt P w H c es ∧ (keysD es).Nodup ∧ es.length ≤ 1000 ∧ ShAt H p x ∧ SideW s ∧ 1 ≤ cnt es x ∧ GotMate b sb es x s H Q
theorem use_other {sd : Str} (hs : SideW sd) {σ : List (Option V)} {H : Hp} {Q : VK} (h : σ[3]? = some (some (.str sd))) (q : Q (.str (otherW sd)) H) : tIf (tTest (tOp rEq (tVar 3) (tC (.str "across")))) (tC (.str "along")) (tC (.str "across")) σ H Q := by
  rcases hs with rfl | rfl
  · exact ⟨_, h, rfl, true, by decide +kernel, iteT (by rw [← show otherW "across" = "along" from if_pos rfl]; exact q)⟩
  · exact ⟨_, h, rfl, false, by decide +kernel, iteF (by rw [← show otherW "along" = "across" from if_neg (by decide +kernel)]; exact q)⟩
theorem ok_mate_of (T : Txt K mg) : FnOk P w K mg base CX0 3 T.f_mate_of T.d_mate_of ["_law_bag", "_law_stock", "_law_sheet", "_law_side"] (spMate P w) := by
  refine T.F_mate_of.ok sc_mate_of (fun vs H Q E h => ?_) (fun cdv A outer s H vs Q E hr h => ?_)
  · obtain ⟨b, sb, c, p, es, x, sd, rfl, _⟩ := h
    rfl
  · obtain ⟨b, sb, c, p, es, x, sd, rfl, B, D, nd, ln, hp, hs, c1, q⟩ := h
    refine ⟨_, (pss_cons (ps_set (i := 4) sc_mate_of.nd rfl (Or.inr rfl) (pe_ifExp (pt_cmpR op_eq (pv 3) pe_str (nomark _)) pe_str pe_str))
      (pss_cons (ps_setLc (i := 5) (own := [("_law_one", 6)]) (g := (gName 6)) (tt := tTest (tOp (rEqD K) (tCall spLSide [] E0 (tCons (tVar 6) (tCons (tVar 4) tNil))) (tCall spLSide [] E0 (tCons (tVar 2) (tCons (tVar 4) tNil))))) (by rfl) sc_mate_of.nd rfl rfl (sw_true rfl rfl rfl (by decide +kernel)) (pi_list (pe_callB (cr_sortedLS hr.units) (by rfl) T.n_sorted (by decide +kernel) (pa_cons (pe_callTy (call_list_DS rfl) (by rfl) T.n_list (by decide +kernel) (pa_cons (pv 1) pa_nil)) pa_nil))) (blkOk_by (own := [("_law_one", 6)]) (N := ["_law_bag", "_law_stock", "_law_sheet", "_law_side", "_law_other", "_law_some", "_law_one"]) (sc := defScope s_mate_of) (by decide +kernel)) (fun _ _ _ _ _ => (pg_name (i := 6) sc_mate_of.nd rfl (Or.inl rfl))) (fun _ _ _ _ _ => (pts_one (pt_cmpR (op_eqD hr.units) (pe_call (ok_lside_of T) (hr.mono (by decide)) (by rfl) T.g_lside_of T.F_lside_of.kp T.b_lside_of .nil pass0 (pa_cons (pv 6) (pa_cons (pv 4) pa_nil))) (pe_call (ok_lside_of T) (hr.mono (by decide)) (by rfl) T.g_lside_of T.F_lside_of.kp T.b_lside_of .nil pass0 (pa_cons (pv 2) (pa_cons (pv 4) pa_nil))) (nomark _)))) (fun _ _ _ _ _ => (pv 6)))
      (pss_cons (ps_setLc (i := 5) (own := [("_law_one", 6)]) (g := (gName 6)) (tt := tOr (tTest (tOp (rNeD K) (tVar 6) (tVar 2))) (tTest (tOp (rI0 fun i j => .bl (decide (j < i))) (tSGet P w (tVar 1) (tVar 2)) (tC (.int 1))))) (by rfl) sc_mate_of.nd rfl rfl (sw_true rfl rfl rfl (by decide +kernel)) (pi_list (pv 5)) (blkOk_by (own := [("_law_one", 6)]) (N := ["_law_bag", "_law_stock", "_law_sheet", "_law_side", "_law_other", "_law_some", "_law_one"]) (sc := defScope s_mate_of) (by decide +kernel)) (fun _ _ _ _ _ => (pg_name (i := 6) sc_mate_of.nd rfl (Or.inl rfl))) (fun _ _ _ _ _ => (pts_one (PW.pt (pw_or (pt_cmpR (op_neD hr.units) (pv 6) (pv 2) (nomark _)) (pw_or1 (pt_cmpR op_gt (pe_sget hr.units (pv 1) (pv 2) (fun _ _ => rfl)) pe_int (nomark _))))))) (fun _ _ _ _ _ => (pv 6)))
      (pss_one (ps_ret (pe_ifExp (pt_cmpR (op_neD hr.units) (pv 5) (pe_lst pa_nil) (nomark _)) (pe_call (ok_of T) (hr.mono (by decide)) (by rfl) T.g_of T.F_of.kp T.b_of .nil pass0 (pa_cons (pv 0) (pa_cons (pv 5) pa_nil))) pe_non)))))), ?_⟩
    have bySort : ∀ {z : Sh × Addr}, z ∈ sortK es → ∃ e ∈ es, e.1 = z.1 ∧ e.2.1 = z.2 := by
      intro z hz
      obtain ⟨e, he, e1⟩ := List.mem_map.mp ((sortK_perm es).mem_iff.mp hz)
      exact ⟨e, he, congrArg Prod.fst e1, congrArg Prod.snd e1⟩
    have lS : (sortK es).length = es.length := by rw [(sortK_perm es).length_eq, List.length_map]
    have ho : SideW (otherW sd) := by
      rcases hs with rfl | rfl
      · exact .inr (if_pos rfl)
      · exact .inl (if_neg (by decide +kernel))
    refine use_other hs rfl ?_
    unfold GotMate at q
    generalize otherW sd = od at ho q ⊢
    refine ⟨.ref c, rfl, c, es, rfl, D, fun l0 h0 => ?_⟩
    have e0 := same_new (o := .lst (es.map fun e => V.ref e.2.1)) h0
    refine ⟨l0, es.map fun e => (e.1, e.2.1), rfl, by rw [upd_same, List.map_map]; rfl, fun y hy => ?_, fun l1 h1 => ?_⟩
    · obtain ⟨e, he, rfl⟩ := List.mem_map.mp hy
      exact (D.ks e he).same e0
    have e1 := same_new (o := .lst ((sortK es).map fun b => V.ref b.2)) h1
    have e01 := e0.trans e1
    have B1 := B.same e01
    have D1 := D.same e01
    have hp1 := hp.same e01
    have k01 : Keep b H _ := keep_of e01
    have hl1 : (upd (upd H l0 (.lst (es.map fun e => V.ref e.2.1))) l1 (.lst ((sortK es).map fun b => V.ref b.2))) l1 = some (.lst ((sortK es).map fun b => V.ref b.2)) := upd_same
    rw [← show sortK es = (es.map fun e => (e.1, e.2.1)).mergeSort (fun a b => leS a.1 b.1) from rfl]
    generalize (upd (upd H l0 (.lst (es.map fun e => V.ref e.2.1))) l1 (.lst ((sortK es).map fun b => V.ref b.2))) = H1 at B1 D1 hp1 k01 hl1 ⊢
    refine ⟨l1, rfl, ⟨_, SqL.of hl1⟩, fun D2 hD2 => lc_list (K := K) (a := l1) (xs := (sortK es).map fun b => V.ref b.2) (fun i G => Same H1 G ∧ ∃ zs : List (Sh × Addr), G D2 = some (.lst (zs.map fun b => V.ref b.2)) ∧ zs.length ≤ i ∧ ∀ z ∈ zs, z ∈ sortK es ∧ sideOf z.1 od = sideOf x od) ⟨same_new hD2, [], upd_same, Nat.le_refl _, fun z hz => by cases hz⟩ (fun i G _ z => SqL.of (z.1 _ _ hl1)) ?_ ?_⟩
    · rintro i v G hx ⟨sG, zs, hD, lz, gz⟩
      rw [List.getElem?_map] at hx
      cases hz : (sortK es)[i]? with
      | none =>
        rw [hz] at hx
        cases hx
      | some z =>
        rw [hz] at hx
        cases hx
        have mz := List.mem_of_getElem? hz
        have hi := (List.getElem?_eq_some_iff.mp hz).1
        obtain ⟨e, he, q1, q2⟩ := bySort mz
        have hs := (D1.same sG).ks e he
        rw [q1, q2] at hs
        refine ⟨rfl, _, rfl, _, rfl, z.2, z.1, od, rfl, hs, ho, fun r1 G1 s1 hr1 => ⟨_, rfl, _, rfl, p, x, od, rfl, hp1.same (sG.trans s1), ho, fun r2 G2 s2 hr2 => ?_⟩⟩
        refine ⟨_, _, dpair (s2 _ _ hr1), dpair hr2, rfl, rfl, _, rfl, ?_⟩
        rw [pair_eqv]
        have sG2 := sG.trans (s1.trans s2)
        by_cases q0 : sideOf z.1 od = sideOf x od
        · rw [decide_eq_true q0]
          refine iteT ⟨_, rfl, _, (s1.trans s2) _ _ hD, ?_, ?_⟩
          · rw [List.length_map]
            exact small1000 (show zs.length ≤ 1000 by omega)
          · refine ⟨fun o e w => (upd_ne (ne_of_none w hD2)).trans (sG2 o e w), zs ++ [z], by rw [upd_same, List.map_append]; rfl, by rw [List.length_append, List.length_singleton]; omega, fun y hy => ?_⟩
            rcases List.mem_append.mp hy with hy | hy
            · exact gz y hy
            · rw [List.mem_singleton.mp hy]
              exact ⟨mz, q0⟩
        · rw [decide_eq_false q0]
          exact iteF ⟨sG2, zs, (s1.trans s2) _ _ hD, by omega, gz⟩
    rintro G ⟨sG, zs, hD, lz, gz⟩
    rw [List.length_map, lS] at lz
    have BG := B1.same sG
    have DG := D1.same sG
    have hpG := hp1.same sG
    have kG := k01.trans (keep_of sG)
    refine ⟨_, rfl, D2, rfl, ⟨_, SqL.of hD⟩, fun D3 hD3 => lc_list (K := K) (a := D2) (xs := zs.map fun b => V.ref b.2) (fun i G' => Same G G' ∧ ∃ ws : List (Sh × Addr), G' D3 = some (.lst (ws.map fun b => V.ref b.2)) ∧ ws.length ≤ i ∧ ∀ z ∈ ws, z ∈ zs ∧ (z.1 = x → 1 < cnt es x)) ⟨same_new hD3, [], upd_same, Nat.le_refl _, fun z hz => by cases hz⟩ (fun i G' _ z => SqL.of (z.1 _ _ hD)) ?_ ?_⟩
    · rintro i v G' hx ⟨sG', ws, hW, lw, gw⟩
      rw [List.getElem?_map] at hx
      cases hz : zs[i]? with
      | none =>
        rw [hz] at hx
        cases hx
      | some z =>
        rw [hz] at hx
        cases hx
        have mz := List.mem_of_getElem? hz
        have hi := (List.getElem?_eq_some_iff.mp hz).1
        obtain ⟨e, he, q1, q2⟩ := bySort (gz z mz).1
        have hs := (DG.same sG').ks e he
        rw [q1, q2] at hs
        have more : (z.1 = x → 1 < cnt es x) → Same G (upd G' D3 (.lst ((ws.map fun b => V.ref b.2) ++ [.ref z.2]))) ∧ ∃ ws' : List (Sh × Addr), (upd G' D3 (.lst ((ws.map fun b => V.ref b.2) ++ [.ref z.2]))) D3 = some (.lst (ws'.map fun b => V.ref b.2)) ∧ ws'.length ≤ i + 1 ∧ ∀ z ∈ ws', z ∈ zs ∧ (z.1 = x → 1 < cnt es x) := by
          intro q0
          refine ⟨fun o e w => (upd_ne (ne_of_none w hD3)).trans (sG' o e w), ws ++ [z], by rw [upd_same, List.map_append]; rfl, by rw [List.length_append, List.length_singleton]; omega, fun y hy => ?_⟩
          rcases List.mem_append.mp hy with hy | hy
          · exact gw y hy
          · rw [List.mem_singleton.mp hy]
            exact ⟨mz, q0⟩
        have sm : (ws.map fun b => V.ref b.2).length < sizeLine := by
          rw [List.length_map]
          exact small1000 (show ws.length ≤ 1000 by omega)
        refine ⟨rfl, _, rfl, _, rfl, _, _, sh_dp hs, sh_dp (hpG.same sG'), encS_shaped _, encS_shaped _, _, rfl, ?_⟩
        rw [encS_eqv]
        by_cases zx : z.1 = x
        · rw [decide_eq_true zx]
          refine iteF ⟨_, rfl, _, rfl, c, p, es, x, _, rfl, rfl, (DG.same sG').rd, hpG.same sG', val_cnt c1, _, 1, rfl, rfl, _, rfl, ?_⟩
          by_cases z1 : 1 < cnt es x
          · rw [decide_eq_true z1]
            exact iteT ⟨_, rfl, _, hW, sm, more fun _ => z1⟩
          · rw [decide_eq_false z1]
            exact iteF ⟨sG', ws, hW, by omega, gw⟩
        · rw [decide_eq_false zx]
          exact iteT (iteT ⟨_, rfl, _, hW, sm, more fun e => absurd e zx⟩)
    · rintro G3 ⟨sG3, ws, hW, lw, gw⟩
      rw [List.length_map] at lw
      have B3 := BG.same sG3
      have k3 := kG.trans (keep_of sG3)
      have D4 := DG.same sG3
      have hsW : ∀ z ∈ ws, ShAt G3 z.2 z.1 := by
        intro z hz
        obtain ⟨e, he, q1, q2⟩ := bySort (gz z (gw z hz).1).1
        have hs := D4.ks e he
        rw [q1, q2] at hs
        exact hs
      refine ⟨_, rfl, by show 0 ≤ sizeLine; decide, fun l4 nl4 => ?_⟩
      have e4 := same_new (o := .lst []) nl4
      refine ⟨_, _, data_list (e4 _ _ hW) (fun z hz => sh_dp ((hsW z hz).same e4)) (g := fun z => encS z.1), .lst (SqL.of upd_same) .nil, data_all (fun e he => by obtain ⟨z, _, rfl⟩ := List.mem_map.mp he; exact encS_ok z.1), rfl, _, rfl, ?_⟩
      rw [data_nil]
      cases ws with
      | nil => exact iteF (q _ _ (B3.same e4) (k3.trans (keep_of e4)) (.inl rfl))
      | cons z0 ws =>
        refine iteT ⟨_, rfl, _, rfl, b, sb, D3, _, rfl, B3.same e4, e4 _ _ hW, BG.ne hD3, by simp, by rw [List.length_map]; omega, fun i v H9 hv B9 k9 => ?_⟩
        rw [List.getElem?_map] at hv
        cases hz : (z0 :: ws)[i]? with
        | none =>
          rw [hz] at hv
          cases hv
        | some z =>
          rw [hz] at hv
          cases hv
          have mz := List.mem_of_getElem? hz
          obtain ⟨g1, g2⟩ := gw z mz
          obtain ⟨g3, g4⟩ := gz z g1
          obtain ⟨e, he, q1, q2⟩ := bySort g3
          refine q _ _ B9 (k3.trans ((keep_of e4).trans k9)) (.inr ⟨z.2, e, he, rfl, ?_, by rw [q1]; exact g4, by rw [q1]; exact g2⟩)
          rw [q1]
          exact ((hsW z mz).same e4).keep (B3.same e4) k9
end
/-! ### the step that comes next -/
theorem ItM.fit {t : Itm} (h : ItM (10 ^ 6) (10 ^ 7) t) : ItG t := h.up (by decide) (by decide)
theorem stepOk_of {d : Int} {es : DEs} {ts : List Itm} (hd : IsRoot d) (g : Good ts) (b : ∀ t ∈ ts, ItM (10 ^ 6) (10 ^ 7) t) (s : SawOk d ts) (n : ∀ e ∈ needI ts, e.2 ≤ cnt es e.1) (ge : GoodE d es) (len : es.length ≤ 900) : StepOk d es ts :=
  ⟨hd, g, fun t ht => (b t ht).fit, fun t ht => (rev_n g.shaped b t ht).up (by decide) (by decide), s, n, ge, len⟩
theorem Within.goodE {d M : Int} {es : DEs} (nd : (keysD es).Nodup) (h : Within (ShB d) M es) : GoodE d es := ⟨nd, h.rowB, h.es100⟩
theorem ShB.itM {d : Int} {x : Sh} (h : ShB d x) : ItM (10 ^ 6) (10 ^ 7) (.sheet x) := ⟨⟨h.1.2.1, h.1.2.2⟩, h.2.2.1, h.2.2.2⟩
theorem itm5 {t1 t2 t3 t4 t5 : Itm} (h1 : ItM (10 ^ 6) (10 ^ 7) t1) (h2 : ItM (10 ^ 6) (10 ^ 7) t2) (h3 : ItM (10 ^ 6) (10 ^ 7) t3) (h4 : ItM (10 ^ 6) (10 ^ 7) t4) (h5 : ItM (10 ^ 6) (10 ^ 7) t5) : ∀ t ∈ [t1, t2, t3, t4, t5], ItM (10 ^ 6) (10 ^ 7) t := by
  intro t ht
  simp only [List.mem_cons, List.not_mem_nil, or_false] at ht
  rcases ht with rfl | rfl | rfl | rfl | rfl <;> assumption
theorem itm_int {n : Int} (h : 0 ≤ n) (g : n ≤ 10 ^ 7) : ItM (10 ^ 6) (10 ^ 7) (.int n) := by
  show n.natAbs ≤ 10 ^ 7
  omega
theorem side_lenB {d : Int} {x : Sh} {s : Str} (h : ShB d x) : LenB d (sideOf x s).1 (sideOf x s).2 := by
  unfold sideOf
  split
  · exact h.1
  · exact h.2
theorem other_turn {x y : Sh} {s : Str} (hs : SideW s) (h : sideOf y (otherW s) = sideOf x (otherW s)) : sideOf (turnS x) s = sideOf (turnS y) s := by
  rcases hs with rfl | rfl
  · rw [show otherW "across" = "along" from if_pos rfl, side_al, side_al] at h
    rw [side_ac, side_ac]
    exact h.symm
  · rw [show otherW "along" = "across" from if_neg (by decide +kernel), side_ac, side_ac] at h
    rw [side_al, side_al]
    exact h.symm
section
variable {base : Heap} {K : PySem.W.Frag} {mg : Str → Option Value} {P : Program} {w : World}
def GotNext (b sb : Addr) (d : Int) (es : DEs) (H : Hp) (Q : VK) : Prop := ∀ v H', Bag H' b sb → Keep b H H' → (v = .non ∨ ∃ (t : Addr) (ts : List Itm), v = .ref t ∧ StepAt H' t ts ∧ StepOk d es ts) → Q v H'
def spNext (P : Program) (w : World) : Sp := fun vs H Q _ => ∃ (b sb c : Addr) (d : Int) (es : DEs), vs = [.ref b, .ref c, .int d, .bl true] ∧ Bag H b sb ∧ DAt P w H c es ∧ (keysD es).Nodup ∧ 0 < es.length ∧ es.length ≤ 900 ∧ Within (ShB d) (10 ^ 7) es ∧ IsRoot d ∧ GotNext b sb d es H Q
theorem ok_next_step (T : Txt K mg) : FnOk P w K mg base CX0 6 T.f_next_step T.d_next_step ["_law_bag", "_law_stock", "_law_root", "_law_turning_z"] (spNext P w) := by
  refine T.F_next_step.ok sc_next_step (fun vs H Q E h => ?_) (fun cdv A outer s H vs Q E hr h => ?_)
  · obtain ⟨b, sb, c, d, es, rfl, _⟩ := h
    rfl
  · obtain ⟨b, sb, c, d, es, rfl, B, D, nd, l0, l9, wi, hd, q⟩ := h
    refine ⟨_, (pss_cons (ps_par (i := 6) (j := 7) (by rfl) sc_next_step.nd rfl rfl (by decide) rfl rfl (pa_cons (pe_call (ok_of T) (hr.mono (by decide)) (by rfl) T.g_of T.F_of.kp T.b_of .nil pass0 (pa_cons (pv 0) (pa_cons (pe_callB (cr_sortedLS hr.units) (by rfl) T.n_sorted (by decide +kernel) (pa_cons (pe_callTy (call_list_DS rfl) (by rfl) T.n_list (by decide +kernel) (pa_cons (pv 1) pa_nil)) pa_nil)) pa_nil))) (pa_cons (pe_call (ok_of T) (hr.mono (by decide)) (by rfl) T.g_of T.F_of.kp T.b_of .nil pass0 (pa_cons (pv 0) (pa_cons (pe_lst (pa_cons pe_str (pa_cons pe_str pa_nil))) pa_nil))) pa_nil)) (by rfl))
      (pss_cons (ps_par (i := 8) (j := 9) (by rfl) sc_next_step.nd rfl rfl (by decide) rfl rfl (pa_cons (pe_sget hr.units (pv 1) (pv 6) (fun _ _ => rfl)) (pa_cons (pe_call (ok_pull T) (hr.mono (by decide)) (by rfl) T.g_pull T.F_pull.kp T.b_pull .nil pass0 (pa_cons (pv 0) (pa_cons (pe_op op_add pe_int (pe_callTy call_int1 (by rfl) T.n_int (by decide +kernel) (pa_cons (pv 3) pa_nil))) pa_nil))) pa_nil)) (by rfl))
      (pss_cons (ps_set (i := 4) sc_next_step.nd rfl (Or.inl rfl) (pe_call (ok_of T) (hr.mono (by decide)) (by rfl) T.g_of T.F_of.kp T.b_of .nil pass0 (pa_cons (pv 0) (pa_cons (pe_lst (pa_cons pe_int (pa_cons (pv 8) (pa_cons (pe_op op_add pe_int (pe_call (ok_pull T) (hr.mono (by decide)) (by rfl) T.g_pull T.F_pull.kp T.b_pull .nil pass0 (pa_cons (pv 0) (pa_cons (pv 8) pa_nil)))) pa_nil)))) pa_nil))))
      (pss_cons (ps_set (i := 5) sc_next_step.nd rfl (Or.inl rfl) (pe_call (ok_lside_of T) (hr.mono (by decide)) (by rfl) T.g_lside_of T.F_lside_of.kp T.b_lside_of .nil pass0 (pa_cons (pv 6) (pa_cons (pv 7) pa_nil))))
      (pss_cons (ps_if (pt_cmpR op_lt (pv 9) pe_int (nomark _)) (pss_cons (ps_set (i := 10) sc_next_step.nd rfl (Or.inl rfl) (pe_call (ok_part_below T) (hr.mono (by decide)) (by rfl) T.g_part_below T.F_part_below.kp T.b_part_below .nil pass0 (pa_cons (pv 0) (pa_cons (pv 5) (pa_cons (pv 2) pa_nil)))))
      (pss_one (ps_ret (pe_ifExp (pt_cmpR op_isN (pv 10) pe_non (nomark _)) pe_non (pe_tup (pa_cons pe_str (pa_cons (pv 6) (pa_cons (pv 7) (pa_cons (pv 10) (pa_cons (pv 4) pa_nil)))))))))) pss_nil)
      (pss_cons (ps_if (pt_cmpR op_eq (pv 9) pe_int (nomark _)) (pss_cons (ps_set (i := 11) sc_next_step.nd rfl (Or.inl rfl) (pe_op op_add pe_int (pe_call (ok_pull T) (hr.mono (by decide)) (by rfl) T.g_pull T.F_pull.kp T.b_pull .nil pass0 (pa_cons (pv 0) (pa_cons pe_int pa_nil)))))
      (pss_cons (ps_set (i := 12) sc_next_step.nd rfl (Or.inl rfl) (pe_and (pe_cmpR op_eq (pe_op op_mod (pe_ix ix_tup (pv 5) pe_int (fun _ _ => rfl)) (pv 11)) pe_int (nomark _)) (pe_one (pe_cmpR op_eq (pe_op op_mod (pe_ix ix_tup (pv 5) pe_int (fun _ _ => rfl)) (pv 11)) pe_int (nomark _)))))
      (pss_one (ps_ret (pe_ifExp (pt_val (pv 12)) (pe_tup (pa_cons pe_str (pa_cons (pv 6) (pa_cons (pv 7) (pa_cons (pv 11) (pa_cons (pv 4) pa_nil)))))) pe_non))))) pss_nil)
      (pss_cons (ps_if (pt_cmpR op_lt (pv 9) pe_int (nomark _)) (pss_cons (ps_set (i := 13) sc_next_step.nd rfl (Or.inl rfl) (pe_call (ok_mate_of T) (hr.mono (by decide)) (by rfl) T.g_mate_of T.F_mate_of.kp T.b_mate_of .nil pass0 (pa_cons (pv 0) (pa_cons (pv 1) (pa_cons (pv 6) (pa_cons (pv 7) pa_nil))))))
      (pss_cons (ps_if (pt_cmpR op_isN (pv 13) pe_non (nomark _)) (pss_one (ps_ret pe_non)) pss_nil)
      (pss_cons (ps_set (i := 14) sc_next_step.nd rfl (Or.inl rfl) (pe_ifExp (pt_cmpR (op_eqD hr.units) (pv 13) (pv 6) (nomark _)) (pe_op op_fdiv (pe_sget hr.units (pv 1) (pv 13) (fun _ _ => rfl)) pe_int) (pe_callB (call_min2 rfl) (by rfl) T.n_min (by decide +kernel) (pa_cons (pv 8) (pa_cons (pe_sget hr.units (pv 1) (pv 13) (fun _ _ => rfl)) pa_nil)))))
      (pss_one (ps_ret (pe_tup (pa_cons pe_str (pa_cons (pv 6) (pa_cons (pv 13) (pa_cons (pv 7) (pa_cons (pe_op op_add pe_int (pe_call (ok_pull T) (hr.mono (by decide)) (by rfl) T.g_pull T.F_pull.kp T.b_pull .nil pass0 (pa_cons (pv 0) (pa_cons (pv 14) pa_nil)))) pa_nil))))))))))) pss_nil)
      (pss_cons (ps_if (pt_cmpR op_eq (pv 9) pe_int (nomark _)) (pss_cons (ps_set (i := 11) sc_next_step.nd rfl (Or.inl rfl) (pe_op op_add pe_int (pe_call (ok_pull T) (hr.mono (by decide)) (by rfl) T.g_pull T.F_pull.kp T.b_pull .nil pass0 (pa_cons (pv 0) (pa_cons pe_int pa_nil)))))
      (pss_one (ps_ret (pe_ifExp (pt_cmpR op_ge (pv 8) (pv 11) (nomark _)) (pe_tup (pa_cons pe_str (pa_cons (pv 6) (pa_cons (pv 7) (pa_cons (pv 11) (pa_cons (pe_op op_add pe_int (pe_call (ok_pull T) (hr.mono (by decide)) (by rfl) T.g_pull T.F_pull.kp T.b_pull .nil pass0 (pa_cons (pv 0) (pa_cons (pe_op op_fdiv (pv 8) (pv 11)) pa_nil)))) pa_nil)))))) pe_non)))) pss_nil)
      (pss_one (ps_ret (pe_tup (pa_cons pe_str (pa_cons (pv 6) (pa_cons (pv 4) pa_nil)))))))))))))), ?_⟩
    have lS : (sortK es).length = es.length := by rw [(sortK_perm es).length_eq, List.length_map]
    have ge := wi.goodE nd
    refine ⟨_, rfl, .ref c, rfl, c, es, rfl, D, fun l0 h0 => ?_⟩
    have e0 := same_new (o := .lst (es.map fun e => V.ref e.2.1)) h0
    refine ⟨l0, es.map fun e => (e.1, e.2.1), rfl, by rw [upd_same, List.map_map]; rfl, fun y hy => ?_, fun l1 h1 => ?_⟩
    · obtain ⟨e, he, rfl⟩ := List.mem_map.mp hy
      exact (D.ks e he).same e0
    have e1 := same_new (o := .lst ((sortK es).map fun b => V.ref b.2)) h1
    have B1 := B.same (e0.trans e1)
    have D1 := D.same (e0.trans e1)
    have k01 : Keep b H _ := keep_of (e0.trans e1)
    have n1 : l1 ≠ b := (B.same e0).ne h1
    have hl1 : (upd (upd H l0 (.lst (es.map fun e => V.ref e.2.1))) l1 (.lst ((sortK es).map fun b => V.ref b.2))) l1 = some (.lst ((sortK es).map fun b => V.ref b.2)) := upd_same
    rw [← show sortK es = (es.map fun e => (e.1, e.2.1)).mergeSort (fun a b => leS a.1 b.1) from rfl]
    generalize (upd (upd H l0 (.lst (es.map fun e => V.ref e.2.1))) l1 (.lst ((sortK es).map fun b => V.ref b.2))) = H1 at B1 D1 k01 hl1 ⊢
    refine ⟨b, sb, l1, _, rfl, B1, hl1, n1, by rw [List.length_map]; omega, by rw [List.length_map]; omega, fun i v H2 hv B2 k2 => ?_⟩
    obtain ⟨e, he, rfl⟩ : ∃ e ∈ es, v = .ref e.2.1 := by
      rw [List.getElem?_map] at hv
      cases hz : (sortK es)[i]? with
      | none =>
        rw [hz] at hv
        cases hv
      | some z =>
        rw [hz] at hv
        cases hv
        obtain ⟨e, he, q1⟩ := List.mem_map.mp ((sortK_perm es).mem_iff.mp (List.mem_of_getElem? hz))
        exact ⟨e, he, by rw [← q1]⟩
    refine ⟨.ref b, rfl, by show 2 ≤ sizeLine; decide, fun l2 nl2 => ⟨b, sb, l2, _, rfl, B2.new nl2, upd_same, B2.ne nl2, by simp, by simp, fun j v2 H3 hv2 B3 k3 => ?_⟩⟩
    obtain ⟨sd, rfl, hs⟩ : ∃ sd, v2 = .str sd ∧ SideW sd := by
      rcases at2 hv2 with rfl | rfl
      · exact ⟨_, rfl, .inl rfl⟩
      · exact ⟨_, rfl, .inr rfl⟩
    obtain ⟨bS, c1, c2⟩ := wi e he
    have hv := valD_mem nd he
    have cn : cnt es e.1 = e.2.2 := by unfold cnt; rw [hv]; rfl
    have k03 := k01.trans (k2.trans ((keep_new nl2).trans k3))
    have D3 := D.keep B k03
    refine ⟨_, _, rfl, .ref c, rfl, .ref e.2.1, rfl, c, e.2.1, es, e.1, _, rfl, rfl, D3.rd, D3.ks e he, hv, ?_⟩
    refine ⟨_, rfl, _, rfl, .inr ⟨true, rfl, 6, 1, rfl, rfl, b, sb, 7, rfl, B3, by decide, by decide, fun wy H4 w0 w1 B4 k4 => ⟨_, _, rfl, ?_⟩⟩⟩
    refine ⟨_, rfl, _, rfl, _, rfl, _, rfl, b, sb, e.2.2, rfl, B4, by omega, by omega, fun z5 H5 u0 u1 B5 k5 => ⟨1, z5, rfl, rfl, by show 3 ≤ sizeLine; decide, fun l3 nl3 => ⟨b, sb, l3, _, rfl, B5.new nl3, upd_same, B5.ne nl3, by simp, by simp, fun j2 v3 H6 hv3 B6 k6 => ?_⟩⟩⟩
    obtain ⟨cp, rfl, cp1, cp2⟩ : ∃ cp : Int, v3 = .int cp ∧ 1 ≤ cp ∧ cp ≤ e.2.2 := by
      rcases at3 hv3 with rfl | rfl | rfl
      · exact ⟨_, rfl, by decide, c1⟩
      · exact ⟨_, rfl, c1, Int.le_refl _⟩
      · exact ⟨_, rfl, by omega, by omega⟩
    have k06 := k03.trans (k4.trans (k5.trans ((keep_new nl3).trans k6)))
    have D6 := D.keep B k06
    have hx6 := D6.ks e he
    refine ⟨_, rfl, _, rfl, e.2.1, e.1, sd, rfl, hx6, hs, fun r H7 s7 hr7 => ?_⟩
    have B7 := B6.same s7
    have D7 := D6.same s7
    have hx7 := hx6.same s7
    have k07 := k06.trans (keep_of s7)
    have hw := side_word hs
    have sl := side_lenB (s := sd) bS
    have bx := bS.itM
    have bc := itm_int (n := cp) (by omega) (by omega)
    have fin : ∀ {G : Hp} {t : Addr} {vs : List V} {ts : List Itm}, Bag G b sb → Keep b H G → G t = none → Paired (ItAt G) vs ts → StepOk d es ts → Q (.ref t) (upd G t (.tup vs)) := fun BG kG ht hts ok =>
      q _ _ (BG.new ht) (kG.trans (keep_new ht)) (.inr ⟨_, _, rfl, ⟨_, upd_same, items_same (same_new ht) hts⟩, ok⟩)
    clear k01 k2 k3 k4 k5 k6 B1 B2 B3 B4 B5 D1 D3 hl1 k03 k06
    by_cases y2 : wy < 2
    · refine ⟨_, rfl, wy, 2, rfl, rfl, _, rfl, ?_⟩
      rw [decide_eq_true y2]
      refine iteT ⟨_, rfl, _, rfl, _, rfl, b, sb, r, d, _, _, rfl, B7, hd, hr7, sl, fun v4 H8 B8 k8 hv4 => ?_⟩
      have k08 := k07.trans k8
      rcases hv4 with rfl | ⟨t4, x4, y4, rfl, h4, l4, p4⟩
      · exact ⟨_, rfl, rfl, true, by decide +kernel, iteT (q _ _ B8 k08 (.inl rfl))⟩
      · refine ⟨_, rfl, rfl, false, congrArg V.bl (decide_eq_false fun z => by cases z), iteF ⟨_, rfl, _, rfl, _, rfl, _, rfl, by show 5 ≤ sizeLine; decide, fun t nt => ?_⟩⟩
        exact fin B8 k08 nt (ts := [.str "saw", .sheet e.1, .str sd, .pair x4 y4, .int cp]) (.cons ⟨rfl, by decide +kernel⟩ (.cons ⟨e.2.1, rfl, hx7.keep B7 k8⟩ (.cons ⟨rfl, hw⟩ (.cons ⟨t4, rfl, h4⟩ (.cons rfl .nil)))))
          (stepOk_of hd (.saw hs cp1) (itm5 trivial bx trivial ⟨l4.2.1, l4.2.2⟩ bc) ⟨l4.1, p4⟩ (fun f hf => by rw [List.mem_singleton.mp hf]; show cp ≤ cnt es e.1; omega) ge l9)
    refine ⟨_, rfl, wy, 2, rfl, rfl, _, rfl, ?_⟩
    rw [decide_eq_false y2]
    refine iteF ?_
    by_cases y3 : wy = 2
    · refine use_eqc (b := true) rfl rfl (congrArg V.bl (by rw [dV', decide_eq_true y3])) (iteT ?_)
      refine ⟨_, rfl, b, sb, 4, rfl, B7, by decide, by decide, fun z8 H8 u2 u3 B8 k8 => ⟨2, z8, rfl, rfl, ?_⟩⟩
      have k08 := k07.trans k8
      have hr8 := tup_keep B7 k8 _ _ hr7
      refine use_ix rfl hr8 (atI_nat (j := 0) rfl) ⟨_, rfl, _, 2 + z8, rfl, rfl, (show 0 < 2 + z8 by omega), rfl, _, rfl, ?_⟩
      rw [dV']
      by_cases a1 : (sideOf e.1 sd).1 % (2 + z8) = 0
      · rw [decide_eq_true a1]
        refine iteT (use_ix rfl hr8 (atI_nat (j := 1) rfl) ⟨_, rfl, _, 2 + z8, rfl, rfl, (show 0 < 2 + z8 by omega), rfl, ?_⟩)
        rw [dV']
        by_cases a2 : (sideOf e.1 sd).2 % (2 + z8) = 0
        · rw [decide_eq_true a2]
          refine ⟨_, rfl, true, rfl, iteT ⟨_, rfl, _, rfl, _, rfl, _, rfl, by show 5 ≤ sizeLine; decide, fun t nt => ?_⟩⟩
          exact fin B8 k08 nt (ts := [.str "split", .sheet e.1, .str sd, .int (2 + z8), .int cp]) (.cons ⟨rfl, by decide +kernel⟩ (.cons ⟨e.2.1, rfl, hx7.keep B7 k8⟩ (.cons ⟨rfl, hw⟩ (.cons rfl (.cons rfl .nil)))))
            (stepOk_of hd (.split hs (by omega) cp1 a1 a2) (itm5 trivial bx trivial (itm_int (by omega) (by omega)) bc) trivial (fun f hf => by rw [need_split] at hf; rw [List.mem_singleton.mp hf]; show cp ≤ cnt es e.1; omega) ge l9)
        · rw [decide_eq_false a2]
          exact ⟨_, rfl, false, rfl, iteF (q _ _ B8 k08 (.inl rfl))⟩
      · rw [decide_eq_false a1]
        exact iteF ⟨_, rfl, false, rfl, iteF (q _ _ B8 k08 (.inl rfl))⟩
    refine use_eqc (b := false) rfl rfl (congrArg V.bl (by rw [dV', decide_eq_false y3])) (iteF ?_)
    by_cases y4 : wy < 5
    · refine ⟨_, rfl, wy, 5, rfl, rfl, _, rfl, ?_⟩
      rw [decide_eq_true y4]
      refine iteT ⟨_, rfl, _, rfl, _, rfl, _, rfl, b, sb, c, e.2.1, es, e.1, sd, rfl, B7, D7, nd, by omega, hx7, hs, by omega, fun v8 H8 B8 k8 hv8 => ?_⟩
      have k08 := k07.trans k8
      rcases hv8 with rfl | ⟨t8, f, hf, rfl, hf8, so, g8⟩
      · exact ⟨_, rfl, rfl, true, by decide +kernel, iteT (q _ _ B8 k08 (.inl rfl))⟩
      · refine ⟨_, rfl, rfl, false, congrArg V.bl (decide_eq_false fun z => by cases z), iteF ?_⟩
        have hvf := valD_mem nd hf
        obtain ⟨bF, f1, f2⟩ := wi f hf
        have cf : cnt es f.1 = f.2.2 := by unfold cnt; rw [hvf]; rfl
        have D8 := D7.keep B7 k8
        have hx8 := hx7.keep B7 k8
        have turn := other_turn hs so
        have done : ∀ {m : Int}, 1 ≤ m → m ≤ 10 ^ 7 → (∀ g ∈ needI [.str "glue", .sheet e.1, .sheet f.1, .str sd, .int m], g.2 ≤ cnt es g.1) → StepOk d es [.str "glue", .sheet e.1, .sheet f.1, .str sd, .int m] := fun m1 m2 nn =>
          stepOk_of hd (.glue hs m1 turn) (itm5 trivial bx bF.itM trivial (itm_int (by omega) m2)) trivial nn ge l9
        refine ⟨_, rfl, _, rfl, _, _, sh_dp hf8, sh_dp hx8, encS_shaped _, encS_shaped _, _, rfl, ?_⟩
        rw [encS_eqv]
        by_cases fx : f.1 = e.1
        · rw [decide_eq_true fx]
          have gt := g8 fx
          rw [fx] at cf
          refine iteT ⟨.ref c, rfl, .ref t8, rfl, c, t8, es, f.1, _, rfl, rfl, D8.rd, hf8, hvf, _, 2, rfl, rfl, ⟨by omega, by omega⟩, ?_⟩
          refine ⟨_, rfl, _, rfl, _, rfl, _, rfl, _, rfl, b, sb, f.2.2 / 2, rfl, B8, by omega, by omega, fun z9 H9 u2 u3 B9 k9 => ⟨1, z9, rfl, rfl, by show 5 ≤ sizeLine; decide, fun t nt => ?_⟩⟩
          exact fin B9 (k08.trans k9) nt (ts := [.str "glue", .sheet e.1, .sheet f.1, .str sd, .int (1 + z9)]) (.cons ⟨rfl, by decide +kernel⟩ (.cons ⟨e.2.1, rfl, hx8.keep B8 k9⟩ (.cons ⟨t8, rfl, hf8.keep B8 k9⟩ (.cons ⟨rfl, hw⟩ (.cons rfl .nil)))))
            (done (by omega) (by omega) fun g hg => by rw [need_glue, if_pos fx] at hg; rw [List.mem_singleton.mp hg]; show 2 * (1 + z9) ≤ cnt es e.1; omega)
        · rw [decide_eq_false fx]
          refine iteF ⟨_, rfl, .ref c, rfl, .ref t8, rfl, c, t8, es, f.1, _, rfl, rfl, D8.rd, hf8, hvf, _, _, rfl, ?_⟩
          obtain ⟨m1, m2, m3⟩ : 1 ≤ (if f.2.2 < e.2.2 then f.2.2 else e.2.2) ∧ (if f.2.2 < e.2.2 then f.2.2 else e.2.2) ≤ f.2.2 ∧ (if f.2.2 < e.2.2 then f.2.2 else e.2.2) ≤ e.2.2 := by
            split <;> omega
          generalize (if f.2.2 < e.2.2 then f.2.2 else e.2.2) = mm at m1 m2 m3 ⊢
          refine ⟨_, rfl, _, rfl, _, rfl, _, rfl, _, rfl, b, sb, mm, rfl, B8, by omega, by omega, fun z9 H9 u2 u3 B9 k9 => ⟨1, z9, rfl, rfl, by show 5 ≤ sizeLine; decide, fun t nt => ?_⟩⟩
          refine fin B9 (k08.trans k9) nt (ts := [.str "glue", .sheet e.1, .sheet f.1, .str sd, .int (1 + z9)]) (.cons ⟨rfl, by decide +kernel⟩ (.cons ⟨e.2.1, rfl, hx8.keep B8 k9⟩ (.cons ⟨t8, rfl, hf8.keep B8 k9⟩ (.cons ⟨rfl, hw⟩ (.cons rfl .nil)))))
            (done (by omega) (by omega) fun g hg => ?_)
          rw [need_glue, if_neg fx] at hg
          simp only [List.mem_cons, List.not_mem_nil, or_false] at hg
          rcases hg with rfl | rfl
          · show 1 + z9 ≤ cnt es e.1
            omega
          · show 1 + z9 ≤ cnt es f.1
            omega
    refine ⟨_, rfl, wy, 5, rfl, rfl, _, rfl, ?_⟩
    rw [decide_eq_false y4]
    refine iteF ?_
    by_cases y5 : wy = 5
    · refine use_eqc (b := true) rfl rfl (congrArg V.bl (by rw [dV', decide_eq_true y5])) (iteT ?_)
      refine ⟨_, rfl, b, sb, 3, rfl, B7, by decide, by decide, fun z8 H8 u2 u3 B8 k8 => ⟨2, z8, rfl, rfl, ?_⟩⟩
      have k08 := k07.trans k8
      have hx8 := hx7.keep B7 k8
      refine ⟨_, rfl, _, rfl, e.2.2, 2 + z8, rfl, rfl, _, rfl, ?_⟩
      by_cases g1 : 2 + z8 ≤ e.2.2
      · rw [decide_eq_true g1]
        have dm := Int.mul_ediv_add_emod e.2.2 (2 + z8)
        have m0 := Int.emod_nonneg e.2.2 (show 2 + z8 ≠ 0 by omega)
        have q1 : 1 ≤ e.2.2 / (2 + z8) := (Int.le_ediv_iff_mul_le (by omega)).mpr (by omega)
        have q2 : e.2.2 / (2 + z8) ≤ e.2.2 := Int.ediv_le_self _ (by omega)
        refine iteT ⟨_, rfl, _, rfl, _, rfl, _, rfl, _, rfl, _, rfl, _, 2 + z8, rfl, rfl, ⟨by omega, by omega⟩, b, sb, _, rfl, B8, by omega, by omega, fun z9 H9 u4 u5 B9 k9 => ⟨1, z9, rfl, rfl, by show 5 ≤ sizeLine; decide, fun t nt => ?_⟩⟩
        refine fin B9 (k08.trans k9) nt (ts := [.str "stack", .sheet e.1, .str sd, .int (2 + z8), .int (1 + z9)]) (.cons ⟨rfl, by decide +kernel⟩ (.cons ⟨e.2.1, rfl, hx8.keep B8 k9⟩ (.cons ⟨rfl, hw⟩ (.cons rfl (.cons rfl .nil)))))
          (stepOk_of hd (.stack hs (by omega) (by omega)) (itm5 trivial bx trivial (itm_int (by omega) (by omega)) (itm_int (by omega) (by omega))) trivial (fun g hg => ?_) ge l9)
        rw [need_stack] at hg
        rw [List.mem_singleton.mp hg]
        show (2 + z8) * (1 + z9) ≤ cnt es e.1
        have := Int.mul_le_mul_of_nonneg_left (show 1 + z9 ≤ e.2.2 / (2 + z8) by omega) (show 0 ≤ 2 + z8 by omega)
        omega
      · rw [decide_eq_false g1]
        exact iteF (q _ _ B8 k08 (.inl rfl))
    refine use_eqc (b := false) rfl rfl (congrArg V.bl (by rw [dV', decide_eq_false y5])) (iteF ?_)
    refine ⟨_, rfl, _, rfl, by show 3 ≤ sizeLine; decide, fun t nt => ?_⟩
    refine fin B7 k07 nt (ts := [.str "turn", .sheet e.1, .int cp]) (.cons ⟨rfl, by decide +kernel⟩ (.cons ⟨e.2.1, rfl, hx7⟩ (.cons rfl .nil))) (stepOk_of hd (.turn cp1) (fun t ht => ?_) trivial (fun f hf => by rw [List.mem_singleton.mp hf]; show cp ≤ cnt es e.1; omega) ge l9)
    simp only [List.mem_cons, List.not_mem_nil, or_false] at ht
    rcases ht with rfl | rfl | rfl
    · trivial
    · exact bx
    · exact bc
end
/-! ### steps that are like each other, a bad step told -/
section
variable {base : Heap} {K : PySem.W.Frag} {mg : Str → Option Value} {w : World}
theorem dbad {H : Hp} {p : Addr} {i : Int} (h : H p = some (.tup [.str "BadStep", .int i])) : Dp K H (.ref p) (.tuple [.str "BadStep", .int i]) := .tup (SqT.of h) (.cons (.str _) (.cons (.int _) .nil))
theorem bad_shaped (n : Int) : SeqAt.shaped (.tuple [.str "BadStep", .int n]) = true := by kernel_rfl
theorem bad_same (n : Int) : PyData.eqv (.tuple [.str "BadStep", .int n]) (.tuple [.str "BadStep", .int n]) = true := PySem.SeqAt.eqv_refl_plain _ (by simp [PyData.plain, PyData.plainAll])
theorem lk_item {H : Hp} {n : Nat} {v v' : V} {t : Itm} (h : ItAt H v t) (h' : ItAt H v' t) : Lk H (n + 2) v v' := by
  cases t with
  | str s =>
    rw [h.1, h'.1]
    exact Lk.flat (.inr (.inr (.inr ⟨s, rfl, rfl⟩)))
  | int i =>
    rw [show v = .int i from h, show v' = .int i from h']
    exact Lk.int rfl
  | pair a b =>
    obtain ⟨p, rfl, hp⟩ := h
    obtain ⟨q, rfl, hq⟩ := h'
    exact Lk.pair hp hq rfl rfl
  | sheet x =>
    obtain ⟨p, rfl, u, z, h1, h2, h3⟩ := h
    obtain ⟨q, rfl, u', z', h1', h2', h3'⟩ := h'
    exact Lk.tups h1 h1' (by simp) (.cons (Lk.pair h2 h2' rfl rfl) (.cons (Lk.pair h3 h3' rfl rfl) .nil))
theorem lk_items {H : Hp} {n : Nat} : ∀ {vs vs' : List V} {ts : List Itm}, Paired (ItAt H) vs ts → Paired (ItAt H) vs' ts → LkAll H (n + 2) vs vs' := by
  intro vs vs' ts h
  induction h generalizing vs' with
  | nil =>
    intro h'
    cases h'
    exact .nil
  | cons a r ih =>
    intro h'
    cases h' with
    | cons a' r' => exact .cons (lk_item a a') (ih r')
theorem lk_step {H : Hp} {n : Nat} {p q : Addr} {ts : List Itm} (h : StepAt H p ts) (h' : StepAt H q ts) (ln : ts.length ≤ 10) : Lk H (n + 3) (.ref p) (.ref q) := by
  obtain ⟨vs, g, r⟩ := h
  obtain ⟨vs', g', r'⟩ := h'
  exact Lk.tups g g' (by rw [Paired.length r]; omega) (lk_items r r')
end
/-! ### the law -/
theorem add_len (acc : DEs) (e : Sh × Addr × Int) : 0 < (addE acc e).length ∧ acc.length ≤ (addE acc e).length := by
  unfold addE putD
  split
  · rename_i h
    rw [List.length_map]
    refine ⟨?_, Nat.le_refl _⟩
    cases acc with
    | nil => cases h
    | cons _ _ => exact Nat.succ_pos _
  · rw [List.length_append, List.length_singleton]
    omega
theorem fold_up : ∀ (es acc : DEs), acc.length ≤ (es.foldl addE acc).length
  | [], _ => Nat.le_refl _
  | e :: es, acc => Nat.le_trans (add_len acc e).2 (fold_up es _)
theorem merge_some {es : DEs} (h : 0 < es.length) : 0 < (mergeD es).length := by
  cases es with
  | nil => cases h
  | cons e es => exact Nat.lt_of_lt_of_le (add_len [] e).1 (fold_up es _)
theorem fsum_cons (φ : Sh → Int) (e : Sh × Int) (l : List (Sh × Int)) : fsum φ (e :: l) = e.2 * φ e.1 + fsum φ l := by
  unfold fsum
  rw [List.map_cons, List.sum_cons]
theorem fsum_ind {x : Sh} : ∀ {l : List (Sh × Int)}, (∀ e ∈ l, 1 ≤ e.2) → 0 ≤ fsum (ind x) l ∧ ∀ e ∈ l, e.1 = x → e.2 ≤ fsum (ind x) l
  | [], _ => ⟨Int.le_refl _, fun e h => by cases h⟩
  | f :: l, h => by
    obtain ⟨h1, h2⟩ := fsum_ind (x := x) fun e he => h e (List.mem_cons_of_mem _ he)
    have hf := h f List.mem_cons_self
    rw [fsum_cons]
    have t : f.2 * ind x f.1 = if f.1 = x then f.2 else 0 := by
      unfold ind
      split
      · rw [Int.mul_one]
      · rw [Int.mul_zero]
    rw [t]
    constructor
    · split <;> omega
    · intro e he ex
      rcases List.mem_cons.mp he with rfl | he
      · rw [if_pos ex]
        omega
      · have := h2 e he ex
        split <;> omega
theorem StepOk.left {d : Int} {es : DEs} {ts : List Itm} (h : StepOk d es ts) (a : Addr) (x : Sh) : fsum (ind x) (needI ts) ≤ cnt es x := by
  have e : pairsE ((needI ts).map fun e => ((e.1, a, e.2) : Sh × Addr × Int)) = needI ts := by
    unfold pairsE
    rw [List.map_map]
    exact List.map_id _
  obtain ⟨g, _, w⟩ := takeTo_good h.ge (h.taken e) _ (Nat.le_refl _)
  have w := w (ind x)
  rw [List.take_length, wsum_pairs _ (List.map _ _), e, cnt_wsum g.nd, cnt_wsum h.ge.nd] at w
  rcases g.cnt x with z | z <;> omega
theorem StepOk.back {d : Int} {es gs : DEs} {ts : List Itm} (h : StepOk d es ts) (a : Addr) (g : GoodE d gs) (dn : DoneTo es ts gs) (l : gs.length ≤ 900) : StepOk d gs (revI ts) := by
  obtain ⟨g1, g2⟩ := h.good.rev
  refine ⟨h.root, g1, h.b2, by rw [g2]; exact h.b1, (rev_ok h.root h.good h.ok h.saw).2, fun e he => ?_, g, l⟩
  have w := dn (ind e.1)
  rw [cnt_wsum g.nd, cnt_wsum h.ge.nd] at w
  have := h.left a e.1
  have := (fsum_ind (x := e.1) (need_pos g1)).2 e he rfl
  omega
theorem StepOk.there {d : Int} {es gs hs : DEs} {ts : List Itm} (h : StepOk d es ts) (ha : Asc es) (hb : Asc hs) (d1 : DoneTo es ts gs) (d2 : DoneTo gs (revI ts) hs) : eqD hs es = true := by
  rw [eqD_iff hb ha]
  refine decide_eq_true (asc_eq hb ha fun φ => ?_)
  rw [d2 φ, d1 φ, h.good.rev.2]
  omega
theorem StepOk.perm {d : Int} {es fs : DEs} {ts : List Itm} (h : StepOk d es ts) (p : fs.Perm es) : StepOk d fs ts := by
  have nd : (keysD fs).Nodup := (keys_perm p).nodup_iff.mpr h.ge.nd
  refine ⟨h.root, h.good, h.b1, h.b2, h.saw, fun e he => ?_, ⟨nd, fun e he => h.ge.row e (p.mem_iff.mp he), fun e he => h.ge.b e (p.mem_iff.mp he)⟩, by rw [p.length_eq]; exact h.len⟩
  have := h.need e he
  unfold cnt at this ⊢
  rw [valD_perm nd p]
  exact this
theorem Within.times {S : Sh → Prop} {es : DEs} (h : Within S (10 ^ 6) es) (l : es.length ≤ 3) : Within S (10 ^ 7) (mergeD es) := (merge_within (by decide) h).up (by omega)
section
variable {base : Heap} {K : PySem.W.Frag} {mg : Str → Option Value} {w : World}
theorem bk_told (T : Txt K mg) {H : Hp} {p : Addr} {ts : List Itm} {Q Q1 : VK} {E : XK} (hE : E = Raised K T.r_GrainError Q) (hS : StepAt H p ts) (ln : ts.length ≤ 10) (odd : stepB ts = false) (q : ∀ t H', Same H H' → H' t = some (.tup [.str "BadStep", .int 0]) → Q (.ref t) H') : spBack T [.ref p] H Q1 E := by
  subst hE
  refine ⟨p, ts, rfl, hS, ln, (fun g => by rw [odd] at g; cases g), fun _ x Hf nx sf fx => raised_step T (n := 0) fx fun H' t s' ht => q t H' (sf.trans s') ht⟩
theorem good5 {ts : List Itm} (g : Good ts) : ts.length ≤ 10 := by cases g <;> simp
def spLaw (K : PySem.W.Frag) (P0 : Addr) : Sp := fun vs H Q _ => ∃ (a : Addr) (ns : List Int), vs = [.ref a] ∧ SqL K H a (ns.map V.int) ∧ ns.length ≤ 63 ∧ H P0 = some (.tbl #[]) ∧ ∀ H', Q (.bl true) H'
theorem ok_law {f c P0 : Addr} {oc kV doc pm ct : Value} {od an : Option Addr} {osl : Array (Option Value)} (lk : K.lookup f = some ⟨oc, od, .func (PySem.W.fnOf "law" "law" (defArgs s_law) (defBody s_law) (defScope s_law) .none kV doc pm an (.ref c) ct), osl⟩) (hcd : PySem.W.codeIn K (.ref c) "law" = true)
    (TB : LamX.TabB base mg c P0) (T : Txt K mg) (D : Shps K w T.u_SHAPES) : FnOk PySem.Challenge.pw_grainyard_k21_reverse_steps w K mg base CX0 18 f (PySem.W.fnOf "law" "law" (defArgs s_law) (defBody s_law) (defScope s_law) .none kV doc pm an (.ref c) ct) ["_law_script"] (spLaw K P0) := by
  refine fn_of lk hcd sc_law (fun vs H Q E h => ?_) (fun A outer s H vs Q E hr h => ?_)
  · obtain ⟨a, ns, rfl, _⟩ := h
    rfl
  · obtain ⟨a, ns, rfl, hS, hlen, hP, q⟩ := h
    refine ⟨_, PSs.nox (pss_cons (ps_set (i := 1) sc_law.nd rfl (Or.inl rfl) (pe_call (ok_source T) (hr.mono (by decide)) (by rfl) T.g_source T.F_source.kp T.b_source .nil pass0 (pa_cons (pv 0) pa_nil)))
      (Evl.pss_cut (ps_for PassesOwn.never rfl (pi_range1 (by rfl) T.n_range (pa_cons pe_int pa_nil)) (pg_name (i := 2) sc_law.nd rfl (Or.inl rfl)) (pss_cons (ps_set (i := 3) sc_law.nd rfl (Or.inl rfl) (pe_call (ok_a_root T) (hr.mono (by decide)) (by rfl) T.g_a_root T.F_a_root.kp T.b_a_root .nil pass0 (pa_cons (pv 1) pa_nil)))
      (pss_cons (ps_set (i := 4) sc_law.nd rfl (Or.inr rfl) (pe_call (ok_any_step T) (hr.mono (by decide)) (by rfl) T.g_any_step T.F_any_step.kp T.b_any_step .nil pass0 (pa_cons (pv 1) (pa_cons (pv 3) pa_nil))))
      (Evl.pss_cut (ps_set (i := 4) sc_law.nd rfl (Or.inr rfl) (pe_ifExp (pt_cmpR op_eq (pe_call (ok_pull T) (hr.mono (by decide)) (by rfl) T.g_pull T.F_pull.kp T.b_pull .nil pass0 (pa_cons (pv 1) (pa_cons pe_int pa_nil))) pe_int (nomark _)) (pe_call (ok_odd_step T) (hr.mono (by decide)) (by rfl) T.g_odd_step T.F_odd_step.kp T.b_odd_step .nil pass0 (pa_cons (pv 1) (pa_cons (pv 4) pa_nil))) (pv 4)))
      (pss_cons (ps_if (pt_not (pt_val (pe_call (ok_good_step T) (hr.mono (by decide)) (by rfl) T.g_good_step T.F_good_step.kp T.b_good_step .nil pass0 (pa_cons (pv 4) pa_nil)))) (pss_cons (ps_if (pt_cmpR (op_neD hr.units) (pe_try (t := fun E => tCall (spBack T) [] E (tCons (tVar 4) tNil)) (k := 13) T (by rfl) TB rfl (hr.mono (by decide)) (LamX.lamS_by (sc := defScope s_law) (by decide +kernel)) rfl (fun _ _ _ _ _ => rfl) (fun A outer s H E f c' hr2 => (pe_call (ok_back_of (w := w) T D) (hr2.mono (by decide)) (by rfl) T.g_back_of T.F_back_of.kp T.b_back_of .nil (passes_call (takes_of rfl rfl rfl rfl) (fun _ _ _ _ h => h)) (pa_cons (pv 4) pa_nil)))) (pe_tup (pa_cons pe_str (pa_cons pe_int pa_nil))) (nomark _)) (pss_one (ps_ret pe_bl)) pss_nil)
      (pss_one ps_continue)) pss_nil)
      (pss_cons (ps_set (i := 5) sc_law.nd rfl (Or.inl rfl) (pe_call (ok_reverse T) (hr.mono (by decide)) (by rfl) T.g_reverse T.F_reverse.kp T.b_reverse .nil pass0 (pa_cons (pv 4) pa_nil)))
      (pss_cons (ps_if (pt_not (pt_val (pe_call (ok_like T) (hr.mono (by decide)) (by rfl) T.g_like T.F_like.kp T.b_like .nil pass0 (pa_cons (pe_lst (pa_cons (pe_call (ok_back_of (w := w) T D) (hr.mono (by decide)) (by rfl) T.g_back_of T.F_back_of.kp T.b_back_of .nil pass_never (pa_cons (pv 4) pa_nil)) (pa_cons (pe_kwOnly (ok_back_of (w := w) T D) (hr.mono (by decide)) (by rfl) T.g_back_of T.F_back_of.kp T.kb_back_of_step pass_never (pk_cons (pv 5) pk_nil)) pa_nil))) (pa_cons (pe_lst (pa_cons (pv 5) (pa_cons (pv 4) pa_nil))) pa_nil))))) (pss_one (ps_ret pe_bl)) pss_nil)
      (pss_cons (ps_set (i := 6) sc_law.nd rfl (Or.inl rfl) (pe_call (ok_stock_of T) (hr.mono (by decide)) (by rfl) T.g_stock_of T.F_stock_of.kp T.b_stock_of .nil pass0 (pa_cons (pe_call (ok_big_rows T) (hr.mono (by decide)) (by rfl) T.g_big_rows T.F_big_rows.kp T.b_big_rows .nil pass0 (pa_cons (pv 1) (pa_cons (pv 3) (pa_cons pe_int pa_nil)))) pa_nil)))
      (pss_cons (ps_set (i := 7) sc_law.nd rfl (Or.inl rfl) (pe_call (ok_next_step T) (hr.mono (by decide)) (by rfl) T.g_next_step T.F_next_step.kp T.b_next_step .nil pass0 (pa_cons (pv 1) (pa_cons (pv 6) (pa_cons (pv 3) (pa_cons pe_bl pa_nil))))))
      (pss_one (ps_if (pt_cmpR op_notN (pv 7) pe_non (nomark _)) (pss_cons (ps_set (i := 8) sc_law.nd rfl (Or.inl rfl) (pe_call (ok_heap_of T) (hr.mono (by decide)) (by rfl) T.g_heap_of T.F_heap_of.kp T.b_heap_of .nil pass0 (pa_cons (pv 3) (pa_cons (pv 6) pa_nil))))
      (pss_cons (ps_set (i := 9) sc_law.nd rfl (Or.inl rfl) (pe_callN (ok_after (w := w) T D) (hr.mono (by decide)) (by rfl) T.g_after T.F_after.kp T.kb_after_turning pass0 (pa_cons (pv 8) (pa_cons (pv 7) pa_nil)) (pk_cons pe_bl pk_nil)))
      (pss_one (ps_if (PW.pt (pw_or (pt_cmpR (op_neO2 T.m_Heap_eq T.mo_Heap T.ne_Heap (ok_Heap_eq T) (hr.mono (by decide)) T.b_Heap_eq pass0) (pe_callN (ok_after (w := w) T D) (hr.mono (by decide)) (by rfl) T.g_after T.F_after.kp T.kb_after_turning pass0 (pa_cons (pv 9) (pa_cons (pe_call (ok_back_of (w := w) T D) (hr.mono (by decide)) (by rfl) T.g_back_of T.F_back_of.kp T.b_back_of .nil pass_never (pa_cons (pv 7) pa_nil)) pa_nil)) (pk_cons pe_bl pk_nil)) (pv 8) (nomark _)) (pw_or1 (pt_not (pt_val (pe_call (ok_is_heap T) (hr.mono (by decide)) (by rfl) T.g_is_heap T.F_is_heap.kp T.b_is_heap .nil pass0 (pa_cons (pv 8) (pa_cons (pv 3) (pa_cons (pv 6) pa_nil))))))))) (pss_one (ps_ret pe_bl)) pss_nil)))) pss_nil)))))))))))
      (pss_one (ps_ret pe_bl)))), ?_⟩
    refine ⟨_, rfl, a, ns, rfl, hS, hlen, fun b sb H1 nb s1 B1 => ?_⟩
    have tb1 : LamX.Tabs [(P0, qn)] H1 := fun p hp => by
      rw [List.mem_singleton.mp hp]
      exact LamX.TabS.nil (s1 _ _ hP)
    refine ⟨fun σ H' => True, ?_, ?_⟩
    · refine ⟨6, rfl, by decide, by decide, for_range (lo := 0) (n := 6) (fun i σ H' => ∃ y2 y3 y4 y5 y6 y7 y8 y9, σ = [some (.ref a), some (.ref b), y2, y3, y4, y5, y6, y7, y8, y9] ∧ Bag H' b sb ∧ LamX.Tabs [(P0, qn)] H') ⟨none, none, none, none, none, none, none, none, rfl, B1, tb1⟩ ?_ ?_⟩
      · rintro i σ H2 hi ⟨y2, y3, y4, y5, y6, y7, y8, y9, rfl, B2, tb2⟩
        refine ⟨_, rfl, b, sb, rfl, B2, fun d H3 hd B3 k3 => ?_⟩
        refine ⟨_, rfl, _, rfl, b, sb, d, rfl, B3, hd, fun p ts H4 l0 l5 gb hS4 B4 k4 => ?_⟩
        have tb4 := tabs_keep (tabs_keep tb2 B2 k3) B3 k4
        refine ⟨fun σ H' => ∃ p ts, σ = [some (.ref a), some (.ref b), some (.int (0 + (i : Int))), some (.int d), some (.ref p), y5, y6, y7, y8, y9] ∧ StepAt H' p ts ∧ ts.length ≤ 10 ∧ (∀ t ∈ ts, ItB t) ∧ Bag H' b sb ∧ LamX.Tabs [(P0, qn)] H', ?_, ?_⟩
        · refine ⟨_, rfl, b, sb, 4, rfl, B4, by decide, by decide, fun z H5 z0 z1 B5 k5 => ⟨rfl, ?_⟩⟩
          have hS5 := hS4.mono (tup_keep B4 k5)
          have tb5 := tabs_keep tb4 B4 k5
          by_cases zz : z = 0
          · refine ⟨true, congrArg V.bl (by rw [dV', decide_eq_true zz]), iteT ?_⟩
            exact ⟨_, rfl, _, rfl, b, sb, p, ts, rfl, B5, hS5, l0, l5, gb, fun p' ts' H6 l' gb' hS6 B6 k6 => ⟨p', ts', rfl, hS6, l', gb', B6, tabs_keep tb5 B5 k6⟩⟩
          · exact ⟨false, congrArg V.bl (by rw [dV', decide_eq_false zz]), iteF ⟨_, rfl, p, ts, rfl, hS5, by omega, gb, B5, tb5⟩⟩
        clear hS4 B4 k4 tb4 gb l0 l5 B3 k3 B2 tb2
        clear p ts
        rintro σ H6 ⟨p, ts, rfl, hS6, l10, gb, B6, tb6⟩
        refine ⟨_, rfl, p, ts, rfl, hS6, l10, fun H7 s7 => ⟨_, rfl, ?_⟩⟩
        have hS7 := hS6.same s7
        have B7 := B6.same s7
        have tb7 := tb6.ext s7
        cases st : stepB ts with
        | false =>
          refine iteT ?_
          refine ⟨tb7, fun Hg eg tbg => ⟨_, rfl, ?_⟩⟩
          unfold tNil
          refine bk_told T rfl (hS7.mono fun _ _ z => tup_extN z eg) l10 st fun t Ha sa ht => ?_
          refine ⟨by show 2 ≤ sizeLine; decide, fun t2 nt2 => ?_⟩
          have e2 := same_new (o := .tup [.str "BadStep", .int 0]) nt2
          refine ⟨_, _, dbad (e2 _ _ ht), dbad upd_same, bad_shaped 0, bad_shaped 0, false, (by rw [bad_same]; rfl), iteF ?_⟩
          exact ⟨_, _, _, _, _, _, _, _, rfl, ((B7.extN eg).same sa).same e2, (tbg.ext sa).ext e2⟩
        | true =>
          refine iteF ?_
          have good := good_of st
          have shd := good.shaped
          obtain ⟨gr, rr⟩ := good.rev
          have nb2 := fun t ht => itB_n (gb t ht)
          have g1 : ∀ t ∈ ts, ItG t := fun t ht => (nb2 t ht).up (by decide) (by decide)
          have g2 : ∀ t ∈ revI ts, ItG t := fun t ht => (rev_n shd nb2 t ht).up (by decide) (by decide)
          refine ⟨_, rfl, p, ts, rfl, hS7, shd, gb, fun q1 H8 s8 hq1 => ?_⟩
          refine ⟨_, rfl, p, ts, rfl, hS7.same s8, l10, (fun _ => ⟨g1, fun q2 H9 s9 hq2 => ?_⟩), fun z => by rw [st] at z; cases z⟩
          refine ⟨_, rfl, rfl, q1, revI ts, rfl, hq1.same s9, good5 gr, (fun _ => ⟨g2, fun q3 H10 s10 hq3 => ?_⟩), fun z => by rw [gr.step] at z; cases z⟩
          rw [rr] at hq3
          refine ⟨by show 2 ≤ sizeLine; decide, fun l1 n1 => ⟨_, rfl, _, rfl, by show 2 ≤ sizeLine; decide, fun l2 n2 => ?_⟩⟩
          have e1 := same_new (o := .lst [.ref q2, .ref q3]) n1
          have e2 := same_new (o := .lst [.ref q1, .ref p]) n2
          have e12 := e1.trans e2
          refine ⟨_, _, rfl, Lk.lists (e2 _ _ upd_same) upd_same (by simp) (.cons (lk_step (hq2.same (s10.trans e12)) (hq1.same (s9.trans (s10.trans e12))) (good5 gr)) (.cons (lk_step (hq3.same e12) (hS7.same (s8.trans (s9.trans (s10.trans e12)))) l10) .nil)), fun H11 s11 => ⟨true, rfl, iteF ?_⟩⟩
          have ss := s8.trans (s9.trans (s10.trans (e12.trans s11)))
          have B11 := B7.same ss
          have tb11 := tb7.ext ss
          clear e1 e2 e12 ss n1 n2 hq1 hq2 hq3 hS7 B7 tb7
          refine ⟨_, rfl, _, rfl, b, sb, d, rfl, B11, hd, fun l es H12 n12 R wi m0 m3 B12 k12 => ⟨l, es, rfl, R, by omega, fun c H13 nc s13 DC => ?_⟩⟩
          have tb13 := (tabs_keep tb11 B11 k12).ext s13
          have B13 := B12.same s13
          have nd := merge_nodup es
          have w7 := wi.times m3
          have ln := Nat.le_trans (merge_len es) m3
          have lp := merge_some m0
          generalize mergeD es = fs at DC nd w7 ln lp
          refine ⟨_, rfl, _, rfl, _, rfl, b, sb, c, d, fs, rfl, B13, DC, nd, lp, by omega, w7, hd, fun v H14 B14 k14 hv => ?_⟩
          have tb14 := tabs_keep tb13 B13 k14
          have D14 := DC.keep B13 k14
          rcases hv with rfl | ⟨t, us, rfl, hT, ok⟩
          · exact ⟨_, rfl, rfl, false, by decide +kernel, iteF ⟨_, _, _, _, _, _, _, _, rfl, B14, tb14⟩⟩
          · refine ⟨_, rfl, rfl, true, congrArg V.bl (by rw [decide_eq_false fun z => by cases z]; rfl), iteT ?_⟩
            refine ⟨_, rfl, _, rfl, c, d, _, fs, rfl, hd, D14, nd, w7, by omega, fun ph H15 n15 s15 hA => ?_⟩
            have ok1 := ok.perm (sortE_perm nd)
            have asc : Asc (sortE fs) := ⟨sortE_up nd, fun e he => (w7 e ((sortE_perm nd).mem_iff.mp he)).2.1⟩
            have len1 : (sortE fs).length ≤ 3 := by rw [(sortE_perm nd).length_eq]; exact ln
            refine ⟨_, rfl, _, rfl, rfl, rfl, ph, t, d, sortE fs, us, rfl, hA, hT.same s15, ok1, fun p2 gs H16 n16 s16 hA2 asc2 g3 l2 dn2 => ?_⟩
            have ok2 := ok1.back ph g3 dn2 (by omega)
            refine ⟨_, rfl, _, rfl, t, us, rfl, (hT.same s15).same s16, good5 ok.good, (fun _ => ⟨ok.b1, fun q5 H17 s17 hq5 => ?_⟩), fun z => by rw [ok.good.step] at z; cases z⟩
            refine ⟨rfl, rfl, p2, q5, d, gs, revI us, rfl, hA2.same s17, hq5, ok2, fun p3 hs H18 n18 s18 hA3 asc3 g4 l3 dn3 => ?_⟩
            have hA18 := ((hA.same s16).same s17).same s18
            obtain ⟨dx, cx, hx, _⟩ := id hA3
            obtain ⟨dy, cy, hy, _⟩ := id hA18
            refine ⟨_, rfl, p3, dx, _, ph, dy, _, rfl, rfl, hx, hy, p3, ph, d, d, hs, sortE fs, rfl, hA3, hA18, true, (by rw [ok1.there asc asc3 dn2 dn3, decide_eq_true rfl]; rfl), false, rfl, iteF ?_⟩
            have s58 := s15.trans (s16.trans (s17.trans s18))
            refine ⟨_, rfl, _, rfl, _, rfl, ph, c, d, sortE fs, fs, rfl, hA18, D14.same s58, nd, by omega, rfl, fun H19 s19 => ⟨true, rfl, iteF ?_⟩⟩
            exact ⟨_, _, _, _, _, _, _, _, rfl, B14.same (s58.trans s19), tb14.ext (s58.trans s19)⟩
      · intro σ H' _
        trivial
    rintro σ H2 -
    exact q _
end
theorem all_mk {w : World} {K : PySem.W.Frag} {h : Heap} {mg : Str → Option Value} {fa : Addr} (X : K.In h) (G : h.Ns mainGlobals mg) (hfa : mg "law" = some (.ref fa)) {l : PySem.W.OpenLaw} (hprog : l.prog = PySem.Challenge.pw_grainyard_k21_reverse_steps) {cL PL : Addr}
    {C_Heap : Addr} (aC_Heap : PySem.W.nsIn K mainGlobals "Heap" = some (some (.ref C_Heap))) (pg_Heap : PySem.W.plainGet K C_Heap Str.empty = true) (hd_Heap : PySem.W.hasDictIn K C_Heap = true) (po_Heap : PySem.W.plainOver K C_Heap = true) (sa_Heap : PySem.W.findIn K (.ref C_Heap) "__setattr__" = some (some (.builtin "object.__setattr__"))) (mk_Heap : PySem.W.makesIn K C_Heap = true) (kc_Heap : PySem.W.keepIn K (.ref C_Heap) = true) (sf_Heap : PySem.W.selfFirst K C_Heap = true) (nq_Heap : PySem.W.noSeq K C_Heap = true) (n_Heap_held_root : PySem.W.findIn K (.ref C_Heap) "held_root" = some none) (n_Heap_copies : PySem.W.findIn K (.ref C_Heap) "copies" = some none)
    (mo_Heap : PySem.W.mroIn K C_Heap (.type "object") = some true) (ne_Heap : PySem.W.findIn K (.ref C_Heap) "__ne__" = some (some (.builtin "object.__ne__"))) (ca_Heap : PySem.W.findIn K (.ref C_Heap) "__class__" = some (some (.builtin "object.__class__"))) (x_Heap_rmul : PySem.W.findIn K (.ref C_Heap) "__rmul__" = some none) (i_mul : PySem.W.findIn K (.type "int") "__mul__" = some (some (.builtin "int.__mul__"))) (i_rmul : PySem.W.findIn K (.type "int") "__rmul__" = some (some (.builtin "int.__rmul__"))) (is_Heap : PySem.W.subIn K (.type "int") (.ref C_Heap) = some false)
    {od0 an0 : Option Addr} {sl0 : Array (Option Value)} {kV0 oc0 dc0 pm0 cd0 ct0 : Value} {f0 : Addr}
    (a0 : PySem.W.nsIn K mainGlobals "whole_root" = some (some (.ref f0))) (l0 : K.lookup f0 = some ⟨oc0, od0, .func (PySem.W.fnOf "whole_root" "whole_root" (defArgs s_whole_root) (defBody s_whole_root) (defScope s_whole_root) .none kV0 dc0 pm0 an0 cd0 ct0), sl0⟩) (c0 : PySem.W.codeIn K cd0 "whole_root" = true) (k0 : PySem.W.keepIn K (.ref f0) = true)
    {od1 an1 : Option Addr} {sl1 : Array (Option Value)} {kV1 oc1 dc1 pm1 cd1 ct1 : Value} {f1 : Addr}
    (a1 : PySem.W.nsIn K mainGlobals "is_root" = some (some (.ref f1))) (l1 : K.lookup f1 = some ⟨oc1, od1, .func (PySem.W.fnOf "is_root" "is_root" (defArgs s_is_root) (defBody s_is_root) (defScope s_is_root) .none kV1 dc1 pm1 an1 cd1 ct1), sl1⟩) (c1 : PySem.W.codeIn K cd1 "is_root" = true) (k1 : PySem.W.keepIn K (.ref f1) = true)
    {od2 an2 : Option Addr} {sl2 : Array (Option Value)} {kV2 oc2 dc2 pm2 cd2 ct2 : Value} {f2 : Addr}
    (a2 : PySem.W.nsIn K mainGlobals "check_root" = some (some (.ref f2))) (l2 : K.lookup f2 = some ⟨oc2, od2, .func (PySem.W.fnOf "check_root" "check_root" (defArgs s_check_root) (defBody s_check_root) (defScope s_check_root) .none kV2 dc2 pm2 an2 cd2 ct2), sl2⟩) (c2 : PySem.W.codeIn K cd2 "check_root" = true) (k2 : PySem.W.keepIn K (.ref f2) = true)
    {od3 an3 : Option Addr} {sl3 : Array (Option Value)} {kV3 oc3 dc3 pm3 cd3 ct3 : Value} {f3 : Addr}
    (a3 : PySem.W.nsIn K mainGlobals "sign" = some (some (.ref f3))) (l3 : K.lookup f3 = some ⟨oc3, od3, .func (PySem.W.fnOf "sign" "sign" (defArgs s_sign) (defBody s_sign) (defScope s_sign) .none kV3 dc3 pm3 an3 cd3 ct3), sl3⟩) (c3 : PySem.W.codeIn K cd3 "sign" = true) (k3 : PySem.W.keepIn K (.ref f3) = true)
    {od4 an4 : Option Addr} {sl4 : Array (Option Value)} {kV4 oc4 dc4 pm4 cd4 ct4 : Value} {f4 : Addr}
    (a4 : PySem.W.nsIn K mainGlobals "is_length" = some (some (.ref f4))) (l4 : K.lookup f4 = some ⟨oc4, od4, .func (PySem.W.fnOf "is_length" "is_length" (defArgs s_is_length) (defBody s_is_length) (defScope s_is_length) .none kV4 dc4 pm4 an4 cd4 ct4), sl4⟩) (c4 : PySem.W.codeIn K cd4 "is_length" = true) (k4 : PySem.W.keepIn K (.ref f4) = true)
    {od5 an5 : Option Addr} {sl5 : Array (Option Value)} {kV5 oc5 dc5 pm5 cd5 ct5 : Value} {f5 : Addr}
    (a5 : PySem.W.nsIn K mainGlobals "added" = some (some (.ref f5))) (l5 : K.lookup f5 = some ⟨oc5, od5, .func (PySem.W.fnOf "added" "added" (defArgs s_added) (defBody s_added) (defScope s_added) .none kV5 dc5 pm5 an5 cd5 ct5), sl5⟩) (c5 : PySem.W.codeIn K cd5 "added" = true) (k5 : PySem.W.keepIn K (.ref f5) = true)
    {od6 an6 : Option Addr} {sl6 : Array (Option Value)} {kV6 oc6 dc6 pm6 cd6 ct6 : Value} {f6 : Addr}
    (a6 : PySem.W.nsIn K mainGlobals "scaled" = some (some (.ref f6))) (l6 : K.lookup f6 = some ⟨oc6, od6, .func (PySem.W.fnOf "scaled" "scaled" (defArgs s_scaled) (defBody s_scaled) (defScope s_scaled) .none kV6 dc6 pm6 an6 cd6 ct6), sl6⟩) (c6 : PySem.W.codeIn K cd6 "scaled" = true) (k6 : PySem.W.keepIn K (.ref f6) = true)
    {od7 an7 : Option Addr} {sl7 : Array (Option Value)} {kV7 oc7 dc7 pm7 cd7 ct7 : Value} {f7 : Addr}
    (a7 : PySem.W.nsIn K mainGlobals "is_sheet" = some (some (.ref f7))) (l7 : K.lookup f7 = some ⟨oc7, od7, .func (PySem.W.fnOf "is_sheet" "is_sheet" (defArgs s_is_sheet) (defBody s_is_sheet) (defScope s_is_sheet) .none kV7 dc7 pm7 an7 cd7 ct7), sl7⟩) (c7 : PySem.W.codeIn K cd7 "is_sheet" = true) (k7 : PySem.W.keepIn K (.ref f7) = true)
    {od8 an8 : Option Addr} {sl8 : Array (Option Value)} {kV8 oc8 dc8 pm8 cd8 ct8 : Value} {f8 : Addr}
    (a8 : PySem.W.nsIn K mainGlobals "turned" = some (some (.ref f8))) (l8 : K.lookup f8 = some ⟨oc8, od8, .func (PySem.W.fnOf "turned" "turned" (defArgs s_turned) (defBody s_turned) (defScope s_turned) .none kV8 dc8 pm8 an8 cd8 ct8), sl8⟩) (c8 : PySem.W.codeIn K cd8 "turned" = true) (k8 : PySem.W.keepIn K (.ref f8) = true)
    {od9 an9 : Option Addr} {sl9 : Array (Option Value)} {kV9 oc9 dc9 pm9 cd9 ct9 : Value} {f9 : Addr}
    (a9 : PySem.W.nsIn K mainGlobals "check_rows" = some (some (.ref f9))) (l9 : K.lookup f9 = some ⟨oc9, od9, .func (PySem.W.fnOf "check_rows" "check_rows" (defArgs s_check_rows) (defBody s_check_rows) (defScope s_check_rows) .none kV9 dc9 pm9 an9 cd9 ct9), sl9⟩) (c9 : PySem.W.codeIn K cd9 "check_rows" = true) (k9 : PySem.W.keepIn K (.ref f9) = true)
    {od10 an10 : Option Addr} {sl10 : Array (Option Value)} {kV10 oc10 dc10 pm10 cd10 ct10 : Value} {f10 : Addr}
    (a10 : PySem.W.nsIn K mainGlobals "merged" = some (some (.ref f10))) (l10 : K.lookup f10 = some ⟨oc10, od10, .func (PySem.W.fnOf "merged" "merged" (defArgs s_merged) (defBody s_merged) (defScope s_merged) .none kV10 dc10 pm10 an10 cd10 ct10), sl10⟩) (c10 : PySem.W.codeIn K cd10 "merged" = true) (k10 : PySem.W.keepIn K (.ref f10) = true)
    {od11 an11 : Option Addr} {sl11 : Array (Option Value)} {oc11 dc11 pm11 cd11 ct11 : Value} {f11 : Addr} {T11 r011 : Addr} {tc11 : Value} {td11 : Option Addr} {tn11 : Nat} {ts11 : Array (Option Value)} {kV11 : Value}
    (a11 : PySem.W.findIn K (.ref C_Heap) "__init__" = some (some (.ref f11))) (i11 : PySem.W.isFn K (.ref f11) = true) (l11 : K.lookup f11 = some ⟨oc11, od11, .func (PySem.W.fnOf "__init__" "Heap.__init__" (defArgs s_Heap_init) (defBody s_Heap_init) (defScope s_Heap_init) (.ref T11) kV11 dc11 pm11 an11 cd11 ct11), sl11⟩) (c11 : PySem.W.codeIn K cd11 "Heap.__init__" = true) (k11 : PySem.W.keepIn K (.ref f11) = true)
    (t11 : K.lookup T11 = some ⟨tc11, td11, .seq #[.ref r011] tn11, ts11⟩)
    {y11d : Option Addr} {y11m : Nat} {y11s : Array (Option Value)} (y11a : K.lookup r011 = some ⟨.type "tuple", y11d, .seq #[] y11m, y11s⟩)
    {od12 an12 : Option Addr} {sl12 : Array (Option Value)} {oc12 kV12 dc12 pm12 cd12 ct12 : Value} {f12 p12 : Addr} {q12 : List Value}
    (a12 : PySem.W.findIn K (.ref C_Heap) "root" = some (some (.ref p12))) (gp12 : PySem.W.specialIn K (.ref p12) "__get__" = some (some (.builtin "property.__get__"))) (tp12 : PySem.W.takesIn K (.ref p12) = some true) (rp12 : PySem.W.recIn K p12 "property" = some (.ref f12 :: q12)) (l12 : K.lookup f12 = some ⟨oc12, od12, .func (PySem.W.fnOf "root" "Heap.root" (defArgs s_Heap_root) (defBody s_Heap_root) (defScope s_Heap_root) .none kV12 dc12 pm12 an12 cd12 ct12), sl12⟩) (c12 : PySem.W.codeIn K cd12 "Heap.root" = true) (k12 : PySem.W.keepIn K (.ref f12) = true)
    {od13 an13 : Option Addr} {sl13 : Array (Option Value)} {oc13 dc13 pm13 cd13 ct13 : Value} {f13 : Addr} {kV13 : Value}
    (a13 : PySem.W.findIn K (.ref C_Heap) "rows" = some (some (.ref f13))) (i13 : PySem.W.isFn K (.ref f13) = true) (l13 : K.lookup f13 = some ⟨oc13, od13, .func (PySem.W.fnOf "rows" "Heap.rows" (defArgs s_Heap_rows) (defBody s_Heap_rows) (defScope s_Heap_rows) .none kV13 dc13 pm13 an13 cd13 ct13), sl13⟩) (c13 : PySem.W.codeIn K cd13 "Heap.rows" = true) (k13 : PySem.W.keepIn K (.ref f13) = true)
    {od14 an14 : Option Addr} {sl14 : Array (Option Value)} {oc14 dc14 pm14 cd14 ct14 : Value} {f14 : Addr} {kV14 : Value}
    (a14 : PySem.W.findIn K (.ref C_Heap) "__eq__" = some (some (.ref f14))) (i14 : PySem.W.isFn K (.ref f14) = true) (l14 : K.lookup f14 = some ⟨oc14, od14, .func (PySem.W.fnOf "__eq__" "Heap.__eq__" (defArgs s_Heap_eq) (defBody s_Heap_eq) (defScope s_Heap_eq) .none kV14 dc14 pm14 an14 cd14 ct14), sl14⟩) (c14 : PySem.W.codeIn K cd14 "Heap.__eq__" = true) (k14 : PySem.W.keepIn K (.ref f14) = true)
    {od15 an15 : Option Addr} {sl15 : Array (Option Value)} {kV15 oc15 dc15 pm15 cd15 ct15 : Value} {f15 : Addr}
    (a15 : PySem.W.nsIn K mainGlobals "is_pair" = some (some (.ref f15))) (l15 : K.lookup f15 = some ⟨oc15, od15, .func (PySem.W.fnOf "is_pair" "is_pair" (defArgs s_is_pair) (defBody s_is_pair) (defScope s_is_pair) .none kV15 dc15 pm15 an15 cd15 ct15), sl15⟩) (c15 : PySem.W.codeIn K cd15 "is_pair" = true) (k15 : PySem.W.keepIn K (.ref f15) = true)
    {od16 an16 : Option Addr} {sl16 : Array (Option Value)} {kV16 oc16 dc16 pm16 cd16 ct16 : Value} {f16 : Addr}
    (a16 : PySem.W.nsIn K mainGlobals "is_two_pairs" = some (some (.ref f16))) (l16 : K.lookup f16 = some ⟨oc16, od16, .func (PySem.W.fnOf "is_two_pairs" "is_two_pairs" (defArgs s_is_two_pairs) (defBody s_is_two_pairs) (defScope s_is_two_pairs) .none kV16 dc16 pm16 an16 cd16 ct16), sl16⟩) (c16 : PySem.W.codeIn K cd16 "is_two_pairs" = true) (k16 : PySem.W.keepIn K (.ref f16) = true)
    {od17 an17 : Option Addr} {sl17 : Array (Option Value)} {kV17 oc17 dc17 pm17 cd17 ct17 : Value} {f17 : Addr}
    (a17 : PySem.W.nsIn K mainGlobals "fits" = some (some (.ref f17))) (l17 : K.lookup f17 = some ⟨oc17, od17, .func (PySem.W.fnOf "fits" "fits" (defArgs s_fits) (defBody s_fits) (defScope s_fits) .none kV17 dc17 pm17 an17 cd17 ct17), sl17⟩) (c17 : PySem.W.codeIn K cd17 "fits" = true) (k17 : PySem.W.keepIn K (.ref f17) = true)
    {od18 an18 : Option Addr} {sl18 : Array (Option Value)} {kV18 oc18 dc18 pm18 cd18 ct18 : Value} {f18 : Addr}
    (a18 : PySem.W.nsIn K mainGlobals "has_shape" = some (some (.ref f18))) (l18 : K.lookup f18 = some ⟨oc18, od18, .func (PySem.W.fnOf "has_shape" "has_shape" (defArgs s_has_shape) (defBody s_has_shape) (defScope s_has_shape) .none kV18 dc18 pm18 an18 cd18 ct18), sl18⟩) (c18 : PySem.W.codeIn K cd18 "has_shape" = true) (k18 : PySem.W.keepIn K (.ref f18) = true)
    {od19 an19 : Option Addr} {sl19 : Array (Option Value)} {kV19 oc19 dc19 pm19 cd19 ct19 : Value} {f19 : Addr}
    (a19 : PySem.W.nsIn K mainGlobals "side_of" = some (some (.ref f19))) (l19 : K.lookup f19 = some ⟨oc19, od19, .func (PySem.W.fnOf "side_of" "side_of" (defArgs s_side_of) (defBody s_side_of) (defScope s_side_of) .none kV19 dc19 pm19 an19 cd19 ct19), sl19⟩) (c19 : PySem.W.codeIn K cd19 "side_of" = true) (k19 : PySem.W.keepIn K (.ref f19) = true)
    {od20 an20 : Option Addr} {sl20 : Array (Option Value)} {kV20 oc20 dc20 pm20 cd20 ct20 : Value} {f20 : Addr}
    (a20 : PySem.W.nsIn K mainGlobals "with_side" = some (some (.ref f20))) (l20 : K.lookup f20 = some ⟨oc20, od20, .func (PySem.W.fnOf "with_side" "with_side" (defArgs s_with_side) (defBody s_with_side) (defScope s_with_side) .none kV20 dc20 pm20 an20 cd20 ct20), sl20⟩) (c20 : PySem.W.codeIn K cd20 "with_side" = true) (k20 : PySem.W.keepIn K (.ref f20) = true)
    {od21 an21 : Option Addr} {sl21 : Array (Option Value)} {kV21 oc21 dc21 pm21 cd21 ct21 : Value} {f21 : Addr}
    (a21 : PySem.W.nsIn K mainGlobals "is_even_split" = some (some (.ref f21))) (l21 : K.lookup f21 = some ⟨oc21, od21, .func (PySem.W.fnOf "is_even_split" "is_even_split" (defArgs s_is_even_split) (defBody s_is_even_split) (defScope s_is_even_split) .none kV21 dc21 pm21 an21 cd21 ct21), sl21⟩) (c21 : PySem.W.codeIn K cd21 "is_even_split" = true) (k21 : PySem.W.keepIn K (.ref f21) = true)
    {od22 an22 : Option Addr} {sl22 : Array (Option Value)} {kV22 oc22 dc22 pm22 cd22 ct22 : Value} {f22 : Addr}
    (a22 : PySem.W.nsIn K mainGlobals "is_even_glue" = some (some (.ref f22))) (l22 : K.lookup f22 = some ⟨oc22, od22, .func (PySem.W.fnOf "is_even_glue" "is_even_glue" (defArgs s_is_even_glue) (defBody s_is_even_glue) (defScope s_is_even_glue) .none kV22 dc22 pm22 an22 cd22 ct22), sl22⟩) (c22 : PySem.W.codeIn K cd22 "is_even_glue" = true) (k22 : PySem.W.keepIn K (.ref f22) = true)
    {od23 an23 : Option Addr} {sl23 : Array (Option Value)} {kV23 oc23 dc23 pm23 cd23 ct23 : Value} {f23 : Addr}
    (a23 : PySem.W.nsIn K mainGlobals "is_step" = some (some (.ref f23))) (l23 : K.lookup f23 = some ⟨oc23, od23, .func (PySem.W.fnOf "is_step" "is_step" (defArgs s_is_step) (defBody s_is_step) (defScope s_is_step) .none kV23 dc23 pm23 an23 cd23 ct23), sl23⟩) (c23 : PySem.W.codeIn K cd23 "is_step" = true) (k23 : PySem.W.keepIn K (.ref f23) = true)
    {od24 an24 : Option Addr} {sl24 : Array (Option Value)} {kV24 oc24 dc24 pm24 cd24 ct24 : Value} {f24 : Addr}
    (a24 : PySem.W.nsIn K mainGlobals "check_steps" = some (some (.ref f24))) (l24 : K.lookup f24 = some ⟨oc24, od24, .func (PySem.W.fnOf "check_steps" "check_steps" (defArgs s_check_steps) (defBody s_check_steps) (defScope s_check_steps) .none kV24 dc24 pm24 an24 cd24 ct24), sl24⟩) (c24 : PySem.W.codeIn K cd24 "check_steps" = true) (k24 : PySem.W.keepIn K (.ref f24) = true)
    {od25 an25 : Option Addr} {sl25 : Array (Option Value)} {kV25 oc25 dc25 pm25 cd25 ct25 : Value} {f25 : Addr}
    (a25 : PySem.W.nsIn K mainGlobals "is_allowed" = some (some (.ref f25))) (l25 : K.lookup f25 = some ⟨oc25, od25, .func (PySem.W.fnOf "is_allowed" "is_allowed" (defArgs s_is_allowed) (defBody s_is_allowed) (defScope s_is_allowed) .none kV25 dc25 pm25 an25 cd25 ct25), sl25⟩) (c25 : PySem.W.codeIn K cd25 "is_allowed" = true) (k25 : PySem.W.keepIn K (.ref f25) = true)
    {od26 an26 : Option Addr} {sl26 : Array (Option Value)} {kV26 oc26 dc26 pm26 cd26 ct26 : Value} {f26 : Addr}
    (a26 : PySem.W.nsIn K mainGlobals "rest_of_saw" = some (some (.ref f26))) (l26 : K.lookup f26 = some ⟨oc26, od26, .func (PySem.W.fnOf "rest_of_saw" "rest_of_saw" (defArgs s_rest_of_saw) (defBody s_rest_of_saw) (defScope s_rest_of_saw) .none kV26 dc26 pm26 an26 cd26 ct26), sl26⟩) (c26 : PySem.W.codeIn K cd26 "rest_of_saw" = true) (k26 : PySem.W.keepIn K (.ref f26) = true)
    {od27 an27 : Option Addr} {sl27 : Array (Option Value)} {kV27 oc27 dc27 pm27 cd27 ct27 : Value} {f27 : Addr}
    (a27 : PySem.W.nsIn K mainGlobals "reverse_of_saw" = some (some (.ref f27))) (l27 : K.lookup f27 = some ⟨oc27, od27, .func (PySem.W.fnOf "reverse_of_saw" "reverse_of_saw" (defArgs s_reverse_of_saw) (defBody s_reverse_of_saw) (defScope s_reverse_of_saw) .none kV27 dc27 pm27 an27 cd27 ct27), sl27⟩) (c27 : PySem.W.codeIn K cd27 "reverse_of_saw" = true) (k27 : PySem.W.keepIn K (.ref f27) = true)
    {od28 an28 : Option Addr} {sl28 : Array (Option Value)} {kV28 oc28 dc28 pm28 cd28 ct28 : Value} {f28 : Addr}
    (a28 : PySem.W.nsIn K mainGlobals "reverse_of_glue" = some (some (.ref f28))) (l28 : K.lookup f28 = some ⟨oc28, od28, .func (PySem.W.fnOf "reverse_of_glue" "reverse_of_glue" (defArgs s_reverse_of_glue) (defBody s_reverse_of_glue) (defScope s_reverse_of_glue) .none kV28 dc28 pm28 an28 cd28 ct28), sl28⟩) (c28 : PySem.W.codeIn K cd28 "reverse_of_glue" = true) (k28 : PySem.W.keepIn K (.ref f28) = true)
    {od29 an29 : Option Addr} {sl29 : Array (Option Value)} {kV29 oc29 dc29 pm29 cd29 ct29 : Value} {f29 : Addr}
    (a29 : PySem.W.nsIn K mainGlobals "reverse_of_split" = some (some (.ref f29))) (l29 : K.lookup f29 = some ⟨oc29, od29, .func (PySem.W.fnOf "reverse_of_split" "reverse_of_split" (defArgs s_reverse_of_split) (defBody s_reverse_of_split) (defScope s_reverse_of_split) .none kV29 dc29 pm29 an29 cd29 ct29), sl29⟩) (c29 : PySem.W.codeIn K cd29 "reverse_of_split" = true) (k29 : PySem.W.keepIn K (.ref f29) = true)
    {od30 an30 : Option Addr} {sl30 : Array (Option Value)} {kV30 oc30 dc30 pm30 cd30 ct30 : Value} {f30 : Addr}
    (a30 : PySem.W.nsIn K mainGlobals "reverse_of_stack" = some (some (.ref f30))) (l30 : K.lookup f30 = some ⟨oc30, od30, .func (PySem.W.fnOf "reverse_of_stack" "reverse_of_stack" (defArgs s_reverse_of_stack) (defBody s_reverse_of_stack) (defScope s_reverse_of_stack) .none kV30 dc30 pm30 an30 cd30 ct30), sl30⟩) (c30 : PySem.W.codeIn K cd30 "reverse_of_stack" = true) (k30 : PySem.W.keepIn K (.ref f30) = true)
    {od31 an31 : Option Addr} {sl31 : Array (Option Value)} {kV31 oc31 dc31 pm31 cd31 ct31 : Value} {f31 : Addr}
    (a31 : PySem.W.nsIn K mainGlobals "reverse_of" = some (some (.ref f31))) (l31 : K.lookup f31 = some ⟨oc31, od31, .func (PySem.W.fnOf "reverse_of" "reverse_of" (defArgs s_reverse_of) (defBody s_reverse_of) (defScope s_reverse_of) .none kV31 dc31 pm31 an31 cd31 ct31), sl31⟩) (c31 : PySem.W.codeIn K cd31 "reverse_of" = true) (k31 : PySem.W.keepIn K (.ref f31) = true)
    {od32 an32 : Option Addr} {sl32 : Array (Option Value)} {kV32 oc32 dc32 pm32 cd32 ct32 : Value} {f32 : Addr}
    (a32 : PySem.W.nsIn K mainGlobals "back_of" = some (some (.ref f32))) (l32 : K.lookup f32 = some ⟨oc32, od32, .func (PySem.W.fnOf "back_of" "back_of" (defArgs s_back_of) (defBody s_back_of) (defScope s_back_of) .none kV32 dc32 pm32 an32 cd32 ct32), sl32⟩) (c32 : PySem.W.codeIn K cd32 "back_of" = true) (k32 : PySem.W.keepIn K (.ref f32) = true)
    {od33 an33 : Option Addr} {sl33 : Array (Option Value)} {kV33 oc33 dc33 pm33 cd33 ct33 : Value} {f33 : Addr}
    (a33 : PySem.W.nsIn K mainGlobals "needs_of" = some (some (.ref f33))) (l33 : K.lookup f33 = some ⟨oc33, od33, .func (PySem.W.fnOf "needs_of" "needs_of" (defArgs s_needs_of) (defBody s_needs_of) (defScope s_needs_of) .none kV33 dc33 pm33 an33 cd33 ct33), sl33⟩) (c33 : PySem.W.codeIn K cd33 "needs_of" = true) (k33 : PySem.W.keepIn K (.ref f33) = true)
    {od34 an34 : Option Addr} {sl34 : Array (Option Value)} {kV34 oc34 dc34 pm34 cd34 ct34 : Value} {f34 : Addr}
    (a34 : PySem.W.nsIn K mainGlobals "saws_lengths" = some (some (.ref f34))) (l34 : K.lookup f34 = some ⟨oc34, od34, .func (PySem.W.fnOf "saws_lengths" "saws_lengths" (defArgs s_saws_lengths) (defBody s_saws_lengths) (defScope s_saws_lengths) .none kV34 dc34 pm34 an34 cd34 ct34), sl34⟩) (c34 : PySem.W.codeIn K cd34 "saws_lengths" = true) (k34 : PySem.W.keepIn K (.ref f34) = true)
    {od35 an35 : Option Addr} {sl35 : Array (Option Value)} {kV35 oc35 dc35 pm35 cd35 ct35 : Value} {f35 : Addr}
    (a35 : PySem.W.nsIn K mainGlobals "check_possible" = some (some (.ref f35))) (l35 : K.lookup f35 = some ⟨oc35, od35, .func (PySem.W.fnOf "check_possible" "check_possible" (defArgs s_check_possible) (defBody s_check_possible) (defScope s_check_possible) .none kV35 dc35 pm35 an35 cd35 ct35), sl35⟩) (c35 : PySem.W.codeIn K cd35 "check_possible" = true) (k35 : PySem.W.keepIn K (.ref f35) = true)
    {od36 an36 : Option Addr} {sl36 : Array (Option Value)} {kV36 oc36 dc36 pm36 cd36 ct36 : Value} {f36 : Addr}
    (a36 : PySem.W.nsIn K mainGlobals "counts_of" = some (some (.ref f36))) (l36 : K.lookup f36 = some ⟨oc36, od36, .func (PySem.W.fnOf "counts_of" "counts_of" (defArgs s_counts_of) (defBody s_counts_of) (defScope s_counts_of) .none kV36 dc36 pm36 an36 cd36 ct36), sl36⟩) (c36 : PySem.W.codeIn K cd36 "counts_of" = true) (k36 : PySem.W.keepIn K (.ref f36) = true)
    {od37 an37 : Option Addr} {sl37 : Array (Option Value)} {kV37 oc37 dc37 pm37 cd37 ct37 : Value} {f37 : Addr}
    (a37 : PySem.W.nsIn K mainGlobals "take_rows" = some (some (.ref f37))) (l37 : K.lookup f37 = some ⟨oc37, od37, .func (PySem.W.fnOf "take_rows" "take_rows" (defArgs s_take_rows) (defBody s_take_rows) (defScope s_take_rows) .none kV37 dc37 pm37 an37 cd37 ct37), sl37⟩) (c37 : PySem.W.codeIn K cd37 "take_rows" = true) (k37 : PySem.W.keepIn K (.ref f37) = true)
    {od38 an38 : Option Addr} {sl38 : Array (Option Value)} {kV38 oc38 dc38 pm38 cd38 ct38 : Value} {f38 : Addr}
    (a38 : PySem.W.nsIn K mainGlobals "put_rows" = some (some (.ref f38))) (l38 : K.lookup f38 = some ⟨oc38, od38, .func (PySem.W.fnOf "put_rows" "put_rows" (defArgs s_put_rows) (defBody s_put_rows) (defScope s_put_rows) .none kV38 dc38 pm38 an38 cd38 ct38), sl38⟩) (c38 : PySem.W.codeIn K cd38 "put_rows" = true) (k38 : PySem.W.keepIn K (.ref f38) = true)
    {od39 an39 : Option Addr} {sl39 : Array (Option Value)} {kV39 oc39 dc39 pm39 cd39 ct39 : Value} {f39 : Addr}
    (a39 : PySem.W.nsIn K mainGlobals "change_counts" = some (some (.ref f39))) (l39 : K.lookup f39 = some ⟨oc39, od39, .func (PySem.W.fnOf "change_counts" "change_counts" (defArgs s_change_counts) (defBody s_change_counts) (defScope s_change_counts) .none kV39 dc39 pm39 an39 cd39 ct39), sl39⟩) (c39 : PySem.W.codeIn K cd39 "change_counts" = true) (k39 : PySem.W.keepIn K (.ref f39) = true)
    {od40 an40 : Option Addr} {sl40 : Array (Option Value)} {D40 : Addr} {oc40 dc40 pm40 cd40 ct40 : Value} {f40 : Addr}
    (a40 : PySem.W.nsIn K mainGlobals "after" = some (some (.ref f40))) (l40 : K.lookup f40 = some ⟨oc40, od40, .func (PySem.W.fnOf "after" "after" (defArgs s_after) (defBody s_after) (defScope s_after) .none (.ref D40) dc40 pm40 an40 cd40 ct40), sl40⟩) (c40 : PySem.W.codeIn K cd40 "after" = true) (k40 : PySem.W.keepIn K (.ref f40) = true)
    (kd40 : PySem.W.nsIn K D40 "turning" = some (some (.bool false)))
    {od41 an41 : Option Addr} {sl41 : Array (Option Value)} {D41 : Addr} {oc41 dc41 pm41 cd41 ct41 : Value} {f41 : Addr}
    (a41 : PySem.W.nsIn K mainGlobals "apply_steps" = some (some (.ref f41))) (l41 : K.lookup f41 = some ⟨oc41, od41, .func (PySem.W.fnOf "apply_steps" "apply_steps" (defArgs s_apply_steps) (defBody s_apply_steps) (defScope s_apply_steps) .none (.ref D41) dc41 pm41 an41 cd41 ct41), sl41⟩) (c41 : PySem.W.codeIn K cd41 "apply_steps" = true) (k41 : PySem.W.keepIn K (.ref f41) = true)
    (kd41 : PySem.W.nsIn K D41 "turning" = some (some (.bool false)))
    {od42 an42 : Option Addr} {sl42 : Array (Option Value)} {kV42 oc42 dc42 pm42 cd42 ct42 : Value} {f42 : Addr}
    (a42 : PySem.W.nsIn K mainGlobals "_law_source" = some (some (.ref f42))) (l42 : K.lookup f42 = some ⟨oc42, od42, .func (PySem.W.fnOf "_law_source" "_law_source" (defArgs s_source) (defBody s_source) (defScope s_source) .none kV42 dc42 pm42 an42 cd42 ct42), sl42⟩) (c42 : PySem.W.codeIn K cd42 "_law_source" = true) (k42 : PySem.W.keepIn K (.ref f42) = true)
    {od43 an43 : Option Addr} {sl43 : Array (Option Value)} {kV43 oc43 dc43 pm43 cd43 ct43 : Value} {f43 : Addr}
    (a43 : PySem.W.nsIn K mainGlobals "_law_pull" = some (some (.ref f43))) (l43 : K.lookup f43 = some ⟨oc43, od43, .func (PySem.W.fnOf "_law_pull" "_law_pull" (defArgs s_pull) (defBody s_pull) (defScope s_pull) .none kV43 dc43 pm43 an43 cd43 ct43), sl43⟩) (c43 : PySem.W.codeIn K cd43 "_law_pull" = true) (k43 : PySem.W.keepIn K (.ref f43) = true)
    {od44 an44 : Option Addr} {sl44 : Array (Option Value)} {kV44 oc44 dc44 pm44 cd44 ct44 : Value} {f44 : Addr}
    (a44 : PySem.W.nsIn K mainGlobals "_law_of" = some (some (.ref f44))) (l44 : K.lookup f44 = some ⟨oc44, od44, .func (PySem.W.fnOf "_law_of" "_law_of" (defArgs s_of) (defBody s_of) (defScope s_of) .none kV44 dc44 pm44 an44 cd44 ct44), sl44⟩) (c44 : PySem.W.codeIn K cd44 "_law_of" = true) (k44 : PySem.W.keepIn K (.ref f44) = true)
    {od45 an45 : Option Addr} {sl45 : Array (Option Value)} {kV45 oc45 dc45 pm45 cd45 ct45 : Value} {f45 : Addr}
    (a45 : PySem.W.nsIn K mainGlobals "_law_roots" = some (some (.ref f45))) (l45 : K.lookup f45 = some ⟨oc45, od45, .func (PySem.W.fnOf "_law_roots" "_law_roots" (defArgs s_roots) (defBody s_roots) (defScope s_roots) .none kV45 dc45 pm45 an45 cd45 ct45), sl45⟩) (c45 : PySem.W.codeIn K cd45 "_law_roots" = true) (k45 : PySem.W.keepIn K (.ref f45) = true)
    {od46 an46 : Option Addr} {sl46 : Array (Option Value)} {kV46 oc46 dc46 pm46 cd46 ct46 : Value} {f46 : Addr}
    (a46 : PySem.W.nsIn K mainGlobals "_law_a_root" = some (some (.ref f46))) (l46 : K.lookup f46 = some ⟨oc46, od46, .func (PySem.W.fnOf "_law_a_root" "_law_a_root" (defArgs s_a_root) (defBody s_a_root) (defScope s_a_root) .none kV46 dc46 pm46 an46 cd46 ct46), sl46⟩) (c46 : PySem.W.codeIn K cd46 "_law_a_root" = true) (k46 : PySem.W.keepIn K (.ref f46) = true)
    {od47 an47 : Option Addr} {sl47 : Array (Option Value)} {kV47 oc47 dc47 pm47 cd47 ct47 : Value} {f47 : Addr}
    (a47 : PySem.W.nsIn K mainGlobals "_law_any_pair" = some (some (.ref f47))) (l47 : K.lookup f47 = some ⟨oc47, od47, .func (PySem.W.fnOf "_law_any_pair" "_law_any_pair" (defArgs s_any_pair) (defBody s_any_pair) (defScope s_any_pair) .none kV47 dc47 pm47 an47 cd47 ct47), sl47⟩) (c47 : PySem.W.codeIn K cd47 "_law_any_pair" = true) (k47 : PySem.W.keepIn K (.ref f47) = true)
    {od48 an48 : Option Addr} {sl48 : Array (Option Value)} {kV48 oc48 dc48 pm48 cd48 ct48 : Value} {f48 : Addr}
    (a48 : PySem.W.nsIn K mainGlobals "_law_sign" = some (some (.ref f48))) (l48 : K.lookup f48 = some ⟨oc48, od48, .func (PySem.W.fnOf "_law_sign" "_law_sign" (defArgs s_lsign) (defBody s_lsign) (defScope s_lsign) .none kV48 dc48 pm48 an48 cd48 ct48), sl48⟩) (c48 : PySem.W.codeIn K cd48 "_law_sign" = true) (k48 : PySem.W.keepIn K (.ref f48) = true)
    {od49 an49 : Option Addr} {sl49 : Array (Option Value)} {kV49 oc49 dc49 pm49 cd49 ct49 : Value} {f49 : Addr}
    (a49 : PySem.W.nsIn K mainGlobals "_law_a_length" = some (some (.ref f49))) (l49 : K.lookup f49 = some ⟨oc49, od49, .func (PySem.W.fnOf "_law_a_length" "_law_a_length" (defArgs s_a_length) (defBody s_a_length) (defScope s_a_length) .none kV49 dc49 pm49 an49 cd49 ct49), sl49⟩) (c49 : PySem.W.codeIn K cd49 "_law_a_length" = true) (k49 : PySem.W.keepIn K (.ref f49) = true)
    {od50 an50 : Option Addr} {sl50 : Array (Option Value)} {kV50 oc50 dc50 pm50 cd50 ct50 : Value} {f50 : Addr}
    (a50 : PySem.W.nsIn K mainGlobals "_law_a_sheet" = some (some (.ref f50))) (l50 : K.lookup f50 = some ⟨oc50, od50, .func (PySem.W.fnOf "_law_a_sheet" "_law_a_sheet" (defArgs s_a_sheet) (defBody s_a_sheet) (defScope s_a_sheet) .none kV50 dc50 pm50 an50 cd50 ct50), sl50⟩) (c50 : PySem.W.codeIn K cd50 "_law_a_sheet" = true) (k50 : PySem.W.keepIn K (.ref f50) = true)
    {od51 an51 : Option Addr} {sl51 : Array (Option Value)} {kV51 oc51 dc51 pm51 cd51 ct51 : Value} {f51 : Addr}
    (a51 : PySem.W.nsIn K mainGlobals "_law_scaled" = some (some (.ref f51))) (l51 : K.lookup f51 = some ⟨oc51, od51, .func (PySem.W.fnOf "_law_scaled" "_law_scaled" (defArgs s_lscaled) (defBody s_lscaled) (defScope s_lscaled) .none kV51 dc51 pm51 an51 cd51 ct51), sl51⟩) (c51 : PySem.W.codeIn K cd51 "_law_scaled" = true) (k51 : PySem.W.keepIn K (.ref f51) = true)
    {od52 an52 : Option Addr} {sl52 : Array (Option Value)} {kV52 oc52 dc52 pm52 cd52 ct52 : Value} {f52 : Addr}
    (a52 : PySem.W.nsIn K mainGlobals "_law_side_of" = some (some (.ref f52))) (l52 : K.lookup f52 = some ⟨oc52, od52, .func (PySem.W.fnOf "_law_side_of" "_law_side_of" (defArgs s_lside_of) (defBody s_lside_of) (defScope s_lside_of) .none kV52 dc52 pm52 an52 cd52 ct52), sl52⟩) (c52 : PySem.W.codeIn K cd52 "_law_side_of" = true) (k52 : PySem.W.keepIn K (.ref f52) = true)
    {od53 an53 : Option Addr} {sl53 : Array (Option Value)} {kV53 oc53 dc53 pm53 cd53 ct53 : Value} {f53 : Addr}
    (a53 : PySem.W.nsIn K mainGlobals "_law_with" = some (some (.ref f53))) (l53 : K.lookup f53 = some ⟨oc53, od53, .func (PySem.W.fnOf "_law_with" "_law_with" (defArgs s_with) (defBody s_with) (defScope s_with) .none kV53 dc53 pm53 an53 cd53 ct53), sl53⟩) (c53 : PySem.W.codeIn K cd53 "_law_with" = true) (k53 : PySem.W.keepIn K (.ref f53) = true)
    {od54 an54 : Option Addr} {sl54 : Array (Option Value)} {kV54 oc54 dc54 pm54 cd54 ct54 : Value} {f54 : Addr}
    (a54 : PySem.W.nsIn K mainGlobals "_law_any_step" = some (some (.ref f54))) (l54 : K.lookup f54 = some ⟨oc54, od54, .func (PySem.W.fnOf "_law_any_step" "_law_any_step" (defArgs s_any_step) (defBody s_any_step) (defScope s_any_step) .none kV54 dc54 pm54 an54 cd54 ct54), sl54⟩) (c54 : PySem.W.codeIn K cd54 "_law_any_step" = true) (k54 : PySem.W.keepIn K (.ref f54) = true)
    {od55 an55 : Option Addr} {sl55 : Array (Option Value)} {kV55 oc55 dc55 pm55 cd55 ct55 : Value} {f55 : Addr}
    (a55 : PySem.W.nsIn K mainGlobals "_law_odd_step" = some (some (.ref f55))) (l55 : K.lookup f55 = some ⟨oc55, od55, .func (PySem.W.fnOf "_law_odd_step" "_law_odd_step" (defArgs s_odd_step) (defBody s_odd_step) (defScope s_odd_step) .none kV55 dc55 pm55 an55 cd55 ct55), sl55⟩) (c55 : PySem.W.codeIn K cd55 "_law_odd_step" = true) (k55 : PySem.W.keepIn K (.ref f55) = true)
    {od56 an56 : Option Addr} {sl56 : Array (Option Value)} {kV56 oc56 dc56 pm56 cd56 ct56 : Value} {f56 : Addr}
    (a56 : PySem.W.nsIn K mainGlobals "_law_is_pair" = some (some (.ref f56))) (l56 : K.lookup f56 = some ⟨oc56, od56, .func (PySem.W.fnOf "_law_is_pair" "_law_is_pair" (defArgs s_lis_pair) (defBody s_lis_pair) (defScope s_lis_pair) .none kV56 dc56 pm56 an56 cd56 ct56), sl56⟩) (c56 : PySem.W.codeIn K cd56 "_law_is_pair" = true) (k56 : PySem.W.keepIn K (.ref f56) = true)
    {od57 an57 : Option Addr} {sl57 : Array (Option Value)} {kV57 oc57 dc57 pm57 cd57 ct57 : Value} {f57 : Addr}
    (a57 : PySem.W.nsIn K mainGlobals "_law_is_pairs" = some (some (.ref f57))) (l57 : K.lookup f57 = some ⟨oc57, od57, .func (PySem.W.fnOf "_law_is_pairs" "_law_is_pairs" (defArgs s_is_pairs) (defBody s_is_pairs) (defScope s_is_pairs) .none kV57 dc57 pm57 an57 cd57 ct57), sl57⟩) (c57 : PySem.W.codeIn K cd57 "_law_is_pairs" = true) (k57 : PySem.W.keepIn K (.ref f57) = true)
    {od58 an58 : Option Addr} {sl58 : Array (Option Value)} {kV58 oc58 dc58 pm58 cd58 ct58 : Value} {f58 : Addr}
    (a58 : PySem.W.nsIn K mainGlobals "_law_at_least" = some (some (.ref f58))) (l58 : K.lookup f58 = some ⟨oc58, od58, .func (PySem.W.fnOf "_law_at_least" "_law_at_least" (defArgs s_at_least) (defBody s_at_least) (defScope s_at_least) .none kV58 dc58 pm58 an58 cd58 ct58), sl58⟩) (c58 : PySem.W.codeIn K cd58 "_law_at_least" = true) (k58 : PySem.W.keepIn K (.ref f58) = true)
    {od59 an59 : Option Addr} {sl59 : Array (Option Value)} {kV59 oc59 dc59 pm59 cd59 ct59 : Value} {f59 : Addr}
    (a59 : PySem.W.nsIn K mainGlobals "_law_good_step" = some (some (.ref f59))) (l59 : K.lookup f59 = some ⟨oc59, od59, .func (PySem.W.fnOf "_law_good_step" "_law_good_step" (defArgs s_good_step) (defBody s_good_step) (defScope s_good_step) .none kV59 dc59 pm59 an59 cd59 ct59), sl59⟩) (c59 : PySem.W.codeIn K cd59 "_law_good_step" = true) (k59 : PySem.W.keepIn K (.ref f59) = true)
    {od60 an60 : Option Addr} {sl60 : Array (Option Value)} {kV60 oc60 dc60 pm60 cd60 ct60 : Value} {f60 : Addr}
    (a60 : PySem.W.nsIn K mainGlobals "_law_field_of" = some (some (.ref f60))) (l60 : K.lookup f60 = some ⟨oc60, od60, .func (PySem.W.fnOf "_law_field_of" "_law_field_of" (defArgs s_field_of) (defBody s_field_of) (defScope s_field_of) .none kV60 dc60 pm60 an60 cd60 ct60), sl60⟩) (c60 : PySem.W.codeIn K cd60 "_law_field_of" = true) (k60 : PySem.W.keepIn K (.ref f60) = true)
    {od61 an61 : Option Addr} {sl61 : Array (Option Value)} {kV61 oc61 dc61 pm61 cd61 ct61 : Value} {f61 : Addr}
    (a61 : PySem.W.nsIn K mainGlobals "_law_try" = some (some (.ref f61))) (l61 : K.lookup f61 = some ⟨oc61, od61, .func (PySem.W.fnOf "_law_try" "_law_try" (defArgs s_try) (defBody s_try) (defScope s_try) .none kV61 dc61 pm61 an61 cd61 ct61), sl61⟩) (c61 : PySem.W.codeIn K cd61 "_law_try" = true) (k61 : PySem.W.keepIn K (.ref f61) = true)
    {od62 an62 : Option Addr} {sl62 : Array (Option Value)} {kV62 oc62 dc62 pm62 cd62 ct62 : Value} {f62 : Addr}
    (a62 : PySem.W.nsIn K mainGlobals "_law_minus" = some (some (.ref f62))) (l62 : K.lookup f62 = some ⟨oc62, od62, .func (PySem.W.fnOf "_law_minus" "_law_minus" (defArgs s_minus) (defBody s_minus) (defScope s_minus) .none kV62 dc62 pm62 an62 cd62 ct62), sl62⟩) (c62 : PySem.W.codeIn K cd62 "_law_minus" = true) (k62 : PySem.W.keepIn K (.ref f62) = true)
    {od63 an63 : Option Addr} {sl63 : Array (Option Value)} {kV63 oc63 dc63 pm63 cd63 ct63 : Value} {f63 : Addr}
    (a63 : PySem.W.nsIn K mainGlobals "_law_plus" = some (some (.ref f63))) (l63 : K.lookup f63 = some ⟨oc63, od63, .func (PySem.W.fnOf "_law_plus" "_law_plus" (defArgs s_plus) (defBody s_plus) (defScope s_plus) .none kV63 dc63 pm63 an63 cd63 ct63), sl63⟩) (c63 : PySem.W.codeIn K cd63 "_law_plus" = true) (k63 : PySem.W.keepIn K (.ref f63) = true)
    {od64 an64 : Option Addr} {sl64 : Array (Option Value)} {kV64 oc64 dc64 pm64 cd64 ct64 : Value} {f64 : Addr}
    (a64 : PySem.W.nsIn K mainGlobals "_law_given" = some (some (.ref f64))) (l64 : K.lookup f64 = some ⟨oc64, od64, .func (PySem.W.fnOf "_law_given" "_law_given" (defArgs s_given) (defBody s_given) (defScope s_given) .none kV64 dc64 pm64 an64 cd64 ct64), sl64⟩) (c64 : PySem.W.codeIn K cd64 "_law_given" = true) (k64 : PySem.W.keepIn K (.ref f64) = true)
    {od65 an65 : Option Addr} {sl65 : Array (Option Value)} {kV65 oc65 dc65 pm65 cd65 ct65 : Value} {f65 : Addr}
    (a65 : PySem.W.nsIn K mainGlobals "_law_reverse" = some (some (.ref f65))) (l65 : K.lookup f65 = some ⟨oc65, od65, .func (PySem.W.fnOf "_law_reverse" "_law_reverse" (defArgs s_reverse) (defBody s_reverse) (defScope s_reverse) .none kV65 dc65 pm65 an65 cd65 ct65), sl65⟩) (c65 : PySem.W.codeIn K cd65 "_law_reverse" = true) (k65 : PySem.W.keepIn K (.ref f65) = true)
    {od66 an66 : Option Addr} {sl66 : Array (Option Value)} {kV66 oc66 dc66 pm66 cd66 ct66 : Value} {f66 : Addr}
    (a66 : PySem.W.nsIn K mainGlobals "_law_like" = some (some (.ref f66))) (l66 : K.lookup f66 = some ⟨oc66, od66, .func (PySem.W.fnOf "_law_like" "_law_like" (defArgs s_like) (defBody s_like) (defScope s_like) .none kV66 dc66 pm66 an66 cd66 ct66), sl66⟩) (c66 : PySem.W.codeIn K cd66 "_law_like" = true) (k66 : PySem.W.keepIn K (.ref f66) = true)
    {od67 an67 : Option Addr} {sl67 : Array (Option Value)} {kV67 oc67 dc67 pm67 cd67 ct67 : Value} {f67 : Addr}
    (a67 : PySem.W.nsIn K mainGlobals "_law_stock_of" = some (some (.ref f67))) (l67 : K.lookup f67 = some ⟨oc67, od67, .func (PySem.W.fnOf "_law_stock_of" "_law_stock_of" (defArgs s_stock_of) (defBody s_stock_of) (defScope s_stock_of) .none kV67 dc67 pm67 an67 cd67 ct67), sl67⟩) (c67 : PySem.W.codeIn K cd67 "_law_stock_of" = true) (k67 : PySem.W.keepIn K (.ref f67) = true)
    {od68 an68 : Option Addr} {sl68 : Array (Option Value)} {kV68 oc68 dc68 pm68 cd68 ct68 : Value} {f68 : Addr}
    (a68 : PySem.W.nsIn K mainGlobals "_law_some_count" = some (some (.ref f68))) (l68 : K.lookup f68 = some ⟨oc68, od68, .func (PySem.W.fnOf "_law_some_count" "_law_some_count" (defArgs s_some_count) (defBody s_some_count) (defScope s_some_count) .none kV68 dc68 pm68 an68 cd68 ct68), sl68⟩) (c68 : PySem.W.codeIn K cd68 "_law_some_count" = true) (k68 : PySem.W.keepIn K (.ref f68) = true)
    {od69 an69 : Option Addr} {sl69 : Array (Option Value)} {kV69 oc69 dc69 pm69 cd69 ct69 : Value} {f69 : Addr}
    (a69 : PySem.W.nsIn K mainGlobals "_law_some_rows" = some (some (.ref f69))) (l69 : K.lookup f69 = some ⟨oc69, od69, .func (PySem.W.fnOf "_law_some_rows" "_law_some_rows" (defArgs s_some_rows) (defBody s_some_rows) (defScope s_some_rows) .none kV69 dc69 pm69 an69 cd69 ct69), sl69⟩) (c69 : PySem.W.codeIn K cd69 "_law_some_rows" = true) (k69 : PySem.W.keepIn K (.ref f69) = true)
    {od70 an70 : Option Addr} {sl70 : Array (Option Value)} {kV70 oc70 dc70 pm70 cd70 ct70 : Value} {f70 : Addr}
    (a70 : PySem.W.nsIn K mainGlobals "_law_big_rows" = some (some (.ref f70))) (l70 : K.lookup f70 = some ⟨oc70, od70, .func (PySem.W.fnOf "_law_big_rows" "_law_big_rows" (defArgs s_big_rows) (defBody s_big_rows) (defScope s_big_rows) .none kV70 dc70 pm70 an70 cd70 ct70), sl70⟩) (c70 : PySem.W.codeIn K cd70 "_law_big_rows" = true) (k70 : PySem.W.keepIn K (.ref f70) = true)
    {od71 an71 : Option Addr} {sl71 : Array (Option Value)} {kV71 oc71 dc71 pm71 cd71 ct71 : Value} {f71 : Addr}
    (a71 : PySem.W.nsIn K mainGlobals "_law_part_below" = some (some (.ref f71))) (l71 : K.lookup f71 = some ⟨oc71, od71, .func (PySem.W.fnOf "_law_part_below" "_law_part_below" (defArgs s_part_below) (defBody s_part_below) (defScope s_part_below) .none kV71 dc71 pm71 an71 cd71 ct71), sl71⟩) (c71 : PySem.W.codeIn K cd71 "_law_part_below" = true) (k71 : PySem.W.keepIn K (.ref f71) = true)
    {od72 an72 : Option Addr} {sl72 : Array (Option Value)} {kV72 oc72 dc72 pm72 cd72 ct72 : Value} {f72 : Addr}
    (a72 : PySem.W.nsIn K mainGlobals "_law_mate_of" = some (some (.ref f72))) (l72 : K.lookup f72 = some ⟨oc72, od72, .func (PySem.W.fnOf "_law_mate_of" "_law_mate_of" (defArgs s_mate_of) (defBody s_mate_of) (defScope s_mate_of) .none kV72 dc72 pm72 an72 cd72 ct72), sl72⟩) (c72 : PySem.W.codeIn K cd72 "_law_mate_of" = true) (k72 : PySem.W.keepIn K (.ref f72) = true)
    {od73 an73 : Option Addr} {sl73 : Array (Option Value)} {kV73 oc73 dc73 pm73 cd73 ct73 : Value} {f73 : Addr}
    (a73 : PySem.W.nsIn K mainGlobals "_law_next_step" = some (some (.ref f73))) (l73 : K.lookup f73 = some ⟨oc73, od73, .func (PySem.W.fnOf "_law_next_step" "_law_next_step" (defArgs s_next_step) (defBody s_next_step) (defScope s_next_step) .none kV73 dc73 pm73 an73 cd73 ct73), sl73⟩) (c73 : PySem.W.codeIn K cd73 "_law_next_step" = true) (k73 : PySem.W.keepIn K (.ref f73) = true)
    {od74 an74 : Option Addr} {sl74 : Array (Option Value)} {kV74 oc74 dc74 pm74 cd74 ct74 : Value} {f74 : Addr}
    (a74 : PySem.W.nsIn K mainGlobals "_law_listed" = some (some (.ref f74))) (l74 : K.lookup f74 = some ⟨oc74, od74, .func (PySem.W.fnOf "_law_listed" "_law_listed" (defArgs s_listed) (defBody s_listed) (defScope s_listed) .none kV74 dc74 pm74 an74 cd74 ct74), sl74⟩) (c74 : PySem.W.codeIn K cd74 "_law_listed" = true) (k74 : PySem.W.keepIn K (.ref f74) = true)
    {od75 an75 : Option Addr} {sl75 : Array (Option Value)} {kV75 oc75 dc75 pm75 cd75 ct75 : Value} {f75 : Addr}
    (a75 : PySem.W.nsIn K mainGlobals "_law_heap_of" = some (some (.ref f75))) (l75 : K.lookup f75 = some ⟨oc75, od75, .func (PySem.W.fnOf "_law_heap_of" "_law_heap_of" (defArgs s_heap_of) (defBody s_heap_of) (defScope s_heap_of) .none kV75 dc75 pm75 an75 cd75 ct75), sl75⟩) (c75 : PySem.W.codeIn K cd75 "_law_heap_of" = true) (k75 : PySem.W.keepIn K (.ref f75) = true)
    {od76 an76 : Option Addr} {sl76 : Array (Option Value)} {kV76 oc76 dc76 pm76 cd76 ct76 : Value} {f76 : Addr}
    (a76 : PySem.W.nsIn K mainGlobals "_law_is_heap" = some (some (.ref f76))) (l76 : K.lookup f76 = some ⟨oc76, od76, .func (PySem.W.fnOf "_law_is_heap" "_law_is_heap" (defArgs s_is_heap) (defBody s_is_heap) (defScope s_is_heap) .none kV76 dc76 pm76 an76 cd76 ct76), sl76⟩) (c76 : PySem.W.codeIn K cd76 "_law_is_heap" = true) (k76 : PySem.W.keepIn K (.ref f76) = true)
    {od77 an77 : Option Addr} {sl77 : Array (Option Value)} {kV77 oc77 dc77 pm77 ct77 : Value} {f77 : Addr}
    (a77 : PySem.W.nsIn K mainGlobals "law" = some (some (.ref f77))) (l77 : K.lookup f77 = some ⟨oc77, od77, .func (PySem.W.fnOf "law" "law" (defArgs s_law) (defBody s_law) (defScope s_law) .none kV77 dc77 pm77 an77 (.ref cL) ct77), sl77⟩) (c77 : PySem.W.codeIn K (.ref cL) "law" = true) (k77 : PySem.W.keepIn K (.ref f77) = true)
    (z0 : PySem.W.nsIn K mainGlobals "ValueError" = some none)
    (z1 : PySem.W.nsIn K mainGlobals "LookupError" = some none)
    (z2 : PySem.W.nsIn K mainGlobals "IndexError" = some none)
    (z3 : PySem.W.nsIn K mainGlobals "enumerate" = some none)
    (z4 : PySem.W.nsIn K mainGlobals "isinstance" = some none)
    (z5 : PySem.W.nsIn K mainGlobals "range" = some none)
    (z6 : PySem.W.nsIn K mainGlobals "str" = some none)
    (z7 : PySem.W.nsIn K mainGlobals "sum" = some none)
    (z8 : PySem.W.nsIn K mainGlobals "list" = some none)
    (z9 : PySem.W.nsIn K mainGlobals "bool" = some none)
    (z10 : PySem.W.nsIn K mainGlobals "len" = some none)
    (z11 : PySem.W.nsIn K mainGlobals "tuple" = some none)
    (z12 : PySem.W.nsIn K mainGlobals "int" = some none)
    (z13 : PySem.W.nsIn K mainGlobals "all" = some none)
    (z14 : PySem.W.nsIn K mainGlobals "abs" = some none)
    (z15 : PySem.W.nsIn K mainGlobals "sorted" = some none)
    (z16 : PySem.W.nsIn K mainGlobals "min" = some none)
    (z17 : PySem.W.nsIn K mainGlobals "zip" = some none)
    {u_SHAPES : Addr} {es_SHAPES : Array DictEntry} {n_SHAPES : Nat} (a_SHAPES : PySem.W.nsIn K mainGlobals "SHAPES" = some (some (.ref u_SHAPES))) (kat_SHAPES : K.lookup u_SHAPES = some ⟨.type "dict", none, .dict es_SHAPES n_SHAPES, #[]⟩) (kl_SHAPES : PySem.W.KeysLit w.params es_SHAPES.toList) (klow_SHAPES : (u_SHAPES == sysModules) = false)
    {p_SHAPES_saw : Addr} {d_SHAPES_saw : Option Addr} {n_SHAPES_saw : Nat} {o_SHAPES_saw : Array (Option Value)} {t0_SHAPES_saw t1_SHAPES_saw t2_SHAPES_saw t3_SHAPES_saw : Tok} (h_SHAPES_saw : PySem.W.nsIn K u_SHAPES "saw" = some (some (.ref p_SHAPES_saw))) (l_SHAPES_saw : K.lookup p_SHAPES_saw = some ⟨.type "tuple", d_SHAPES_saw, .seq #[.str "sheet" t0_SHAPES_saw, .str "side" t1_SHAPES_saw, .str "pair" t2_SHAPES_saw, .str "copies" t3_SHAPES_saw] n_SHAPES_saw, o_SHAPES_saw⟩)
    {p_SHAPES_split : Addr} {d_SHAPES_split : Option Addr} {n_SHAPES_split : Nat} {o_SHAPES_split : Array (Option Value)} {t0_SHAPES_split t1_SHAPES_split t2_SHAPES_split t3_SHAPES_split : Tok} (h_SHAPES_split : PySem.W.nsIn K u_SHAPES "split" = some (some (.ref p_SHAPES_split))) (l_SHAPES_split : K.lookup p_SHAPES_split = some ⟨.type "tuple", d_SHAPES_split, .seq #[.str "sheet" t0_SHAPES_split, .str "side" t1_SHAPES_split, .str "pieces" t2_SHAPES_split, .str "copies" t3_SHAPES_split] n_SHAPES_split, o_SHAPES_split⟩)
    {p_SHAPES_glue : Addr} {d_SHAPES_glue : Option Addr} {n_SHAPES_glue : Nat} {o_SHAPES_glue : Array (Option Value)} {t0_SHAPES_glue t1_SHAPES_glue t2_SHAPES_glue t3_SHAPES_glue : Tok} (h_SHAPES_glue : PySem.W.nsIn K u_SHAPES "glue" = some (some (.ref p_SHAPES_glue))) (l_SHAPES_glue : K.lookup p_SHAPES_glue = some ⟨.type "tuple", d_SHAPES_glue, .seq #[.str "sheet" t0_SHAPES_glue, .str "sheet" t1_SHAPES_glue, .str "side" t2_SHAPES_glue, .str "copies" t3_SHAPES_glue] n_SHAPES_glue, o_SHAPES_glue⟩)
    {p_SHAPES_stack : Addr} {d_SHAPES_stack : Option Addr} {n_SHAPES_stack : Nat} {o_SHAPES_stack : Array (Option Value)} {t0_SHAPES_stack t1_SHAPES_stack t2_SHAPES_stack t3_SHAPES_stack : Tok} (h_SHAPES_stack : PySem.W.nsIn K u_SHAPES "stack" = some (some (.ref p_SHAPES_stack))) (l_SHAPES_stack : K.lookup p_SHAPES_stack = some ⟨.type "tuple", d_SHAPES_stack, .seq #[.str "sheet" t0_SHAPES_stack, .str "side" t1_SHAPES_stack, .str "pieces" t2_SHAPES_stack, .str "copies" t3_SHAPES_stack] n_SHAPES_stack, o_SHAPES_stack⟩)
    {p_SHAPES_turn : Addr} {d_SHAPES_turn : Option Addr} {n_SHAPES_turn : Nat} {o_SHAPES_turn : Array (Option Value)} {t0_SHAPES_turn t1_SHAPES_turn : Tok} (h_SHAPES_turn : PySem.W.nsIn K u_SHAPES "turn" = some (some (.ref p_SHAPES_turn))) (l_SHAPES_turn : K.lookup p_SHAPES_turn = some ⟨.type "tuple", d_SHAPES_turn, .seq #[.str "sheet" t0_SHAPES_turn, .str "copies" t1_SHAPES_turn] n_SHAPES_turn, o_SHAPES_turn⟩)
    (m0_SHAPES : PySem.W.nsIn K u_SHAPES "Saw" = some none)
    (m1_SHAPES : PySem.W.nsIn K u_SHAPES "across" = some none)
    (m2_SHAPES : PySem.W.nsIn K u_SHAPES "along" = some none)
    (m3_SHAPES : PySem.W.nsIn K u_SHAPES "" = some none)
    (m4_SHAPES : PySem.W.nsIn K u_SHAPES "Across" = some none)
    (rd_Heap : PySem.W.readsIn K C_Heap (.type "type") = true) (gt_Heap : PySem.W.specialIn K (.ref C_Heap) "__getattribute__" = some (some (.builtin "type.__getattribute__")))
    {s_SIDES : Addr} {d_SIDES : Option Addr} {n_SIDES : Nat} {o_SIDES : Array (Option Value)} {t0_SIDES t1_SIDES : Tok} (a_SIDES : PySem.W.findCls K (.ref C_Heap) (.type "type") "SIDES" = some (.val (.ref s_SIDES))) (l_SIDES : K.lookup s_SIDES = some ⟨.type "tuple", d_SIDES, .seq #[.str "across" t0_SIDES, .str "along" t1_SIDES] n_SIDES, o_SIDES⟩)
    (hn : PySem.W.specialIn K (.builtin "object.__class__") "__get__" = some (some (.builtin "getset_descriptor.__get__"))) (ht : PySem.W.takesIn K (.builtin "object.__class__") = some true)
    {CGrainError : Addr} {DGrainError : ClassData} (aGrainError : PySem.W.nsIn K mainGlobals "GrainError" = some (some (.ref CGrainError))) (cGrainError : PySem.W.clsIn K CGrainError = some DGrainError) (nGrainError : DGrainError.name = "GrainError") (tGrainError : PySem.W.typeIn K (.ref CGrainError) = some (.type "type")) (sbGrainError : PySem.W.subIn K (.ref CGrainError) (.type "BaseException") = some true)
    {CGrainMissing : Addr} {DGrainMissing : ClassData} (aGrainMissing : PySem.W.nsIn K mainGlobals "GrainMissing" = some (some (.ref CGrainMissing))) (cGrainMissing : PySem.W.clsIn K CGrainMissing = some DGrainMissing) (nGrainMissing : DGrainMissing.name = "GrainMissing") (tGrainMissing : PySem.W.typeIn K (.ref CGrainMissing) = some (.type "type")) (sbGrainMissing : PySem.W.subIn K (.ref CGrainMissing) (.type "BaseException") = some true)
    (E_BadRoot : ErW PySem.Challenge.pw_grainyard_k21_reverse_steps K mg "ValueError" "ValueError.__new__" "ValueError.__init__" [.type "ValueError", .type "Exception", .type "BaseException", .type "object"] [.ref CGrainError] i_BadRoot "BadRoot" "BadRoot.__init__" ["word", "number"])
    (E_BadRow : ErW PySem.Challenge.pw_grainyard_k21_reverse_steps K mg "ValueError" "ValueError.__new__" "ValueError.__init__" [.type "ValueError", .type "Exception", .type "BaseException", .type "object"] [.ref CGrainError] i_BadRow "BadRow" "BadRow.__init__" ["word", "at"])
    (E_BadStep : ErW PySem.Challenge.pw_grainyard_k21_reverse_steps K mg "ValueError" "ValueError.__new__" "ValueError.__init__" [.type "ValueError", .type "Exception", .type "BaseException", .type "object"] [.ref CGrainError] i_BadStep "BadStep" "BadStep.__init__" ["word", "at"])
    (E_NothingLeft : ErW PySem.Challenge.pw_grainyard_k21_reverse_steps K mg "IndexError" "IndexError.__new__" "IndexError.__init__" [.type "IndexError", .type "LookupError", .type "Exception", .type "BaseException", .type "object"] [] i_NothingLeft "NothingLeft" "NothingLeft.__init__" ["word"])
    (tabL : h.get? PL = some { cls := .none, data := .fields #[] }) (noL : K.lookup PL = none) (hdL : PySem.W.codeHdIn K cL PL = true) : LamX.LawAtS l w K CX0 18 63 "_law_script" mg fa h := by
  have e := hfa.symm.trans (PySem.W.mg_of X G a77)
  cases e
  have F0 := fun_mk (st := s_whole_root) l0 c0 k0
  have b0 := F0.binds (ps := ["number"]) fun _ _ _ _ _ _ us hl => by obtain ⟨_, rfl⟩ := len1 hl; rfl
  have F1 := fun_mk (st := s_is_root) l1 c1 k1
  have b1 := F1.binds (ps := ["number"]) fun _ _ _ _ _ _ us hl => by obtain ⟨_, rfl⟩ := len1 hl; rfl
  have F2 := fun_mk (st := s_check_root) l2 c2 k2
  have b2 := F2.binds (ps := ["root"]) fun _ _ _ _ _ _ us hl => by obtain ⟨_, rfl⟩ := len1 hl; rfl
  have F3 := fun_mk (st := s_sign) l3 c3 k3
  have b3 := F3.binds (ps := ["pair", "root"]) fun _ _ _ _ _ _ us hl => by obtain ⟨_, _, rfl⟩ := len2 hl; rfl
  have F4 := fun_mk (st := s_is_length) l4 c4 k4
  have b4 := F4.binds (ps := ["pair", "root"]) fun _ _ _ _ _ _ us hl => by obtain ⟨_, _, rfl⟩ := len2 hl; rfl
  have F5 := fun_mk (st := s_added) l5 c5 k5
  have F6 := fun_mk (st := s_scaled) l6 c6 k6
  have b6 := F6.binds (ps := ["pair", "number"]) fun _ _ _ _ _ _ us hl => by obtain ⟨_, _, rfl⟩ := len2 hl; rfl
  have F7 := fun_mk (st := s_is_sheet) l7 c7 k7
  have b7 := F7.binds (ps := ["sheet", "root"]) fun _ _ _ _ _ _ us hl => by obtain ⟨_, _, rfl⟩ := len2 hl; rfl
  have F8 := fun_mk (st := s_turned) l8 c8 k8
  have b8 := F8.binds (ps := ["sheet"]) fun _ _ _ _ _ _ us hl => by obtain ⟨_, rfl⟩ := len1 hl; rfl
  have F9 := fun_mk (st := s_check_rows) l9 c9 k9
  have b9 := F9.binds (ps := ["rows", "root"]) fun _ _ _ _ _ _ us hl => by obtain ⟨_, _, rfl⟩ := len2 hl; rfl
  have F10 := fun_mk (st := s_merged) l10 c10 k10
  have b10 := F10.binds (ps := ["rows"]) fun _ _ _ _ _ _ us hl => by obtain ⟨_, rfl⟩ := len1 hl; rfl
  have F11 : FunD K "__init__" "Heap.__init__" (defArgs s_Heap_init) (defBody s_Heap_init) (defScope s_Heap_init) [.ref r011] [] f11 _ := ⟨⟨_, _, _, _, _, _, _, _, _, _, rfl, l11, c11, .inr ⟨by simp, T11, _, [.ref r011], _, rfl, t11, rfl, .cons rfl .nil⟩, .inl rfl⟩, k11⟩
  have b11 := bd_given l11 t11 (ps := ["self", "root", "rows"]) (fun us hl => match us, hl with | [_, _, _], _ => ⟨_, rfl, rfl⟩)
  have e11 := bd_dflt l11 t11 (ps := ["self", "root", "rows"]) (fun us hl => match us, hl with | [_, _], _ => ⟨_, rfl, rfl⟩)
  have F12 := fun_mk (st := s_Heap_root) l12 c12 k12
  have b12 := F12.binds (ps := ["self"]) fun _ _ _ _ _ _ us hl => by obtain ⟨_, rfl⟩ := len1 hl; rfl
  have F13 := fun_mk (st := s_Heap_rows) l13 c13 k13
  have b13 := F13.binds (ps := ["self"]) fun _ _ _ _ _ _ us hl => by obtain ⟨_, rfl⟩ := len1 hl; rfl
  have F14 := fun_mk (st := s_Heap_eq) l14 c14 k14
  have b14 := F14.binds (ps := ["self", "other"]) fun _ _ _ _ _ _ us hl => by obtain ⟨_, _, rfl⟩ := len2 hl; rfl
  have F15 := fun_mk (st := s_is_pair) l15 c15 k15
  have b15 := F15.binds (ps := ["item"]) fun _ _ _ _ _ _ us hl => by obtain ⟨_, rfl⟩ := len1 hl; rfl
  have F16 := fun_mk (st := s_is_two_pairs) l16 c16 k16
  have b16 := F16.binds (ps := ["item"]) fun _ _ _ _ _ _ us hl => by obtain ⟨_, rfl⟩ := len1 hl; rfl
  have F17 := fun_mk (st := s_fits) l17 c17 k17
  have b17 := F17.binds (ps := ["item", "kind"]) fun _ _ _ _ _ _ us hl => by obtain ⟨_, _, rfl⟩ := len2 hl; rfl
  have F18 := fun_mk (st := s_has_shape) l18 c18 k18
  have b18 := F18.binds (ps := ["step"]) fun _ _ _ _ _ _ us hl => by obtain ⟨_, rfl⟩ := len1 hl; rfl
  have F19 := fun_mk (st := s_side_of) l19 c19 k19
  have b19 := F19.binds (ps := ["sheet", "side"]) fun _ _ _ _ _ _ us hl => by obtain ⟨_, _, rfl⟩ := len2 hl; rfl
  have F20 := fun_mk (st := s_with_side) l20 c20 k20
  have b20 := F20.binds (ps := ["sheet", "side", "pair"]) fun _ _ _ _ _ _ us hl => by obtain ⟨_, _, _, rfl⟩ := len3 hl; rfl
  have F21 := fun_mk (st := s_is_even_split) l21 c21 k21
  have b21 := F21.binds (ps := ["step"]) fun _ _ _ _ _ _ us hl => by obtain ⟨_, rfl⟩ := len1 hl; rfl
  have F22 := fun_mk (st := s_is_even_glue) l22 c22 k22
  have b22 := F22.binds (ps := ["step"]) fun _ _ _ _ _ _ us hl => by obtain ⟨_, rfl⟩ := len1 hl; rfl
  have F23 := fun_mk (st := s_is_step) l23 c23 k23
  have b23 := F23.binds (ps := ["step"]) fun _ _ _ _ _ _ us hl => by obtain ⟨_, rfl⟩ := len1 hl; rfl
  have F24 := fun_mk (st := s_check_steps) l24 c24 k24
  have b24 := F24.binds (ps := ["steps"]) fun _ _ _ _ _ _ us hl => by obtain ⟨_, rfl⟩ := len1 hl; rfl
  have F25 := fun_mk (st := s_is_allowed) l25 c25 k25
  have b25 := F25.binds (ps := ["step", "turning"]) fun _ _ _ _ _ _ us hl => by obtain ⟨_, _, rfl⟩ := len2 hl; rfl
  have F26 := fun_mk (st := s_rest_of_saw) l26 c26 k26
  have b26 := F26.binds (ps := ["step"]) fun _ _ _ _ _ _ us hl => by obtain ⟨_, rfl⟩ := len1 hl; rfl
  have F27 := fun_mk (st := s_reverse_of_saw) l27 c27 k27
  have b27 := F27.binds (ps := ["step"]) fun _ _ _ _ _ _ us hl => by obtain ⟨_, rfl⟩ := len1 hl; rfl
  have F28 := fun_mk (st := s_reverse_of_glue) l28 c28 k28
  have b28 := F28.binds (ps := ["step"]) fun _ _ _ _ _ _ us hl => by obtain ⟨_, rfl⟩ := len1 hl; rfl
  have F29 := fun_mk (st := s_reverse_of_split) l29 c29 k29
  have b29 := F29.binds (ps := ["step"]) fun _ _ _ _ _ _ us hl => by obtain ⟨_, rfl⟩ := len1 hl; rfl
  have F30 := fun_mk (st := s_reverse_of_stack) l30 c30 k30
  have b30 := F30.binds (ps := ["step"]) fun _ _ _ _ _ _ us hl => by obtain ⟨_, rfl⟩ := len1 hl; rfl
  have F31 := fun_mk (st := s_reverse_of) l31 c31 k31
  have b31 := F31.binds (ps := ["step"]) fun _ _ _ _ _ _ us hl => by obtain ⟨_, rfl⟩ := len1 hl; rfl
  have F32 := fun_mk (st := s_back_of) l32 c32 k32
  have b32 := F32.binds (ps := ["step"]) fun _ _ _ _ _ _ us hl => by obtain ⟨_, rfl⟩ := len1 hl; rfl
  have F33 := fun_mk (st := s_needs_of) l33 c33 k33
  have b33 := F33.binds (ps := ["step"]) fun _ _ _ _ _ _ us hl => by obtain ⟨_, rfl⟩ := len1 hl; rfl
  have F34 := fun_mk (st := s_saws_lengths) l34 c34 k34
  have b34 := F34.binds (ps := ["step", "root"]) fun _ _ _ _ _ _ us hl => by obtain ⟨_, _, rfl⟩ := len2 hl; rfl
  have F35 := fun_mk (st := s_check_possible) l35 c35 k35
  have b35 := F35.binds (ps := ["step", "root", "turning", "at"]) fun _ _ _ _ _ _ us hl => by obtain ⟨_, _, _, _, rfl⟩ := len4 hl; rfl
  have F36 := fun_mk (st := s_counts_of) l36 c36 k36
  have b36 := F36.binds (ps := ["heap"]) fun _ _ _ _ _ _ us hl => by obtain ⟨_, rfl⟩ := len1 hl; rfl
  have F37 := fun_mk (st := s_take_rows) l37 c37 k37
  have b37 := F37.binds (ps := ["counts", "rows"]) fun _ _ _ _ _ _ us hl => by obtain ⟨_, _, rfl⟩ := len2 hl; rfl
  have F38 := fun_mk (st := s_put_rows) l38 c38 k38
  have b38 := F38.binds (ps := ["counts", "rows"]) fun _ _ _ _ _ _ us hl => by obtain ⟨_, _, rfl⟩ := len2 hl; rfl
  have F39 := fun_mk (st := s_change_counts) l39 c39 k39
  have b39 := F39.binds (ps := ["counts", "step"]) fun _ _ _ _ _ _ us hl => by obtain ⟨_, _, rfl⟩ := len2 hl; rfl
  have F40 := fun_mk (st := s_after) l40 c40 k40
  have b40 := bd_kw l40 kd40 (ps := ["heap", "step", "turning"]) (fun us hl => match us, hl with | [_, _], _ => ⟨_, _, _, _, _, _, rfl, rfl, rfl⟩)
  have F41 := fun_mk (st := s_apply_steps) l41 c41 k41
  have b41 := bd_kw l41 kd41 (ps := ["heap", "steps", "turning"]) (fun us hl => match us, hl with | [_, _], _ => ⟨_, _, _, _, _, _, rfl, rfl, rfl⟩)
  have F42 := fun_mk (st := s_source) l42 c42 k42
  have b42 := F42.binds (ps := ["_law_script"]) fun _ _ _ _ _ _ us hl => by obtain ⟨_, rfl⟩ := len1 hl; rfl
  have F43 := fun_mk (st := s_pull) l43 c43 k43
  have b43 := F43.binds (ps := ["_law_bag", "_law_size"]) fun _ _ _ _ _ _ us hl => by obtain ⟨_, _, rfl⟩ := len2 hl; rfl
  have F44 := fun_mk (st := s_of) l44 c44 k44
  have b44 := F44.binds (ps := ["_law_bag", "_law_some"]) fun _ _ _ _ _ _ us hl => by obtain ⟨_, _, rfl⟩ := len2 hl; rfl
  have F45 := fun_mk (st := s_roots) l45 c45 k45
  have b45 := F45.binds (ps := []) fun _ _ _ _ _ _ us hl => match us, hl with | [], _ => rfl
  have F46 := fun_mk (st := s_a_root) l46 c46 k46
  have b46 := F46.binds (ps := ["_law_bag"]) fun _ _ _ _ _ _ us hl => by obtain ⟨_, rfl⟩ := len1 hl; rfl
  have F47 := fun_mk (st := s_any_pair) l47 c47 k47
  have b47 := F47.binds (ps := ["_law_bag"]) fun _ _ _ _ _ _ us hl => by obtain ⟨_, rfl⟩ := len1 hl; rfl
  have F48 := fun_mk (st := s_lsign) l48 c48 k48
  have b48 := F48.binds (ps := ["_law_pair", "_law_root"]) fun _ _ _ _ _ _ us hl => by obtain ⟨_, _, rfl⟩ := len2 hl; rfl
  have F49 := fun_mk (st := s_a_length) l49 c49 k49
  have b49 := F49.binds (ps := ["_law_bag", "_law_root"]) fun _ _ _ _ _ _ us hl => by obtain ⟨_, _, rfl⟩ := len2 hl; rfl
  have F50 := fun_mk (st := s_a_sheet) l50 c50 k50
  have b50 := F50.binds (ps := ["_law_bag", "_law_root"]) fun _ _ _ _ _ _ us hl => by obtain ⟨_, _, rfl⟩ := len2 hl; rfl
  have F51 := fun_mk (st := s_lscaled) l51 c51 k51
  have b51 := F51.binds (ps := ["_law_pair", "_law_number"]) fun _ _ _ _ _ _ us hl => by obtain ⟨_, _, rfl⟩ := len2 hl; rfl
  have F52 := fun_mk (st := s_lside_of) l52 c52 k52
  have b52 := F52.binds (ps := ["_law_sheet", "_law_side"]) fun _ _ _ _ _ _ us hl => by obtain ⟨_, _, rfl⟩ := len2 hl; rfl
  have F53 := fun_mk (st := s_with) l53 c53 k53
  have b53 := F53.binds (ps := ["_law_sheet", "_law_side", "_law_pair"]) fun _ _ _ _ _ _ us hl => by obtain ⟨_, _, _, rfl⟩ := len3 hl; rfl
  have F54 := fun_mk (st := s_any_step) l54 c54 k54
  have b54 := F54.binds (ps := ["_law_bag", "_law_root"]) fun _ _ _ _ _ _ us hl => by obtain ⟨_, _, rfl⟩ := len2 hl; rfl
  have F55 := fun_mk (st := s_odd_step) l55 c55 k55
  have b55 := F55.binds (ps := ["_law_bag", "_law_step_z"]) fun _ _ _ _ _ _ us hl => by obtain ⟨_, _, rfl⟩ := len2 hl; rfl
  have F56 := fun_mk (st := s_lis_pair) l56 c56 k56
  have b56 := F56.binds (ps := ["_law_x"]) fun _ _ _ _ _ _ us hl => by obtain ⟨_, rfl⟩ := len1 hl; rfl
  have F57 := fun_mk (st := s_is_pairs) l57 c57 k57
  have b57 := F57.binds (ps := ["_law_x"]) fun _ _ _ _ _ _ us hl => by obtain ⟨_, rfl⟩ := len1 hl; rfl
  have F58 := fun_mk (st := s_at_least) l58 c58 k58
  have b58 := F58.binds (ps := ["_law_x", "_law_least"]) fun _ _ _ _ _ _ us hl => by obtain ⟨_, _, rfl⟩ := len2 hl; rfl
  have F59 := fun_mk (st := s_good_step) l59 c59 k59
  have b59 := F59.binds (ps := ["_law_step_z"]) fun _ _ _ _ _ _ us hl => by obtain ⟨_, rfl⟩ := len1 hl; rfl
  have F60 := fun_mk (st := s_field_of) l60 c60 k60
  have b60 := F60.binds (ps := ["_law_e"]) fun _ _ _ _ _ _ us hl => by obtain ⟨_, rfl⟩ := len1 hl; rfl
  have F61 := fun_mk (st := s_try) l61 c61 k61
  have b61 := F61.binds (ps := ["_law_ask"]) fun _ _ _ _ _ _ us hl => by obtain ⟨_, rfl⟩ := len1 hl; rfl
  have F62 := fun_mk (st := s_minus) l62 c62 k62
  have b62 := F62.binds (ps := ["_law_one", "_law_other"]) fun _ _ _ _ _ _ us hl => by obtain ⟨_, _, rfl⟩ := len2 hl; rfl
  have F63 := fun_mk (st := s_plus) l63 c63 k63
  have b63 := F63.binds (ps := ["_law_one", "_law_other"]) fun _ _ _ _ _ _ us hl => by obtain ⟨_, _, rfl⟩ := len2 hl; rfl
  have F64 := fun_mk (st := s_given) l64 c64 k64
  have b64 := F64.binds (ps := ["_law_step_z"]) fun _ _ _ _ _ _ us hl => by obtain ⟨_, rfl⟩ := len1 hl; rfl
  have F65 := fun_mk (st := s_reverse) l65 c65 k65
  have b65 := F65.binds (ps := ["_law_step_z"]) fun _ _ _ _ _ _ us hl => by obtain ⟨_, rfl⟩ := len1 hl; rfl
  have F66 := fun_mk (st := s_like) l66 c66 k66
  have b66 := F66.binds (ps := ["_law_found", "_law_due"]) fun _ _ _ _ _ _ us hl => by obtain ⟨_, _, rfl⟩ := len2 hl; rfl
  have F67 := fun_mk (st := s_stock_of) l67 c67 k67
  have b67 := F67.binds (ps := ["_law_rows"]) fun _ _ _ _ _ _ us hl => by obtain ⟨_, rfl⟩ := len1 hl; rfl
  have F68 := fun_mk (st := s_some_count) l68 c68 k68
  have b68 := F68.binds (ps := ["_law_bag"]) fun _ _ _ _ _ _ us hl => by obtain ⟨_, rfl⟩ := len1 hl; rfl
  have F69 := fun_mk (st := s_some_rows) l69 c69 k69
  have b69 := F69.binds (ps := ["_law_bag", "_law_root", "_law_most"]) fun _ _ _ _ _ _ us hl => by obtain ⟨_, _, _, rfl⟩ := len3 hl; rfl
  have F70 := fun_mk (st := s_big_rows) l70 c70 k70
  have b70 := F70.binds (ps := ["_law_bag", "_law_root", "_law_most"]) fun _ _ _ _ _ _ us hl => by obtain ⟨_, _, _, rfl⟩ := len3 hl; rfl
  have F71 := fun_mk (st := s_part_below) l71 c71 k71
  have b71 := F71.binds (ps := ["_law_bag", "_law_length", "_law_root"]) fun _ _ _ _ _ _ us hl => by obtain ⟨_, _, _, rfl⟩ := len3 hl; rfl
  have F72 := fun_mk (st := s_mate_of) l72 c72 k72
  have b72 := F72.binds (ps := ["_law_bag", "_law_stock", "_law_sheet", "_law_side"]) fun _ _ _ _ _ _ us hl => by obtain ⟨_, _, _, _, rfl⟩ := len4 hl; rfl
  have F73 := fun_mk (st := s_next_step) l73 c73 k73
  have b73 := F73.binds (ps := ["_law_bag", "_law_stock", "_law_root", "_law_turning_z"]) fun _ _ _ _ _ _ us hl => by obtain ⟨_, _, _, _, rfl⟩ := len4 hl; rfl
  have F74 := fun_mk (st := s_listed) l74 c74 k74
  have b74 := F74.binds (ps := ["_law_stock"]) fun _ _ _ _ _ _ us hl => by obtain ⟨_, rfl⟩ := len1 hl; rfl
  have F75 := fun_mk (st := s_heap_of) l75 c75 k75
  have b75 := F75.binds (ps := ["_law_root", "_law_stock"]) fun _ _ _ _ _ _ us hl => by obtain ⟨_, _, rfl⟩ := len2 hl; rfl
  have F76 := fun_mk (st := s_is_heap) l76 c76 k76
  have b76 := F76.binds (ps := ["_law_heap", "_law_root", "_law_stock"]) fun _ _ _ _ _ _ us hl => by obtain ⟨_, _, _, rfl⟩ := len3 hl; rfl
  have F77 := fun_mk (st := s_law) l77 c77 k77
  obtain ⟨T, eSHAPES⟩ : ∃ T : Txt K mg, T.u_SHAPES = u_SHAPES := ⟨{
    f_whole_root := f0
    d_whole_root := _
    F_whole_root := F0
    g_whole_root := PySem.W.mg_of X G a0
    b_whole_root := b0
    f_is_root := f1
    d_is_root := _
    F_is_root := F1
    g_is_root := PySem.W.mg_of X G a1
    b_is_root := b1
    f_check_root := f2
    d_check_root := _
    F_check_root := F2
    g_check_root := PySem.W.mg_of X G a2
    b_check_root := b2
    f_sign := f3
    d_sign := _
    F_sign := F3
    g_sign := PySem.W.mg_of X G a3
    b_sign := b3
    f_is_length := f4
    d_is_length := _
    F_is_length := F4
    g_is_length := PySem.W.mg_of X G a4
    b_is_length := b4
    f_added := f5
    d_added := _
    F_added := F5
    g_added := PySem.W.mg_of X G a5
    f_scaled := f6
    d_scaled := _
    F_scaled := F6
    g_scaled := PySem.W.mg_of X G a6
    b_scaled := b6
    f_is_sheet := f7
    d_is_sheet := _
    F_is_sheet := F7
    g_is_sheet := PySem.W.mg_of X G a7
    b_is_sheet := b7
    f_turned := f8
    d_turned := _
    F_turned := F8
    g_turned := PySem.W.mg_of X G a8
    b_turned := b8
    f_check_rows := f9
    d_check_rows := _
    F_check_rows := F9
    g_check_rows := PySem.W.mg_of X G a9
    b_check_rows := b9
    f_merged := f10
    d_merged := _
    F_merged := F10
    g_merged := PySem.W.mg_of X G a10
    b_merged := b10
    C_Heap := C_Heap
    cl_Heap := .mk pg_Heap hd_Heap po_Heap sa_Heap
    g_Heap := PySem.W.mg_of X G aC_Heap
    sf_Heap := sf_Heap
    nq_Heap := nq_Heap
    n_Heap_held_root := n_Heap_held_root
    n_Heap_copies := n_Heap_copies
    M_Heap := .mk mk_Heap a11 i11 kc_Heap
    mo_Heap := mo_Heap
    ne_Heap := ne_Heap
    ca_Heap := ca_Heap
    x_Heap_rmul := x_Heap_rmul
    i_mul := i_mul
    i_rmul := i_rmul
    is_Heap := is_Heap
    f_Heap_init := f11
    d_Heap_init := _
    r0_Heap_init := r011
    F_Heap_init := F11
    b_Heap_init := b11
    b0_Heap_init := e11
    v0_Heap_init := .cons rfl .nil
    z0_Heap_init := .mk y11a
    p_Heap_root := p12
    pr_Heap_root := PropOf.mk a12 gp12 tp12 (.intro _ rp12)
    f_Heap_root := f12
    d_Heap_root := _
    F_Heap_root := F12
    b_Heap_root := b12
    m_Heap_rows := .mk a13 i13 k13
    f_Heap_rows := f13
    d_Heap_rows := _
    F_Heap_rows := F13
    b_Heap_rows := b13
    m_Heap_eq := .mk a14 i14 k14
    f_Heap_eq := f14
    d_Heap_eq := _
    F_Heap_eq := F14
    b_Heap_eq := b14
    f_is_pair := f15
    d_is_pair := _
    F_is_pair := F15
    g_is_pair := PySem.W.mg_of X G a15
    b_is_pair := b15
    f_is_two_pairs := f16
    d_is_two_pairs := _
    F_is_two_pairs := F16
    g_is_two_pairs := PySem.W.mg_of X G a16
    b_is_two_pairs := b16
    f_fits := f17
    d_fits := _
    F_fits := F17
    g_fits := PySem.W.mg_of X G a17
    b_fits := b17
    f_has_shape := f18
    d_has_shape := _
    F_has_shape := F18
    g_has_shape := PySem.W.mg_of X G a18
    b_has_shape := b18
    f_side_of := f19
    d_side_of := _
    F_side_of := F19
    g_side_of := PySem.W.mg_of X G a19
    b_side_of := b19
    f_with_side := f20
    d_with_side := _
    F_with_side := F20
    g_with_side := PySem.W.mg_of X G a20
    b_with_side := b20
    f_is_even_split := f21
    d_is_even_split := _
    F_is_even_split := F21
    g_is_even_split := PySem.W.mg_of X G a21
    b_is_even_split := b21
    f_is_even_glue := f22
    d_is_even_glue := _
    F_is_even_glue := F22
    g_is_even_glue := PySem.W.mg_of X G a22
    b_is_even_glue := b22
    f_is_step := f23
    d_is_step := _
    F_is_step := F23
    g_is_step := PySem.W.mg_of X G a23
    b_is_step := b23
    f_check_steps := f24
    d_check_steps := _
    F_check_steps := F24
    g_check_steps := PySem.W.mg_of X G a24
    b_check_steps := b24
    f_is_allowed := f25
    d_is_allowed := _
    F_is_allowed := F25
    g_is_allowed := PySem.W.mg_of X G a25
    b_is_allowed := b25
    f_rest_of_saw := f26
    d_rest_of_saw := _
    F_rest_of_saw := F26
    g_rest_of_saw := PySem.W.mg_of X G a26
    b_rest_of_saw := b26
    f_reverse_of_saw := f27
    d_reverse_of_saw := _
    F_reverse_of_saw := F27
    g_reverse_of_saw := PySem.W.mg_of X G a27
    b_reverse_of_saw := b27
    f_reverse_of_glue := f28
    d_reverse_of_glue := _
    F_reverse_of_glue := F28
    g_reverse_of_glue := PySem.W.mg_of X G a28
    b_reverse_of_glue := b28
    f_reverse_of_split := f29
    d_reverse_of_split := _
    F_reverse_of_split := F29
    g_reverse_of_split := PySem.W.mg_of X G a29
    b_reverse_of_split := b29
    f_reverse_of_stack := f30
    d_reverse_of_stack := _
    F_reverse_of_stack := F30
    g_reverse_of_stack := PySem.W.mg_of X G a30
    b_reverse_of_stack := b30
    f_reverse_of := f31
    d_reverse_of := _
    F_reverse_of := F31
    g_reverse_of := PySem.W.mg_of X G a31
    b_reverse_of := b31
    f_back_of := f32
    d_back_of := _
    F_back_of := F32
    g_back_of := PySem.W.mg_of X G a32
    b_back_of := b32
    f_needs_of := f33
    d_needs_of := _
    F_needs_of := F33
    g_needs_of := PySem.W.mg_of X G a33
    b_needs_of := b33
    f_saws_lengths := f34
    d_saws_lengths := _
    F_saws_lengths := F34
    g_saws_lengths := PySem.W.mg_of X G a34
    b_saws_lengths := b34
    f_check_possible := f35
    d_check_possible := _
    F_check_possible := F35
    g_check_possible := PySem.W.mg_of X G a35
    b_check_possible := b35
    f_counts_of := f36
    d_counts_of := _
    F_counts_of := F36
    g_counts_of := PySem.W.mg_of X G a36
    b_counts_of := b36
    f_take_rows := f37
    d_take_rows := _
    F_take_rows := F37
    g_take_rows := PySem.W.mg_of X G a37
    b_take_rows := b37
    f_put_rows := f38
    d_put_rows := _
    F_put_rows := F38
    g_put_rows := PySem.W.mg_of X G a38
    b_put_rows := b38
    f_change_counts := f39
    d_change_counts := _
    F_change_counts := F39
    g_change_counts := PySem.W.mg_of X G a39
    b_change_counts := b39
    f_after := f40
    d_after := _
    F_after := F40
    g_after := PySem.W.mg_of X G a40
    b_after := b40
    f_apply_steps := f41
    d_apply_steps := _
    F_apply_steps := F41
    g_apply_steps := PySem.W.mg_of X G a41
    b_apply_steps := b41
    f_source := f42
    d_source := _
    F_source := F42
    g_source := PySem.W.mg_of X G a42
    b_source := b42
    f_pull := f43
    d_pull := _
    F_pull := F43
    g_pull := PySem.W.mg_of X G a43
    b_pull := b43
    f_of := f44
    d_of := _
    F_of := F44
    g_of := PySem.W.mg_of X G a44
    b_of := b44
    f_roots := f45
    d_roots := _
    F_roots := F45
    g_roots := PySem.W.mg_of X G a45
    b_roots := b45
    f_a_root := f46
    d_a_root := _
    F_a_root := F46
    g_a_root := PySem.W.mg_of X G a46
    b_a_root := b46
    f_any_pair := f47
    d_any_pair := _
    F_any_pair := F47
    g_any_pair := PySem.W.mg_of X G a47
    b_any_pair := b47
    f_lsign := f48
    d_lsign := _
    F_lsign := F48
    g_lsign := PySem.W.mg_of X G a48
    b_lsign := b48
    f_a_length := f49
    d_a_length := _
    F_a_length := F49
    g_a_length := PySem.W.mg_of X G a49
    b_a_length := b49
    f_a_sheet := f50
    d_a_sheet := _
    F_a_sheet := F50
    g_a_sheet := PySem.W.mg_of X G a50
    b_a_sheet := b50
    f_lscaled := f51
    d_lscaled := _
    F_lscaled := F51
    g_lscaled := PySem.W.mg_of X G a51
    b_lscaled := b51
    f_lside_of := f52
    d_lside_of := _
    F_lside_of := F52
    g_lside_of := PySem.W.mg_of X G a52
    b_lside_of := b52
    f_with := f53
    d_with := _
    F_with := F53
    g_with := PySem.W.mg_of X G a53
    b_with := b53
    f_any_step := f54
    d_any_step := _
    F_any_step := F54
    g_any_step := PySem.W.mg_of X G a54
    b_any_step := b54
    f_odd_step := f55
    d_odd_step := _
    F_odd_step := F55
    g_odd_step := PySem.W.mg_of X G a55
    b_odd_step := b55
    f_lis_pair := f56
    d_lis_pair := _
    F_lis_pair := F56
    g_lis_pair := PySem.W.mg_of X G a56
    b_lis_pair := b56
    f_is_pairs := f57
    d_is_pairs := _
    F_is_pairs := F57
    g_is_pairs := PySem.W.mg_of X G a57
    b_is_pairs := b57
    f_at_least := f58
    d_at_least := _
    F_at_least := F58
    g_at_least := PySem.W.mg_of X G a58
    b_at_least := b58
    f_good_step := f59
    d_good_step := _
    F_good_step := F59
    g_good_step := PySem.W.mg_of X G a59
    b_good_step := b59
    f_field_of := f60
    d_field_of := _
    F_field_of := F60
    g_field_of := PySem.W.mg_of X G a60
    b_field_of := b60
    f_try := f61
    d_try := _
    F_try := F61
    g_try := PySem.W.mg_of X G a61
    b_try := b61
    f_minus := f62
    d_minus := _
    F_minus := F62
    g_minus := PySem.W.mg_of X G a62
    b_minus := b62
    f_plus := f63
    d_plus := _
    F_plus := F63
    g_plus := PySem.W.mg_of X G a63
    b_plus := b63
    f_given := f64
    d_given := _
    F_given := F64
    g_given := PySem.W.mg_of X G a64
    b_given := b64
    f_reverse := f65
    d_reverse := _
    F_reverse := F65
    g_reverse := PySem.W.mg_of X G a65
    b_reverse := b65
    f_like := f66
    d_like := _
    F_like := F66
    g_like := PySem.W.mg_of X G a66
    b_like := b66
    f_stock_of := f67
    d_stock_of := _
    F_stock_of := F67
    g_stock_of := PySem.W.mg_of X G a67
    b_stock_of := b67
    f_some_count := f68
    d_some_count := _
    F_some_count := F68
    g_some_count := PySem.W.mg_of X G a68
    b_some_count := b68
    f_some_rows := f69
    d_some_rows := _
    F_some_rows := F69
    g_some_rows := PySem.W.mg_of X G a69
    b_some_rows := b69
    f_big_rows := f70
    d_big_rows := _
    F_big_rows := F70
    g_big_rows := PySem.W.mg_of X G a70
    b_big_rows := b70
    f_part_below := f71
    d_part_below := _
    F_part_below := F71
    g_part_below := PySem.W.mg_of X G a71
    b_part_below := b71
    f_mate_of := f72
    d_mate_of := _
    F_mate_of := F72
    g_mate_of := PySem.W.mg_of X G a72
    b_mate_of := b72
    f_next_step := f73
    d_next_step := _
    F_next_step := F73
    g_next_step := PySem.W.mg_of X G a73
    b_next_step := b73
    f_listed := f74
    d_listed := _
    F_listed := F74
    g_listed := PySem.W.mg_of X G a74
    b_listed := b74
    f_heap_of := f75
    d_heap_of := _
    F_heap_of := F75
    g_heap_of := PySem.W.mg_of X G a75
    b_heap_of := b75
    f_is_heap := f76
    d_is_heap := _
    F_is_heap := F76
    g_is_heap := PySem.W.mg_of X G a76
    b_is_heap := b76
    n_ValueError := PySem.W.mg_none_of X G z0
    n_LookupError := PySem.W.mg_none_of X G z1
    n_IndexError := PySem.W.mg_none_of X G z2
    n_enumerate := PySem.W.mg_none_of X G z3
    n_isinstance := PySem.W.mg_none_of X G z4
    n_range := PySem.W.mg_none_of X G z5
    n_str := PySem.W.mg_none_of X G z6
    n_sum := PySem.W.mg_none_of X G z7
    n_list := PySem.W.mg_none_of X G z8
    n_bool := PySem.W.mg_none_of X G z9
    n_len := PySem.W.mg_none_of X G z10
    n_tuple := PySem.W.mg_none_of X G z11
    n_int := PySem.W.mg_none_of X G z12
    n_all := PySem.W.mg_none_of X G z13
    n_abs := PySem.W.mg_none_of X G z14
    n_sorted := PySem.W.mg_none_of X G z15
    n_min := PySem.W.mg_none_of X G z16
    n_zip := PySem.W.mg_none_of X G z17
    kb_apply_steps_turning := kbn_apply_steps_turning F41
    kb_after_turning := kbn_after_turning F40
    kb_back_of_step := kbn_back_of_step F32
    r_GrainError := CGrainError
    g_GrainError := PySem.W.mg_of X G aGrainError
    c_GrainError := .intro _ ⟨cGrainError,nGrainError⟩
    t_GrainError := tGrainError
    sb_GrainError := sbGrainError
    r_GrainMissing := CGrainMissing
    g_GrainMissing := PySem.W.mg_of X G aGrainMissing
    c_GrainMissing := .intro _ ⟨cGrainMissing,nGrainMissing⟩
    t_GrainMissing := tGrainMissing
    sb_GrainMissing := sbGrainMissing
    e_BadRoot := E_BadRoot.e
    x_BadRoot_word := E_BadRoot.no _ (by simp)
    x_BadRoot_number := E_BadRoot.no _ (by simp)
    e_BadRow := E_BadRow.e
    x_BadRow_word := E_BadRow.no _ (by simp)
    x_BadRow_at := E_BadRow.no _ (by simp)
    e_BadStep := E_BadStep.e
    x_BadStep_word := E_BadStep.no _ (by simp)
    x_BadStep_at := E_BadStep.no _ (by simp)
    e_NothingLeft := E_NothingLeft.e
    x_NothingLeft_word := E_NothingLeft.no _ (by simp)
    hn := hn
    ht := ht
    u_SHAPES := u_SHAPES
    g_SHAPES := PySem.W.mg_of X G a_SHAPES
    p_SHAPES_saw := p_SHAPES_saw
    h_SHAPES_saw := h_SHAPES_saw
    q_SHAPES_saw := fun _ => .inr ⟨_, _, _, l_SHAPES_saw, rfl, rfl, Nat.le_of_lt (small1000 (show 4 ≤ 1000 from of_decide_eq_true rfl)), (.cons ⟨_, rfl⟩ (.cons ⟨_, rfl⟩ (.cons ⟨_, rfl⟩ (.cons ⟨_, rfl⟩ .nil))))⟩
    p_SHAPES_split := p_SHAPES_split
    h_SHAPES_split := h_SHAPES_split
    q_SHAPES_split := fun _ => .inr ⟨_, _, _, l_SHAPES_split, rfl, rfl, Nat.le_of_lt (small1000 (show 4 ≤ 1000 from of_decide_eq_true rfl)), (.cons ⟨_, rfl⟩ (.cons ⟨_, rfl⟩ (.cons ⟨_, rfl⟩ (.cons ⟨_, rfl⟩ .nil))))⟩
    p_SHAPES_glue := p_SHAPES_glue
    h_SHAPES_glue := h_SHAPES_glue
    q_SHAPES_glue := fun _ => .inr ⟨_, _, _, l_SHAPES_glue, rfl, rfl, Nat.le_of_lt (small1000 (show 4 ≤ 1000 from of_decide_eq_true rfl)), (.cons ⟨_, rfl⟩ (.cons ⟨_, rfl⟩ (.cons ⟨_, rfl⟩ (.cons ⟨_, rfl⟩ .nil))))⟩
    p_SHAPES_stack := p_SHAPES_stack
    h_SHAPES_stack := h_SHAPES_stack
    q_SHAPES_stack := fun _ => .inr ⟨_, _, _, l_SHAPES_stack, rfl, rfl, Nat.le_of_lt (small1000 (show 4 ≤ 1000 from of_decide_eq_true rfl)), (.cons ⟨_, rfl⟩ (.cons ⟨_, rfl⟩ (.cons ⟨_, rfl⟩ (.cons ⟨_, rfl⟩ .nil))))⟩
    p_SHAPES_turn := p_SHAPES_turn
    h_SHAPES_turn := h_SHAPES_turn
    q_SHAPES_turn := fun _ => .inr ⟨_, _, _, l_SHAPES_turn, rfl, rfl, Nat.le_of_lt (small1000 (show 2 ≤ 1000 from of_decide_eq_true rfl)), (.cons ⟨_, rfl⟩ (.cons ⟨_, rfl⟩ .nil))⟩
    m0_SHAPES := m0_SHAPES
    m1_SHAPES := m1_SHAPES
    m2_SHAPES := m2_SHAPES
    m3_SHAPES := m3_SHAPES
    m4_SHAPES := m4_SHAPES
    cr_Heap := .mk rd_Heap gt_Heap
    s_SIDES := s_SIDES
    cv_SIDES := .mk a_SIDES rfl
    sq_SIDES := fun _ => .inr ⟨_, _, _, l_SIDES, rfl, rfl, Nat.le_of_lt (small1000 (show 2 ≤ 1000 from of_decide_eq_true rfl)), (.cons ⟨_, rfl⟩ (.cons ⟨_, rfl⟩ .nil))⟩ }, rfl⟩
  refine ⟨PySem.W.fnOf "law" "law" (defArgs s_law) (defBody s_law) (defScope s_law) .none kV77 dc77 pm77 an77 (.ref cL) ct77, [(cL, PL)], spLaw K PL, fun p hp => ?_, fun p hp => ?_, fun p hp => ?_, fun s v => .of_eq rfl, fun H a ns hl _ hP hS => ⟨a, ns, rfl, hS, hl, hP _ (List.mem_singleton.mpr rfl), fun _ => rfl⟩, fun base _ _ TB => ?_⟩
  · rw [List.mem_singleton.mp hp]
    exact tabL
  · rw [List.mem_singleton.mp hp]
    exact noL
  · rw [List.mem_singleton.mp hp]
    exact PySem.W.codeHd_of_K X hdL
  · rw [hprog]
    exact ok_law l77 c77 (TB _ (List.mem_singleton.mpr rfl)) T (by rw [eSHAPES]; exact ⟨_, _, kat_SHAPES, kl_SHAPES, klow_SHAPES⟩)
end Gy
open PySem PySem.W PyProof.Rows
set_option maxRecDepth 100000 in
set_option maxHeartbeats 0 in
theorem PySem.Challenge.cw_grainyard_k21_reverse_steps_holds : PySem.Challenge.rw_grainyard_k21_reverse_steps.Holds := by
  w_on; o_law; k_head; (case hw => w_witness2)
  k_fill
  refine LamX.walk_ofTs (l := PySem.Challenge.rw_grainyard_k21_reverse_steps) (n := 63) (k := 18) (x := "_law_script") (CX := fun _ => L2.CX0) rfl (by decide) rfl ⟨rfl, by decide, by decide⟩ (fun w h Y => PySem.W.km_in_of Y) ?F (fun _ _ _ _ _ h => h)
  case F =>
    intro w mg fa h Y KX G hmg
    have hT := PySem.W.km_tabs_of Y
    refine' Gy.all_mk KX G hmg rfl ?aC_Heap ?pg_Heap ?hd_Heap ?po_Heap ?sa_Heap ?mk_Heap ?kc_Heap ?sf_Heap ?nq_Heap ?n_Heap_held_root ?n_Heap_copies ?mo_Heap ?ne_Heap ?ca_Heap ?x_Heap_rmul ?i_mul ?i_rmul ?is_Heap ?a0 ?l0 ?c0 ?k0 ?a1 ?l1 ?c1 ?k1 ?a2 ?l2 ?c2 ?k2 ?a3 ?l3 ?c3 ?k3 ?a4 ?l4 ?c4 ?k4 ?a5 ?l5 ?c5 ?k5 ?a6 ?l6 ?c6 ?k6 ?a7 ?l7 ?c7 ?k7 ?a8 ?l8 ?c8 ?k8 ?a9 ?l9 ?c9 ?k9 ?a10 ?l10 ?c10 ?k10 ?a11 ?i11 ?l11 ?c11 ?k11 ?t11 ?y11a ?a12 ?gp12 ?tp12 ?rp12 ?l12 ?c12 ?k12 ?a13 ?i13 ?l13 ?c13 ?k13 ?a14 ?i14 ?l14 ?c14 ?k14 ?a15 ?l15 ?c15 ?k15 ?a16 ?l16 ?c16 ?k16 ?a17 ?l17 ?c17 ?k17 ?a18 ?l18 ?c18 ?k18 ?a19 ?l19 ?c19 ?k19 ?a20 ?l20 ?c20 ?k20 ?a21 ?l21 ?c21 ?k21 ?a22 ?l22 ?c22 ?k22 ?a23 ?l23 ?c23 ?k23 ?a24 ?l24 ?c24 ?k24 ?a25 ?l25 ?c25 ?k25 ?a26 ?l26 ?c26 ?k26 ?a27 ?l27 ?c27 ?k27 ?a28 ?l28 ?c28 ?k28 ?a29 ?l29 ?c29 ?k29 ?a30 ?l30 ?c30 ?k30 ?a31 ?l31 ?c31 ?k31 ?a32 ?l32 ?c32 ?k32 ?a33 ?l33 ?c33 ?k33 ?a34 ?l34 ?c34 ?k34 ?a35 ?l35 ?c35 ?k35 ?a36 ?l36 ?c36 ?k36 ?a37 ?l37 ?c37 ?k37 ?a38 ?l38 ?c38 ?k38 ?a39 ?l39 ?c39 ?k39 ?a40 ?l40 ?c40 ?k40 ?kd40 ?a41 ?l41 ?c41 ?k41 ?kd41 ?a42 ?l42 ?c42 ?k42 ?a43 ?l43 ?c43 ?k43 ?a44 ?l44 ?c44 ?k44 ?a45 ?l45 ?c45 ?k45 ?a46 ?l46 ?c46 ?k46 ?a47 ?l47 ?c47 ?k47 ?a48 ?l48 ?c48 ?k48 ?a49 ?l49 ?c49 ?k49 ?a50 ?l50 ?c50 ?k50 ?a51 ?l51 ?c51 ?k51 ?a52 ?l52 ?c52 ?k52 ?a53 ?l53 ?c53 ?k53 ?a54 ?l54 ?c54 ?k54 ?a55 ?l55 ?c55 ?k55 ?a56 ?l56 ?c56 ?k56 ?a57 ?l57 ?c57 ?k57 ?a58 ?l58 ?c58 ?k58 ?a59 ?l59 ?c59 ?k59 ?a60 ?l60 ?c60 ?k60 ?a61 ?l61 ?c61 ?k61 ?a62 ?l62 ?c62 ?k62 ?a63 ?l63 ?c63 ?k63 ?a64 ?l64 ?c64 ?k64 ?a65 ?l65 ?c65 ?k65 ?a66 ?l66 ?c66 ?k66 ?a67 ?l67 ?c67 ?k67 ?a68 ?l68 ?c68 ?k68 ?a69 ?l69 ?c69 ?k69 ?a70 ?l70 ?c70 ?k70 ?a71 ?l71 ?c71 ?k71 ?a72 ?l72 ?c72 ?k72 ?a73 ?l73 ?c73 ?k73 ?a74 ?l74 ?c74 ?k74 ?a75 ?l75 ?c75 ?k75 ?a76 ?l76 ?c76 ?k76 ?a77 ?l77 ?c77 ?k77 ?z0 ?z1 ?z2 ?z3 ?z4 ?z5 ?z6 ?z7 ?z8 ?z9 ?z10 ?z11 ?z12 ?z13 ?z14 ?z15 ?z16 ?z17 ?a_SHAPES ?kat_SHAPES ?kl_SHAPES ?klow_SHAPES ?h_SHAPES_saw ?l_SHAPES_saw ?h_SHAPES_split ?l_SHAPES_split ?h_SHAPES_glue ?l_SHAPES_glue ?h_SHAPES_stack ?l_SHAPES_stack ?h_SHAPES_turn ?l_SHAPES_turn ?m0_SHAPES ?m1_SHAPES ?m2_SHAPES ?m3_SHAPES ?m4_SHAPES ?rd_Heap ?gt_Heap ?a_SIDES ?l_SIDES ?hn ?ht ?aGrainError ?cGrainError ?nGrainError ?tGrainError ?sbGrainError ?aGrainMissing ?cGrainMissing ?nGrainMissing ?tGrainMissing ?sbGrainMissing ?E_BadRoot ?E_BadRow ?E_BadStep ?E_NothingLeft ?tabL ?noL ?hdL
    (case aC_Heap => k_is); (case pg_Heap => k_is); (case hd_Heap => k_is); (case po_Heap => k_is); (case sa_Heap => k_is); (case mk_Heap => k_is); (case kc_Heap => k_is); (case sf_Heap => k_is); (case nq_Heap => k_is); (case n_Heap_held_root => k_is); (case n_Heap_copies => k_is); (case mo_Heap => k_is); (case ne_Heap => k_is); (case ca_Heap => k_is); (case x_Heap_rmul => k_is); (case i_mul => k_is); (case i_rmul => k_is); (case is_Heap => k_is); (case a0 => k_is); (case l0 => k_is); (case c0 => k_is); (case k0 => k_is); (case a1 => k_is); (case l1 => k_is); (case c1 => k_is); (case k1 => k_is); (case a2 => k_is); (case l2 => k_is); (case c2 => k_is); (case k2 => k_is); (case a3 => k_is); (case l3 => k_is); (case c3 => k_is); (case k3 => k_is); (case a4 => k_is); (case l4 => k_is); (case c4 => k_is); (case k4 => k_is); (case a5 => k_is); (case l5 => k_is); (case c5 => k_is); (case k5 => k_is); (case a6 => k_is); (case l6 => k_is); (case c6 => k_is); (case k6 => k_is); (case a7 => k_is); (case l7 => k_is); (case c7 => k_is); (case k7 => k_is); (case a8 => k_is); (case l8 => k_is); (case c8 => k_is); (case k8 => k_is); (case a9 => k_is); (case l9 => k_is); (case c9 => k_is); (case k9 => k_is); (case a10 => k_is); (case l10 => k_is); (case c10 => k_is); (case k10 => k_is); (case a11 => k_is); (case i11 => k_is); (case l11 => k_is); (case c11 => k_is); (case k11 => k_is); (case t11 => k_is); (case y11a => k_is); (case a12 => k_is); (case gp12 => k_is); (case tp12 => k_is); (case rp12 => k_is); (case l12 => k_is); (case c12 => k_is); (case k12 => k_is); (case a13 => k_is); (case i13 => k_is); (case l13 => k_is); (case c13 => k_is); (case k13 => k_is); (case a14 => k_is); (case i14 => k_is); (case l14 => k_is); (case c14 => k_is); (case k14 => k_is); (case a15 => k_is); (case l15 => k_is); (case c15 => k_is); (case k15 => k_is); (case a16 => k_is); (case l16 => k_is); (case c16 => k_is); (case k16 => k_is); (case a17 => k_is); (case l17 => k_is); (case c17 => k_is); (case k17 => k_is); (case a18 => k_is); (case l18 => k_is); (case c18 => k_is); (case k18 => k_is); (case a19 => k_is); (case l19 => k_is); (case c19 => k_is); (case k19 => k_is); (case a20 => k_is); (case l20 => k_is); (case c20 => k_is); (case k20 => k_is); (case a21 => k_is); (case l21 => k_is); (case c21 => k_is); (case k21 => k_is); (case a22 => k_is); (case l22 => k_is); (case c22 => k_is); (case k22 => k_is); (case a23 => k_is); (case l23 => k_is); (case c23 => k_is); (case k23 => k_is); (case a24 => k_is); (case l24 => k_is); (case c24 => k_is); (case k24 => k_is); (case a25 => k_is); (case l25 => k_is); (case c25 => k_is); (case k25 => k_is); (case a26 => k_is); (case l26 => k_is); (case c26 => k_is); (case k26 => k_is); (case a27 => k_is); (case l27 => k_is); (case c27 => k_is); (case k27 => k_is); (case a28 => k_is); (case l28 => k_is); (case c28 => k_is); (case k28 => k_is); (case a29 => k_is); (case l29 => k_is); (case c29 => k_is); (case k29 => k_is); (case a30 => k_is); (case l30 => k_is); (case c30 => k_is); (case k30 => k_is); (case a31 => k_is); (case l31 => k_is); (case c31 => k_is); (case k31 => k_is); (case a32 => k_is); (case l32 => k_is); (case c32 => k_is); (case k32 => k_is); (case a33 => k_is); (case l33 => k_is); (case c33 => k_is); (case k33 => k_is); (case a34 => k_is); (case l34 => k_is); (case c34 => k_is); (case k34 => k_is); (case a35 => k_is); (case l35 => k_is); (case c35 => k_is); (case k35 => k_is); (case a36 => k_is); (case l36 => k_is); (case c36 => k_is); (case k36 => k_is); (case a37 => k_is); (case l37 => k_is); (case c37 => k_is); (case k37 => k_is); (case a38 => k_is); (case l38 => k_is); (case c38 => k_is); (case k38 => k_is); (case a39 => k_is); (case l39 => k_is); (case c39 => k_is); (case k39 => k_is); (case a40 => k_is); (case l40 => k_is); (case c40 => k_is); (case k40 => k_is); (case kd40 => k_is); (case a41 => k_is); (case l41 => k_is); (case c41 => k_is); (case k41 => k_is); (case kd41 => k_is); (case a42 => k_is); (case l42 => k_is); (case c42 => k_is); (case k42 => k_is); (case a43 => k_is); (case l43 => k_is); (case c43 => k_is); (case k43 => k_is); (case a44 => k_is); (case l44 => k_is); (case c44 => k_is); (case k44 => k_is); (case a45 => k_is); (case l45 => k_is); (case c45 => k_is); (case k45 => k_is); (case a46 => k_is); (case l46 => k_is); (case c46 => k_is); (case k46 => k_is); (case a47 => k_is); (case l47 => k_is); (case c47 => k_is); (case k47 => k_is); (case a48 => k_is); (case l48 => k_is); (case c48 => k_is); (case k48 => k_is); (case a49 => k_is); (case l49 => k_is); (case c49 => k_is); (case k49 => k_is); (case a50 => k_is); (case l50 => k_is); (case c50 => k_is); (case k50 => k_is); (case a51 => k_is); (case l51 => k_is); (case c51 => k_is); (case k51 => k_is); (case a52 => k_is); (case l52 => k_is); (case c52 => k_is); (case k52 => k_is); (case a53 => k_is); (case l53 => k_is); (case c53 => k_is); (case k53 => k_is); (case a54 => k_is); (case l54 => k_is); (case c54 => k_is); (case k54 => k_is); (case a55 => k_is); (case l55 => k_is); (case c55 => k_is); (case k55 => k_is); (case a56 => k_is); (case l56 => k_is); (case c56 => k_is); (case k56 => k_is); (case a57 => k_is); (case l57 => k_is); (case c57 => k_is); (case k57 => k_is); (case a58 => k_is); (case l58 => k_is); (case c58 => k_is); (case k58 => k_is); (case a59 => k_is); (case l59 => k_is); (case c59 => k_is); (case k59 => k_is); (case a60 => k_is); (case l60 => k_is); (case c60 => k_is); (case k60 => k_is); (case a61 => k_is); (case l61 => k_is); (case c61 => k_is); (case k61 => k_is); (case a62 => k_is); (case l62 => k_is); (case c62 => k_is); (case k62 => k_is); (case a63 => k_is); (case l63 => k_is); (case c63 => k_is); (case k63 => k_is); (case a64 => k_is); (case l64 => k_is); (case c64 => k_is); (case k64 => k_is); (case a65 => k_is); (case l65 => k_is); (case c65 => k_is); (case k65 => k_is); (case a66 => k_is); (case l66 => k_is); (case c66 => k_is); (case k66 => k_is); (case a67 => k_is); (case l67 => k_is); (case c67 => k_is); (case k67 => k_is); (case a68 => k_is); (case l68 => k_is); (case c68 => k_is); (case k68 => k_is); (case a69 => k_is); (case l69 => k_is); (case c69 => k_is); (case k69 => k_is); (case a70 => k_is); (case l70 => k_is); (case c70 => k_is); (case k70 => k_is); (case a71 => k_is); (case l71 => k_is); (case c71 => k_is); (case k71 => k_is); (case a72 => k_is); (case l72 => k_is); (case c72 => k_is); (case k72 => k_is); (case a73 => k_is); (case l73 => k_is); (case c73 => k_is); (case k73 => k_is); (case a74 => k_is); (case l74 => k_is); (case c74 => k_is); (case k74 => k_is); (case a75 => k_is); (case l75 => k_is); (case c75 => k_is); (case k75 => k_is); (case a76 => k_is); (case l76 => k_is); (case c76 => k_is); (case k76 => k_is); (case a77 => k_is); (case l77 => k_is); (case c77 => k_is); (case k77 => k_is); (case z0 => k_is); (case z1 => k_is); (case z2 => k_is); (case z3 => k_is); (case z4 => k_is); (case z5 => k_is); (case z6 => k_is); (case z7 => k_is); (case z8 => k_is); (case z9 => k_is); (case z10 => k_is); (case z11 => k_is); (case z12 => k_is); (case z13 => k_is); (case z14 => k_is); (case z15 => k_is); (case z16 => k_is); (case z17 => k_is); (case a_SHAPES => k_is); (case kat_SHAPES => k_is); (case kl_SHAPES => exact ⟨⟨_, _, rfl, rfl⟩, ⟨⟨_, _, rfl, rfl⟩, ⟨⟨_, _, rfl, rfl⟩, ⟨⟨_, _, rfl, rfl⟩, ⟨⟨_, _, rfl, rfl⟩, trivial⟩⟩⟩⟩⟩); (case klow_SHAPES => first | rfl | decide); (case h_SHAPES_saw => k_is); (case l_SHAPES_saw => k_is); (case h_SHAPES_split => k_is); (case l_SHAPES_split => k_is); (case h_SHAPES_glue => k_is); (case l_SHAPES_glue => k_is); (case h_SHAPES_stack => k_is); (case l_SHAPES_stack => k_is); (case h_SHAPES_turn => k_is); (case l_SHAPES_turn => k_is); (case m0_SHAPES => k_is); (case m1_SHAPES => k_is); (case m2_SHAPES => k_is); (case m3_SHAPES => k_is); (case m4_SHAPES => k_is); (case rd_Heap => k_is); (case gt_Heap => k_is); (case a_SIDES => k_is); (case l_SIDES => k_is); (case hn => k_is); (case ht => k_is); (case aGrainError => k_is); (case cGrainError => k_is); (case nGrainError => rfl); (case tGrainError => k_is); (case sbGrainError => k_is); (case aGrainMissing => k_is); (case cGrainMissing => k_is); (case nGrainMissing => rfl); (case tGrainMissing => k_is); (case sbGrainMissing => k_is); (case E_BadRoot => refine' Gy.erw2 (P := PySem.Challenge.pw_grainyard_k21_reverse_steps) KX G ?op ?nsu (by decide +kernel) (by decide +kernel) (by decide +kernel) ?ht rfl rfl (by decide +kernel) (by decide +kernel) (by decide +kernel) (by decide +kernel) ?aC ?lC ?aI ?lI ?cI ?lc ?lco ?sa ?ga ?gt ?kp ?cl ?su ?hvs ?hfi ?x0 ?x1; (case op => k_is); (case nsu => k_is); (case aC => k_is); (case lC => k_is); (case ht => decide +kernel); (case aI => k_is); (case lI => k_is); (case cI => k_is); (case lc => k_is); (case lco => k_is); (case sa => k_is); (case ga => k_is); (case gt => k_is); (case kp => k_is); (case cl => k_is); (case su => first | k_is | ks_is); (case hvs => rfl); (case hfi => decide +kernel); (case x0 => k_is); (case x1 => k_is)); (case E_BadRow => refine' Gy.erw2 (P := PySem.Challenge.pw_grainyard_k21_reverse_steps) KX G ?op ?nsu (by decide +kernel) (by decide +kernel) (by decide +kernel) ?ht rfl rfl (by decide +kernel) (by decide +kernel) (by decide +kernel) (by decide +kernel) ?aC ?lC ?aI ?lI ?cI ?lc ?lco ?sa ?ga ?gt ?kp ?cl ?su ?hvs ?hfi ?x0 ?x1; (case op => k_is); (case nsu => k_is); (case aC => k_is); (case lC => k_is); (case ht => decide +kernel); (case aI => k_is); (case lI => k_is); (case cI => k_is); (case lc => k_is); (case lco => k_is); (case sa => k_is); (case ga => k_is); (case gt => k_is); (case kp => k_is); (case cl => k_is); (case su => first | k_is | ks_is); (case hvs => rfl); (case hfi => decide +kernel); (case x0 => k_is); (case x1 => k_is)); (case E_BadStep => refine' Gy.erw2 (P := PySem.Challenge.pw_grainyard_k21_reverse_steps) KX G ?op ?nsu (by decide +kernel) (by decide +kernel) (by decide +kernel) ?ht rfl rfl (by decide +kernel) (by decide +kernel) (by decide +kernel) (by decide +kernel) ?aC ?lC ?aI ?lI ?cI ?lc ?lco ?sa ?ga ?gt ?kp ?cl ?su ?hvs ?hfi ?x0 ?x1; (case op => k_is); (case nsu => k_is); (case aC => k_is); (case lC => k_is); (case ht => decide +kernel); (case aI => k_is); (case lI => k_is); (case cI => k_is); (case lc => k_is); (case lco => k_is); (case sa => k_is); (case ga => k_is); (case gt => k_is); (case kp => k_is); (case cl => k_is); (case su => first | k_is | ks_is); (case hvs => rfl); (case hfi => decide +kernel); (case x0 => k_is); (case x1 => k_is)); (case E_NothingLeft => refine' Gy.erw1 (P := PySem.Challenge.pw_grainyard_k21_reverse_steps) KX G ?op ?nsu (by decide +kernel) (by decide +kernel) (by decide +kernel) ?ht rfl rfl (by decide +kernel) (by decide +kernel) (by decide +kernel) (by decide +kernel) ?aC ?lC ?aI ?lI ?cI ?lc ?lco ?sa ?ga ?gt ?kp ?cl ?su ?hvs ?hfi ?x0; (case op => k_is); (case nsu => k_is); (case aC => k_is); (case lC => k_is); (case ht => decide +kernel); (case aI => k_is); (case lI => k_is); (case cI => k_is); (case lc => k_is); (case lco => k_is); (case sa => k_is); (case ga => k_is); (case gt => k_is); (case kp => k_is); (case cl => k_is); (case su => first | k_is | ks_is); (case hvs => rfl); (case hfi => decide +kernel); (case x0 => k_is)); (case tabL => exact hT _ List.mem_cons_self); (case noL => kernel_rfl); (case hdL => kernel_rfl)

