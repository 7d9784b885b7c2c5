import PyProof.Rows.All
import Wide.All
import OpenK.AllK
import Wide.FinOn
import HandS.ForMost
import HandS.Wide
import HandS.WideBits
import HandS.IsInst
import HandS.Defaults
import HandS.Star
import HandS.Evl
import HandS.NoneIn
import HandS.Style
import HandS.SlotsOwn
import HandS.MakeKwOnly
import HandS.ForExc
import HandS.ExcInit
import HandS.MapJoin
import HandS.NestedK
import HandS.Lambda
import HandS.EndTab
import HandS.TryMany
import HandS.HotCalls
import HandS.ExcField
import HandS.ClsMeth
import KE.KExcSuper
import KE.KExcIs
import KE.KOpsOwn
import KE.KNestM
import HandS.Property
import KE.DataEq
import HandS.Deep
import HandS.TupAny
import HandS.Zip
import HandS.Dict
import HandS.More
import HandS.FStr
import HandS.Text
import HandS.RaiseMore
import HandS.DictComp
import HandS.DictTup
import HandS.Conv
import HandS.Comp
import KE.KDictKeyed
import KE.KeyNested
import KE.SortData
import KE.KDictItemsList
import KE.GoesMore
import HandS.Walk
import HandS.StrMore
import HandS.GenList
import HandS.RepeatKit
import PySem.Challenge.RW_grainyard_k06_fractions_one_by_one
set_option Elab.async false
set_option linter.all false
set_option maxRecDepth 100000
set_option maxHeartbeats 4000000
namespace Gy
open PySem PySem.Spec PyProof.Rows L2
/-! ### an error's fields, wherever its object is pinned -/
section
variable {X : Cx} {a : Addr} {oe : Obj} {cls : Value} {d : Option Addr} {e : Expr} {te : TE} {pos : Pos} {n : Str}
/-- a.f of the error at a whose class is cls and whose dict stands at d -/
def tXfA (K : PySem.W.Frag) (a : Addr) (cls : Value) (d : Option Addr) (f : Str) (te : TE) : TE := fun σ H Q => te σ H fun x H1 => x = .ref a ∧
  ∃ (C dd : Addr) (fs : List (Str × V)) (v : V), cls = .ref C ∧ d = some dd ∧ XfC K C ∧ PySem.W.findIn K (.ref C) f = some none ∧ H1 dd = some (.xd fs) ∧ fs.lookup f = some v ∧ Q v H1
theorem pe_xfG (hp : (a, oe) ∈ X.pn) (hz : Zc cls d oe) (hf : ∃ vs, oe.data = .fields vs) (he : PE X e te) (hb : attributeBase e n X.env (eval e X.env) = eval e X.env := by rfl) : PE X (.Attribute e n pos) (tXfA X.K a cls d n te) := by
  constructor
  intro pins s σ H Q I h
  apply attr_of hb
  refine thn (he.run pins s σ H _ I h) ?_
  rintro u s1 ⟨x, H1, I1, rx, rfl, C, dd, fs, v, rfl, rfl, XC, no, hd, hl, q⟩
  cases (show u = Value.ref a from rx)
  have at_a := (I1.pin (a, oe) (List.mem_append_left _ hp)).1
  obtain ⟨ws, dat⟩ := hf
  obtain ⟨mA, nsA, rel⟩ := (show ObjOk X.prog X.w H1 s1.heap dd (.xd fs) from I1.hok dd _ hd)
  obtain ⟨od, at_d, look⟩ := lookIn_ns nsA
  have rn := rel n
  rw [hl] at rn
  obtain ⟨u', hu', ru'⟩ := RelO.some_of rn
  have inst : PySem.W.InstAt s1.heap a oe C (some od) := by
    refine ⟨at_a, hz.1, ?_, ?_⟩
    · unfold PySem.W.notCls
      rw [dat] <;> rfl
    · rw [hz.2]
      exact at_d
  have found : PySem.W.lookIn n od = some (some u') := by rw [look, hu']
  exact HandSPX.exc_get I1.kIn inst XC.ga XC.gg XC.exC (PySem.W.findObj_own XC.hdC no rfl found) (handed_of ru') ⟨v, H1, I1.tok _, ru', q⟩
end
/-! ### try: .. except x as n: .., several clauses, one of which takes -/
/-- behind a suite its name is gone -/
def Dn (D : Ends) (i : Nat) : Ends := { nx := fun σ H => D.nx (σ.set i none) H, rt := D.rt, bk := fun σ H => D.bk (σ.set i none) H, ct := fun σ H => D.ct (σ.set i none) H }
def wAll (K : PySem.W.Frag) (D : Ends) (i : Nat) : List (Value × (Addr → Value → Option Addr → TS)) → WX
  | [] => fun _ _ _ _ => False
  | (c, ts) :: r => fun cls d σ H => ∃ b, PySem.W.exmOne K cls c = some b ∧ (b = true → ∀ a, H a = none → i < σ.length → ts a cls d (Dn D i) (σ.set i (some (.ref a))) H) ∧ (b = false → wAll K D i r cls d σ H)
inductive AsOk (X : Cx) (n : Str) : List ExceptHandler → List (Value × (Addr → Value → Option Addr → TS)) → Prop
  | nil : AsOk X n [] []
  | cons {x : Str} {c : Value} {ts : Addr → Value → Option Addr → TS} {b0 : Stmt} {su : List Stmt} {np p' : Pos} {hds : List ExceptHandler} {l : List (Value × (Addr → Value → Option Addr → TS))} (nm : Names X x c)
      (ok : ∀ (a : Addr) (oe : Obj) (cls : Value) (d : Option Addr) (pn : List (Addr × Obj)), Zc cls d oe → (∃ vs, oe.data = .fields vs) → PSs (X.suite a ((a, oe) :: pn)) (b0 :: su) (ts a cls d)) (r : AsOk X n hds l) :
      AsOk X n (.ExceptHandler (some (.Name x np)) (some n) (b0 :: su) p' :: hds) ((c, ts) :: l)
theorem not_frame {B h : Heap} {l : List Env} {a : Addr} {o : Obj} {vs : Array Value} (F : h.FunFrames B l) (at_a : h.get? a = some o) (dat : o.data = .fields vs) : a ∉ frs l := by
  intro m
  obtain ⟨_, o2, at2, nf⟩ := F.mem m
  cases at_a.symm.trans at2
  exact nf _ dat
section
variable {X : Cx} {n : Str} {i : Nat} {body : List Stmt} {h0 : ExceptHandler} {hds : List ExceptHandler} {l : List (Value × (Addr → Value → Option Addr → TS))} {pos : Pos} {tb : WX → TS}
theorem ps_tryAs (hs : X.stack = X.env :: X.outer) (hf : X.env.frame = some X.env.locals) (hN : X.N.Nodup) (hi : X.N[i]? = some n) (hln : X.env.kindOf n = some .local)
    (hb : ∀ (W : WX) (pn : List (Addr × Obj)) (xe : Value → Shared → Prop), Takes (X.tr pn xe) W → PassesOwn (model X.prog X.w) X.A X.env xe → PSs (X.tr pn xe) body (tb W))
    (hh : AsOk X n (h0 :: hds) l) : PS X (.Try body (h0 :: hds) [] [] pos) (fun D σ H => tb (wAll X.K D i l) D σ H) := by
  constructor
  intro pins s σ H D I h
  have ok := I.ok
  have frs_ : X.A.frames = some (X.env :: X.outer) := hs ▸ ok.frames
  have run := hb (wAll X.K D i l) (X.pn ++ pins) (fun e t1 => wpAny (model X.prog X.w) X.A (noteFrame e X.env) (fun _ t2 => wpAny (model X.prog X.w) X.A (setFlight e none) (fun _ t3 =>
    wpAny (model X.prog X.w) X.A (handleBy e X.env (h0 :: hds)) (SP X pins D) X.xe t3) X.xe t2) X.xe t1) ?air PassesOwn.looking
  case air =>
    rintro u t ⟨a, B, t0, pins0, σ1, H1, cls, d, rfl, I0, gr, up, sky, na, hos, bare, wish⟩
    have I1 : Inv X pins σ1 H1 t0 := I0.ofTry ok
    rw [show (X.tr (X.pn ++ pins) _).stack = X.env :: X.outer from hs] at sky
    show wpAny (model X.prog X.w) X.A (noteFrame (.ref a) X.env) _ _ _
    apply Sky.land Zc.steady frs_ hf sky
    intro g fly upg
    have Ig : Inv X pins σ1 H1 { t with heap := g } := I1.landed gr fly.1 (up.trans upg) hos bare
    obtain ⟨og, vg, at_g, zg, dg⟩ := fly.there
    have away := not_frame fly.2.2.1 at_g dg
    have awL : a ≠ X.env.locals := by
      intro z
      exact away (List.mem_filterMap.mpr ⟨X.env, List.mem_cons_self, by rw [hf, z]⟩)
    have awF : a ∉ X.fs := by
      intro m
      obtain ⟨en, men, q⟩ := List.mem_filterMap.mp m
      exact away (List.mem_filterMap.mpr ⟨en, List.mem_cons_of_mem _ men, q⟩)
    have Sg := Ig.suite at_g dg na awL awF
    have types : PySem.W.Looks (model X.prog X.w) g (typeOf (.ref a)) cls := by
      intro A' Q' E' t' k q
      apply wpAny_typeOf_ref (k _ _ at_g)
      rw [zg.1]
      exact q
    clear h
    have inside : i < σ1.length := by
      rw [I1.len]
      exact (List.getElem?_eq_some_iff.mp hi).1
    have clauses : ∀ {hs' : List ExceptHandler} {l' : List (Value × (Addr → Value → Option Addr → TS))}, AsOk X n hs' l' → wAll X.K D i l' cls d σ1 H1 → wpAny (model X.prog X.w) X.A (handleBy (.ref a) X.env hs') (SP X pins D) X.xe { t with heap := g } := by
      intro hs' l' A
      induction A with
      | nil => exact fun z => z.elim
      | @cons x c ts b0 su np p' hs2 l2 nm okS rest ih =>
        rintro ⟨b, mt, yes, no⟩
        refine wpAny_handleBy_cons (codeAny_handlers_test ?_) (by intro z; cases z)
        have meets := PySem.W.exm_one (M := model X.prog X.w) Ig.kIn types mt
        have name_ : ∀ {Q' : Value → Shared → Prop} {E' : Value → Shared → Prop}, Q' c { t with heap := g } → wpAny (model X.prog X.w) (X.A.mark (some (.ref a))) (eval (.Name x np) X.env) Q' E' { t with heap := g } := by
          intro Q' E' q
          rcases nm with ⟨gl, ndb, hm | ⟨hm, hv, nn⟩⟩
          · exact ld_glob (X := X.suite a ((a, og) :: (X.pn ++ pins))) Sg gl hm q ndb
          · exact ld_blt (X := X.suite a ((a, og) :: (X.pn ++ pins))) Sg gl hm hv q nn ndb
        apply name_
        apply meets.here
        cases b with
        | false => exact ih (no rfl)
        | true =>
          apply codeAny_handlers_suite_as
          apply HandSPX.lands_againZ fly
          intro k flk upk
          have Ik : Inv X pins σ1 H1 { t with heap := k } := I1.landed gr flk.1 ((up.trans upg).trans upk) hos bare
          obtain ⟨ok_, vk, at_k, zk, dk⟩ := flk.there
          have Sk := Ik.suite at_k dk na awL awF
          apply store_ok (X := X.suite a ((a, ok_) :: (X.pn ++ pins))) (v := .ref a) Sk hN hi (.inl hln) rfl _ (.inr hln)
          intro t5 S5
          have suite := (okS a ok_ cls d (X.pn ++ pins) zk ⟨_, dk⟩).run [] t5 _ H1 _ S5 (yes rfl a na inside)
          refine wpAny_mono suite (fun f t6 out => ?_) (fun _ _ z => z.elim)
          have away_ : ∀ {σ6 : L2.St} {H6 : Hp} {Q' : Shared → Prop}, Inv (X.suite a ((a, ok_) :: (X.pn ++ pins))) [] σ6 H6 t6 → (∀ t7, Inv X pins (σ6.set i none) H6 t7 → Q' t7) →
              wpAny (model X.prog X.w) X.A (do bindName X.env n .none; unbindBehindTheSuite X.env n p') (fun _ t7 => Q' t7) X.xe t6 := by
            intro σ6 H6 Q' S6 q
            exact gone_ok (S6.unsuite ok) hN hi hln q
          cases f with
          | next => obtain ⟨_, _, S6, q6⟩ := out; exact away_ S6 fun _ I7 => ⟨_, _, I7, q6⟩
          | brk => obtain ⟨_, _, S6, q6⟩ := out; exact away_ S6 fun _ I7 => ⟨_, _, I7, q6⟩
          | cont => obtain ⟨_, _, S6, q6⟩ := out; exact away_ S6 fun _ I7 => ⟨_, _, I7, q6⟩
          | ret u => obtain ⟨_, _, _, S6, r6, q6⟩ := out; exact away_ S6 fun _ I7 => ⟨_, _, _, I7, r6, q6⟩
    exact clauses hh wish
  apply wpAny_Try_except
  refine wpAny_mono (run.run [] s σ H D (I.toTry _) h) (fun f t1 out => ?_) (fun _ _ z => z)
  cases f with
  | next => obtain ⟨_, _, I1, q⟩ := out; exact wpAny_execs_nil ⟨_, _, I1.ofTry ok, q⟩
  | brk => obtain ⟨_, _, I1, q⟩ := out; exact ⟨_, _, I1.ofTry ok, q⟩
  | cont => obtain ⟨_, _, I1, q⟩ := out; exact ⟨_, _, I1.ofTry ok, q⟩
  | ret u => obtain ⟨_, _, _, I1, r, q⟩ := out; exact ⟨_, _, _, I1.ofTry ok, r, q⟩
end
/-! ### a def that is called while an error is handled: it raises nothing -/
structure FnP (P : Program) (w : World) (K : PySem.W.Frag) (mg : Str → Option Value) (base : Heap) (k : Nat) (f : Addr) (fd : FuncData) (ps : List Str) (sp : Addr → Value → Option Addr → Sp) : Prop where
  len : ∀ a cls d vs H Q E, sp a cls d vs H Q E → vs.length = ps.length
  run : ∀ (A : Around) (outer : List Env) (s : Shared) (H : Hp) (args : Args) (us : List Value) (vs : List V) (Q : VK) (E : XK) (p : Addr × Obj) (cls : Value) (d : Option Addr), L2H.RoomH k A → L2H.PinOk outer H s p → Zc cls d p.2 → (∃ vs, p.2.data = .fields vs) →
    Env0 P w K mg base A outer s H → BindsTo s fd args (ps.zip us) → Vals vs us → sp p.1 cls d vs H Q E → codeAny (model P w) A (.call (.ref f) args) (CR CX0 outer P w H s Q E) s
theorem fn_ofP {P : Program} {w : World} {K : PySem.W.Frag} {mg : Str → Option Value} {base : Heap} {k : Nat} {f : Addr} {x qual : Str} {st : Stmt} {fd : FuncData} {N ps : List Str} {sp : Addr → Value → Option Addr → Sp} (F : Fun K x qual st f fd) (S : FnScope N ps (defScope st))
    (len : ∀ a cls d vs H Q E, sp a cls d vs H Q E → vs.length = ps.length)
    (body : ∀ (cdv : Value) (A : Around) (outer : List Env) (s : Shared) (H : Hp) (vs : List V) (Q : VK) (E : XK) (p : Addr × Obj) (cls : Value) (d : Option Addr), Zc cls d p.2 → (∃ vs, p.2.data = .fields vs) → L2H.RoomH k (A.deeper (envOfC qual (defScope st) s.heap.objs.size f cdv)) → sp p.1 cls d vs H Q E →
      ∃ t, PSs (L2H.cxH CX0 P w K mg base N qual (defScope st) f cdv A outer s H E p) (defBody st) t ∧ t { nx := fun _ H' => Q .non H', rt := Q } (L2.start N vs) H) : FnP P w K mg base (k + 1) f fd ps sp := by
  obtain ⟨oc, od, kV, doc, pm, an, cdv, ct, osl, rfl, lk, hcd⟩ := F.ex
  constructor
  · exact len
  intro A outer s H args us vs Q E p cls d room pin zc dat e0 bd rv hsp
  have inK : K.In s.heap := e0.mod.kin.keeps fun b o z => (e0.bs b o z).1
  have free_ : s.heap.NoLimit := e0.mod.nolimit.keeps fun b o z => (e0.bs b o z).1
  have kinds : ∀ y ∈ ps.zip us, (defScope st).names.lookup y.1 = some .local ∨ ((defScope st).names.lookup y.1 = some .cell ∧ ((cellsFrom (s.heap.objs.size + 1) (defScope st).names []).lookup y.1).isSome = true) := by
    rintro ⟨y, v⟩ hy
    rcases S.par y (List.of_mem_zip hy).1 with z | z
    · exact .inl z
    · exact .inr ⟨z, PySem.W.cellsFrom_some _ _ _ (.inl z)⟩
  apply codeAny_call_function room.depth (inK _ _ lk) rfl S.co S.gen rfl (PySem.W.codeRec_of inK hcd)
  apply bd
  apply wpAny_newFunctionEnv_cells S.kind kinds
  rintro env rfl s1 inside
  refine ⟨free_.keeps inside.toInCall.keep, codeAny_func ?_⟩
  obtain ⟨t, term, reading⟩ := body cdv A outer s H vs Q E p cls d zc dat (room.deeper _) hsp
  have I := L2H.inv_startH (CX := CX0) (E := E) S pin e0 (len _ _ _ _ _ _ _ hsp) rv inside
  refine wpAny_mono (term.run [] s1 (L2.start N vs) H _ I reading) (fun fl s' out => ?_) fun _ _ z => z
  cases fl with
  | ret u => obtain ⟨v, _, H', J, r, q⟩ := out; exact ⟨v, H', J.os, J.bare, J.base, J.hok, r, q⟩
  | next => obtain ⟨_, H', J, q⟩ := out; exact ⟨.non, H', J.os, J.bare, J.base, J.hok, rfl, q⟩
  | brk => obtain ⟨_, _, _, q⟩ := out; exact q.elim
  | cont => obtain ⟨_, _, _, q⟩ := out; exact q.elim
section
variable {X : Cx} {k : Nat} {f a : Addr} {oe : Obj} {cls : Value} {d : Option Addr} {fd : FuncData} {ps : List Str} {sp : Addr → Value → Option Addr → Sp} {x : Str} {q pos : Pos} {e : Expr} {es : List Expr} {t : TA}
theorem pe_callP (hp : (a, oe) ∈ X.pn) (hz : Zc cls d oe) (hf : ∃ vs, oe.data = .fields vs) (F : FnP X.prog X.w X.K X.mg X.base k f fd ps sp) (hr : L2H.RoomH k X.A) (hg : Gl X x) (hm : X.mg x = some (.ref f)) (hk : PySem.W.keepIn X.K (.ref f) = true) (hb : Binds X.K fd ps [])
    (ha : PA X (e :: es) t) (hdb : (x == ("__debug__" : Str)) = false := by decide) (he : starEach (e :: es) X.env = (false, eval e X.env) :: starEach es X.env := by rfl) (hpl : (backTo pos (starEach es X.env)).any (·.1) = false := by rfl) :
    PE X (.Call (.Name x q) (e :: es) [] pos) (fun σ H Q => t σ H fun vs H1 => sp a cls d vs H1 Q E0) := by
  constructor
  intro pins s σ H Q I h
  apply wpAny_Call_Name_kw
  refine ld_glob I hg hm ?_ hdb
  refine PySem.W.callWith_K (h₀ := X.base) I.ok.mod.kin hk (thn (ha.run pos pins s σ H _ I h) ?_) he hpl
  rintro us s1 ⟨vs, H1, I1, r1, q1⟩
  refine ⟨I1.kIn, ?_⟩
  have ln : (us ++ ([] : List Value)).length = ps.length := by
    rw [List.append_nil, ← r1.length]
    exact F.len _ _ _ _ _ _ _ q1
  have bd := hb s1 us I1.kIn ln
  rw [List.append_nil] at bd
  have P1 := I1.pin (a, oe) (List.mem_append_left _ hp)
  have pin : L2H.PinOk X.stack H1 s1 (a, oe) := by
    refine ⟨P1.1, P1.2.1, fun m => ?_, P1.2.2.2.2⟩
    rcases List.mem_cons.mp (I1.stkSub a m) with z | z
    · exact P1.2.2.1 z
    · exact P1.2.2.2.1 z
  refine wpAny_call (codeAny_mono (F.run X.A X.stack s1 H1 ⟨us, []⟩ us vs Q E0 (a, oe) cls d hr pin hz hf I1.env0 bd r1 q1) fun r s' out => ?_)
  cases r with
  | error z => exact (show False from out).elim
  | ok fl =>
    cases fl with
    | ret u => exact I1.after out
    | next => exact False.elim out
    | brk => exact False.elim out
    | cont => exact False.elim out
end
open NdefX
/-! ### own error classes over a built-in one -/
/-- the built-in base B, its __new__, its __init__, its mro -/
structure ErB (B newId initId : String) (bmB : List Value) : Prop where
  fb : ExcBaseFacts B newId initId bmB
  kx : PySem.W.KxsFacts B initId
  sf : StoreFacts B bmB "object.__setattr__" "object"
theorem erb_VE : ErB "ValueError" "ValueError.__new__" "ValueError.__init__" [.type "ValueError", .type "Exception", .type "BaseException", .type "object"] := ⟨PySem.F.excBase_ValueError, PySem.W.kxs_ValueError, PySem.F.store_ValueError⟩
theorem erb_LE : ErB "LookupError" "LookupError.__new__" "LookupError.__init__" [.type "LookupError", .type "Exception", .type "BaseException", .type "object"] := ⟨PySem.F.excBase_LookupError, PySem.W.kxs_LookupError, PySem.F.store_LookupError⟩
theorem erb_IE : ErB "IndexError" "IndexError.__new__" "IndexError.__init__" [.type "IndexError", .type "LookupError", .type "Exception", .type "BaseException", .type "object"] := ⟨PySem.F.excBase_IndexError, PySem.W.kxs_IndexError, PySem.F.store_IndexError⟩
/-- what stands written of an own error class at C -/
structure ErC (K : PySem.W.Frag) (C : Addr) (newId : String) (bmB : List Value) : Prop where
  cls : ∃ nm q N bs bm sn sub ab col dd k0 k1 k2 k3 k5, K.lookup C = some (excClassObj nm q C N bs bm true sn sub ab col dd k0 k1 k2 k3 k5 newId) ∧ PySem.W.excTail bmB bm = true
  ov : PySem.W.excOver K C bmB = true
  sa : PySem.W.findIn K (.ref C) "__setattr__" = some (some (.builtin "object.__setattr__"))
  ga : PySem.W.findIn K (.ref C) "__getattribute__" = some (some (.builtin "BaseException.__getattribute__"))
  gt : PySem.W.findIn K (.ref C) "__getattr__" = some none
  ex : PySem.W.subIn K (.ref C) (.type "BaseException") = some true
  ty : PySem.W.typeIn K (.ref C) = some (.type "type")
  kp : PySem.W.keepIn K (.ref C) = true
  cl : PySem.W.findIn K (.ref C) "__class__" = some (some (.builtin "object.__class__"))
  ob : PySem.W.mroIn K C (.type "object") = some true
section
variable {pr : Program} {wo : World} {A : Around} {Ex : Value → Shared → Prop} {hh : Heap} {gg : Array GenState} {dr : Drawn} {tt : Nat} {oo : OsState}
variable {nm qn : Str} {C N : Addr} {bs bm bmB : List Value} {hdct : Bool} {sn : List Str} {sub : List Value} {ab : Bool} {col : Option Bool} {dd : Option Addr} {k0 k1 k2 k3 k5 : Option Value} {B newId initId : String}
theorem mw_call (FB : ExcBaseFacts B newId initId bmB) {u e t0 : Addr} {rest : List Value} {Qv : Value → Shared → Prop}
    (hC : hh.get? C = some (excClassObj nm qn C N bs bm hdct sn sub ab col dd k0 k1 k2 k3 k5 newId)) (he : hh.get? e = some (PySem.HandSPX.excO C t0)) (hu : hh.get? u = some (PySem.W.kxs_mw initId e)) (hrest : rest.length ≤ sizeLine)
    (hq : ∀ h' t1, (∀ b o, b ≠ e → hh.get? b = some o → h'.get? b = some o) → h'.get? e = some (PySem.HandSPX.excO C t1) → Qv .none ⟨h', gg, dr, tt, oo⟩) :
    wpAny (model pr wo) A (call (.ref u) rest) Qv Ex ⟨hh, gg, dr, tt, oo⟩ := by
  refine wpAny_call (codeAny_of_tree ?_)
  show wpAny _ A.in1 (callAny (.ref u) ⟨rest, []⟩) _ _ _
  simp only [callAny]
  refine wpAny_bind (wpAny_load hu ?_)
  refine PySem.W.KFB.if_so (show ((Value.type "method-wrapper" == .type "method") || (Value.type "method-wrapper" == .type "builtin_function_or_method") || (Value.type "method-wrapper" == .type "method-wrapper")) = true by decide) ?_
  refine wpAny_bind (PySem.W.check_bound_init FB.toExcCallFacts hC he rfl ?_)
  refine wpAny_bind (wpAny_pure (wpAny_pure ⟨plainId_quiet FB.init.plain _, codeAny_builtin FB.initEntry ?_⟩))
  refine PySem.W.exc_init_tree (cls := .ref C) (t0 := t0) (dv := none) (c2 := .none) (c3 := .none) (b4 := .bool false) he hrest fun h' k e' _ => hq h' _ k e'
end
section
variable {X : Cx} {pins : List (Addr × Obj)} {σ : L2.St} {H : Hp} {s : Shared} {B newId initId : String} {bmB : List Value}
/-! ### self.f = y -/
theorem taker0 {K : PySem.W.Frag} {C : Addr} {f : Str} (h : PySem.W.findIn K (.ref C) f = some none) : PySem.W.takerIn K C f = some none := by
  unfold PySem.W.takerIn
  rw [h]
  rfl
theorem gst_new {a C : Addr} {f : Str} {y : V} {u : Value} {Qu : Unit → Shared → Prop} {Ex : Value → Shared → Prop} {A : Around} (E : ErB B newId initId bmB) (T : ErC X.K C newId bmB) (I : Inv X pins σ H s) (e : H a = some (exo a C none)) (hno : PySem.W.findIn X.K (.ref C) f = some none) (ry : RelV y u)
    (h : ∀ dx s', H dx = none → dx ≠ a → Inv X pins σ (upd (upd H dx (exd dx [(f, y)])) a (exo a C (some dx))) s' → Qu () s') : wpAny (model X.prog X.w) A (setAttr (.ref a) f u) Qu Ex s := by
  obtain ⟨nm, q, N, bs, bm, sn, sub, ab, col, dd, k0, k1, k2, k3, k5, hC, hbm⟩ := T.cls
  have hcl : PySem.W.clsIn X.K C = some { name := nm, bases := bs, mro := .ref C :: bm, ns := N, qualname := q, hasDict := true, slotNames := sn, subclasses := sub, abstract := ab, collection := col, hasDel := false } := by unfold PySem.W.clsIn; rw [hC] <;> rfl
  obtain ⟨t1, ho⟩ := exo_at I.hok e
  obtain ⟨hp, g, d, t, os⟩ := s
  have IA : PySem.W.InstAt hp a (PySem.HandSPX.excO C t1) C none := ⟨ho, rfl, rfl, trivial⟩
  refine PySem.W.set_plain I.kIn IA T.sa ?_
  refine PySem.W.osa_openX E.sf (s := ⟨hp, g, d, _, os⟩) I.kIn IA T.ov (taker0 hno) fun b => ?_
  have hcls : PySem.W.Looks (model X.prog X.w) hp (classData C) _ := PySem.W.looks_clsIn I.kIn hcl
  have hxs : a ≠ hp.objs.size := Nat.ne_of_lt (Heap.lt_size ho)
  show wpAny _ _ (Builtin.ObjectAttr.storeInOwnDict (.ref a) (.ref C) (.str f _) f u b) _ _ _
  unfold Builtin.ObjectAttr.storeInOwnDict Builtin.ObjectAttr.ownDictForStores
  repeat (first | with_reducible refine PySem.HandSPX.store_in_new ?_ ?_ | with_reducible refine wpAny_loadPart_at ho ?_ | with_reducible refine hcls.at ?_ | wp_step)
  · exact ⟨_, #[], _, (Heap.get?_update_ne _ _ _ _ hxs.symm).trans (Heap.get?_push_at rfl rfl), rfl, fun e he => absurd he (by simp), fun _ => rfl⟩
  · intro h' tk' hn' hs
    have hx1 : (hp.push { cls := .type "dict", data := .dict #[] }).get? a = some (PySem.HandSPX.excO C t1) := Heap.get?_push_of_some _ ho
    have k : ∀ b o, b ≠ a → hp.get? b = some o → h'.get? b = some o := fun b o hb ho' => (hs.2 b (Nat.ne_of_lt (Heap.lt_size ho'))).trans ((Heap.get?_update_ne _ _ _ _ hb).trans (Heap.get?_push_of_some _ ho'))
    have hx := (hs.2 a hxs).trans (Heap.get?_update_self _ hx1 rfl)
    have dn := Nat.le_refl hp.objs.size
    have hnd : H hp.objs.size = none := I.hok.fresh dn
    have nd : ∀ {b : Addr} {o : Obj}, hp.get? b = some o → b ≠ hp.objs.size := fun q => Nat.ne_of_lt (Heap.lt_size q)
    have na : ∀ {b : Addr}, H b = none → b ≠ a := fun {b} n z => by
      rw [z, e] at n
      cases n
    have U1 : Un X.fs [] H (upd (upd H hp.objs.size (exd hp.objs.size [(f, y)])) a (exo a C (some hp.objs.size))) hp h' := {
      keep := fun b o q n _ _ => k b o (na n) q
      slot := fun b o q n _ _ => ⟨o.slots, k b o (na n) q⟩
      free := fun b o q n _ => (upd_ne (na n)).trans ((upd_ne (nd q)).trans n)
      there := fun b o q _ => by
        by_cases hb : b = a
        · exact ⟨_, hb ▸ hx⟩
        · exact ⟨o, k b o hb q⟩
      tups := fun b xs q => (upd_ne (at_ne e q exo_tup)).trans ((upd_ne (ne_of_none q hnd)).trans q)
      frzs := fun b o v q => (upd_ne (at_ne e q exo_frz)).trans ((upd_ne (ne_of_none q hnd)).trans q)
      tbls := fun b ps q => ⟨#[], by rw [upd_ne (at_ne e q exo_tbl), upd_ne (ne_of_none q hnd), q]; simp⟩ }
    refine h hp.objs.size _ hnd hxs.symm (I.un (t' := tk') U1 fun b o q => ?_)
    by_cases hb : b = a
    · subst hb
      rw [upd_same] at q
      cases q
      exact exo_ok hx
    · rw [upd_ne hb] at q
      by_cases hd : b = hp.objs.size
      · subst hd
        rw [upd_same] at q
        cases q
        exact exd_ok hn' (relO_put (fs := []) ry fun g => True.intro)
      · rw [upd_ne hd] at q
        refine (I.hok b o q).stay (fun c v hc z => k c v ?_ z) (fun c hc => (upd_ne (at_ne e hc exo_own)).trans ((upd_ne (ne_of_none hc hnd)).trans hc)) fun c xs hc => (upd_ne (at_ne e hc exo_tup)).trans ((upd_ne (ne_of_none hc hnd)).trans hc)
        rcases hc with hc | hc
        · rw [hc]
          exact hb
        · exact at_ne e hc exo_own
theorem gst_old {a C dx : Addr} {f : Str} {y : V} {u : Value} {fs : List (Str × V)} {Qu : Unit → Shared → Prop} {Ex : Value → Shared → Prop} {A : Around} (E : ErB B newId initId bmB) (T : ErC X.K C newId bmB) (I : Inv X pins σ H s) (e : H a = some (exo a C (some dx))) (ed : H dx = some (exd dx fs)) (hl : fs.length ≤ 900)
    (hno : PySem.W.findIn X.K (.ref C) f = some none) (ry : RelV y u) (h : ∀ s', Inv X pins σ (upd H dx (exd dx ((f, y) :: fs))) s' → Qu () s') : wpAny (model X.prog X.w) A (setAttr (.ref a) f u) Qu Ex s := by
  obtain ⟨nm, q, N, bs, bm, sn, sub, ab, col, dd, k0, k1, k2, k3, k5, hC, hbm⟩ := T.cls
  have hcl : PySem.W.clsIn X.K C = some { name := nm, bases := bs, mro := .ref C :: bm, ns := N, qualname := q, hasDict := true, slotNames := sn, subclasses := sub, abstract := ab, collection := col, hasDel := false } := by unfold PySem.W.clsIn; rw [hC] <;> rfl
  obtain ⟨t1, ho⟩ := exo_at I.hok e
  obtain ⟨mA, hns, rel⟩ := exd_at I.hok ed
  have hw := within_of rel
  obtain ⟨hp, g, d, t, os⟩ := s
  obtain ⟨oD, _, _, hoD, _, _⟩ := hns.count hw
  have IA : PySem.W.InstAt hp a { cls := .ref C, dict := some dx, data := .fields #[.ref t1, .none, .none, .none, .bool false, .none] } C (some oD) := ⟨ho, rfl, rfl, hoD⟩
  refine PySem.W.set_plain I.kIn IA T.sa ?_
  refine PySem.W.osa_openX E.sf (s := ⟨hp, g, d, _, os⟩) I.kIn IA T.ov (taker0 hno) fun b => ?_
  have hcls : PySem.W.Looks (model X.prog X.w) hp (classData C) _ := PySem.W.looks_clsIn I.kIn hcl
  show wpAny _ _ (Builtin.ObjectAttr.storeInOwnDict (.ref a) (.ref C) (.str f _) f u b) _ _ _
  unfold Builtin.ObjectAttr.storeInOwnDict Builtin.ObjectAttr.ownDictForStores
  repeat (first | with_reducible refine PySem.OEX.store_in_old hns hw (by rw [List.length_map]; omega) ?_ | with_reducible refine wpAny_loadPart_at ho ?_ | with_reducible refine hcls.at ?_ | wp_step)
  intro h' tk' hn hs
  have k : ∀ b o, b ≠ dx → hp.get? b = some o → h'.get? b = some o := fun b o hb ho' => (hs.2 b hb).trans ho'
  have hd : ∃ o, h'.get? dx = some o := by
    obtain ⟨o, _, _, e', _⟩ := hn
    exact ⟨o, e'⟩
  exact h _ (I.write (t' := tk') (x := dx) (e := dx) (o := exd dx ((f, y) :: fs)) (by rw [ed]; exact True.intro) (.inl rfl) k hd (exd_ok hn (relO_put ry rel)))
def tGst (K : PySem.W.Frag) (newId : String) (bmB : List Value) (f : Str) (to te : TE) : TS := fun D σ H => te σ H fun y H1 => to σ H1 fun x H2 => ∃ a C : Addr, x = .ref a ∧ ErC K C newId bmB ∧ PySem.W.findIn K (.ref C) f = some none ∧
  ((H2 a = some (exo a C none) ∧ ∀ dx, H2 dx = none → dx ≠ a → D.nx σ (upd (upd H2 dx (exd dx [(f, y)])) a (exo a C (some dx)))) ∨
    ∃ (dx : Addr) (fs : List (Str × V)), H2 a = some (exo a C (some dx)) ∧ H2 dx = some (exd dx fs) ∧ fs.length ≤ 900 ∧ D.nx σ (upd H2 dx (exd dx ((f, y) :: fs))))
theorem ps_gst {o e : Expr} {to te : TE} {f : Str} {p' pos : Pos} (E : ErB B newId initId bmB) (ho : PE X o to) (he : PE X e te) (hs : swapsWith e (some (.Attribute o f p')) pos.line X.env = pure false := by rfl) : PS X (.Assign [.Attribute o f p'] e pos) (tGst X.K newId bmB f to te) := by
  refine ⟨fun pins s σ H D I h => ?_⟩
  refine plainObj_wpAny_Assign_Attribute (thn (he.run pins s σ H _ I h) fun v s1 ⟨y, H1, I1, r1, q1⟩ => thn (ho.run pins s1 σ H1 _ I1 q1) fun u s2 ⟨x, H2, I2, r2, a, C, ex, T, hno, q⟩ => ?_) hs
  subst ex
  obtain rfl : u = Value.ref a := r2
  rcases q with ⟨ea, q⟩ | ⟨dx, fs, ea, ed, hl, q⟩
  · exact gst_new E T I2 ea hno r1 fun dx s' n ne J => ⟨σ, _, J, q dx n ne⟩
  · exact gst_old E T I2 ea ed hl hno r1 fun s' J => ⟨σ, _, J, q⟩
end
section
variable {X : Cx} {pins : List (Addr × Obj)} {σ : L2.St} {H : Hp} {s : Shared} {B newId initId : String} {bmB : List Value}
/-! ### super().__init__(text), the first statement of an own error's __init__ -/
/-- a method with super(): its def at f, its code object at c -/
structure SupM (X : Cx) (f c : Addr) (ar : Arg) : Prop where
  fu : X.env.func = some f
  co : X.env.code = .ref c
  fd : ∃ (o : Obj) (fd : FuncData), X.K.lookup f = some o ∧ o.data = .func fd ∧ (fd.params.posonlyargs ++ fd.params.args).head? = some ar
  cd : ∃ (o : Obj) (vs : Array Value) (file : Str) (tk : Tok), X.K.lookup c = some o ∧ o.data = .fields vs ∧ vs[2]? = some (.str file tk) ∧ ((X.prog.main.file : Str) == file) = true
  ks : X.env.kindOf "super" = some .globalImplicit
  kc : X.env.kindOf "__class__" = some .free
  ka : X.env.kindOf ar.arg = some .local
  top : (X.prog.main.scope.names.lookup ("super" : Str)).isSome = false
  no : X.mg "super" = none
  op : PySem.W.nsIn X.K cStatics "thirdparty.any" = some none
theorem sup_stmt {f c a C : Addr} {ar : Arg} {i j : Nat} {body : List Stmt} {m : Str} {n : Nat} {pl : Sem Bool} {p0 p1 p2 p3 p4 p5 : Pos} (E : ErB B newId initId bmB) (T : SupM X f c ar) (O : ErC X.K C newId bmB) (I : Inv X pins σ H s)
    (hi : X.N[i]? = some ar.arg) (hs : σ[i]? = some (some (.ref a))) (hj : X.N[j]? = some ("__class__" : Str)) (hsj : σ[j]? = some (some (.ref C))) (ha : H a = some (exo a C none))
    (hsup : PySem.W.ks_superIn X.K C C "__init__" = some (some (.builtin initId))) (hB : PySem.W.subIn X.K (.ref C) (.type B) = some true) (hDD : PySem.W.mroIn X.K C (.ref C) = some true)
    (he : eval (.Call (.Attribute (.Call (.Name "super" p0) [] [] p1) "__init__" p2) [.Constant (.str m) n p3] [] p4) X.env = (do
      let ov ← attributeBase (.Call (.Name "super" p0) [] [] p1) "__init__" X.env (eval (.Call (.Name "super" p0) [] [] p1) X.env)
      standAt p2.atName
      let (g, first) ← holding [ov] (getMethod ov "__init__" pl)
      callWith p4 g first (backTo p4 (starEach [.Constant (.str m) n p3] X.env)) []))
    (hint : interactive X.env = false) (hsw : swapsWith (.Call (.Attribute (.Call (.Name "super" p0) [] [] p1) "__init__" p2) [.Constant (.str m) n p3] [] p4) none p5.line X.env = pure false) :
    _root_.PySem.wpAt (model X.prog X.w) X.A (.func body X.env) (exec (.Expr (.Call (.Attribute (.Call (.Name "super" p0) [] [] p1) "__init__" p2) [.Constant (.str m) n p3] [] p4) p5) X.env) (fun fl s' => fl = .next ∧ Inv X pins σ H s') X.xe s := by
  refine ks_wpAt_Expr_any ?_ hint hsw
  refine ks_wpAt_MethodCall (pl := pl) ?_ he
  have KX : X.K.In s.heap := I.kIn
  obtain ⟨of, fd, hf, hfd, hp⟩ := T.fd
  obtain ⟨oc, vs, file, tk, hc, hoc, hvs, hfile⟩ := T.cd
  obtain ⟨nm, q, N, bs, bm, sn, sub, ab, col, dd, k0, k1, k2, k3, k5, hC, hbm⟩ := O.cls
  have hcl : PySem.W.clsIn X.K C = some { name := nm, bases := bs, mro := .ref C :: bm, ns := N, qualname := q, hasDict := true, slotNames := sn, subclasses := sub, abstract := ab, collection := col, hasDel := false } := by unfold PySem.W.clsIn; rw [hC] <;> rfl
  obtain ⟨t1, ho⟩ := exo_at I.hok ha
  refine ks_wpAt_super_base (env := X.env) T.ks T.kc (by decide) T.fu (KX _ _ hf) hfd hp T.co (KX _ _ hc) hoc hvs hfile T.top ?_
  obtain ⟨mb, h1, h2⟩ := I.mod.blt
  refine PySem.W.ks_loadName_global I.ok.kind T.ks (Calls.loadGlobal_builtin (by rw [I.ok.glob]; exact I.mod.glob.keeps I.bk) T.no (by rw [I.ok.blt]; exact h1.keeps I.bk) ((h2 "super" (by decide)).trans (by decide +kernel)) ⟨rfl, ?_⟩)
  obtain ⟨mm, hn, hl⟩ := I.loc
  obtain ⟨uc, rc, lc⟩ := hl j _ _ hj hsj (.inr (.inr T.kc))
  obtain ⟨ua, ra, la⟩ := hl i _ _ hi hs (.inl T.ka)
  obtain rfl : uc = Value.ref C := rc
  obtain rfl : ua = Value.ref a := ra
  obtain ⟨cc, hcc, hcell⟩ : ∃ cc, X.env.cells.lookup ("__class__" : Str) = some cc ∧ s.heap.IsCell cc (some (Value.ref C)) := by
    rcases lc with ⟨z, _⟩ | ⟨_, z⟩
    · rw [T.kc] at z
      cases z
    · exact z
  have hma : mm ar.arg = some (Value.ref a) := by
    rcases la with ⟨_, z⟩ | ⟨z, _⟩
    · exact z
    · rw [T.ka] at z
      rcases z with z | z <;> cases z
  refine wpAny_loadName_free I.ok.kind T.kc hcc hcell ?_
  refine wpAny_loadName_local I.ok.kind T.ka hn hma ?_
  have hCh := KX _ _ hC
  refine ks_wpAny_isType_cls hCh rfl ⟨rfl, ?_⟩
  obtain ⟨hp', g, d, t, os⟩ := s
  refine ks_wpAny_call_super hCh rfl ho rfl (fun z e => by cases e) (PySem.W.looks_mroIn KX hDD) fun h1 so kk => ?_
  have I1 : Inv X pins σ H ⟨h1, g, d, t, os⟩ := I.kept (t' := t) kk
  have hin : PySem.W.Looks (model X.prog X.w) h1 (isInstance (.ref a) (.type B)) true := (show PySem.W.InstAt h1 a (PySem.HandSPX.excO C t1) C none from ⟨kk _ _ ho, rfl, rfl, trivial⟩).type.andThen (PySem.W.looks_subIn I1.kIn hB)
  have hsup' := hsup
  unfold PySem.W.ks_superIn at hsup'
  rw [hcl] at hsup'
  refine PySem.W.kxs_getMethod E.kx so (PySem.W.looks_opaque I1.kIn T.op) (l₀ := .ref C :: bm) (fun A Q E s k q => wpAny_bind ((PySem.W.looks_clsIn I1.kIn hcl) A _ E s k (wpAny_pure q))) rfl I1.kIn hsup' hin (fun z => ?_) (by decide) ?_
  · subst z
    rw [show hp'.get? a = _ from hCh] at ho
    cases ho
  have kk2 : ∀ b o, h1.get? b = some o → (h1.push (PySem.W.kxs_mw initId a)).get? b = some o := fun b o e => Heap.get?_push_of_some _ e
  have I2 : Inv X pins σ H ⟨h1.push (PySem.W.kxs_mw initId a), g, d, t + 1, os⟩ := I1.kept (t' := t + 1) kk2
  have hmw : (h1.push (PySem.W.kxs_mw initId a)).get? h1.objs.size = some (PySem.W.kxs_mw initId a) := Heap.get?_push_at rfl rfl
  show wpAny _ _ (callWith p4 (.ref h1.objs.size) [] ((false, eval (.Constant (.str m) n p3) X.env) :: backTo p4 (starEach [] X.env)) []) _ _ _
  refine PySem.W.kxs_callWith (i := initId) (x := a) rfl (PySem.Calls.evalArgs_plain (PySem.Calls.spliced_cons (PySem.Calls.Constant_str (PySem.Calls.spliced_nil ⟨hmw, ?_⟩))))
  show wpAny _ _ (call (.ref h1.objs.size) [.str m (t + 1)]) _ _ _
  refine mw_call E.fb (kk2 _ _ (kk _ _ hCh)) (kk2 _ _ (kk _ _ ho)) hmw (by show 1 ≤ sizeLine; decide) fun h3 t3 k3 e3 => ⟨rfl, ?_⟩
  have J := (I2.tok (t + 1 + 1)).write (h' := h3) (t' := t + 1 + 1) (x := a) (e := a) (o := exo a C none) (by rw [ha]; exact True.intro) (.inl rfl) k3 ⟨_, e3⟩ (exo_ok e3)
  rw [show upd H a (exo a C none) = H from funext fun z => by
    by_cases hz : z = a
    · rw [hz, upd_same, ha]
    · rw [upd_ne hz]] at J
  exact J
end
section
variable {P : Program} {w : World} {K : PySem.W.Frag} {mg : Str → Option Value} {base : Heap} {B newId initId : String} {bmB : List Value}
/-- what stands written of an own error's __init__: its words F, the def at f, its class at C -/
structure IniM (P : Program) (K : PySem.W.Frag) (mg : Str → Option Value) (B newId initId : String) (bmB : List Value) (f C : Addr) (F : NF) (ar : Arg) (doc pm ctv : Value) : Prop where
  lk : ∃ (od : Option Addr) (sl : Array (Option Value)), K.lookup f = some ⟨.type "function", od, .func (F.fd doc pm ctv), sl⟩
  cd : PySem.W.codeIn K (.ref F.c) F.qual = true
  cl : ∃ (cc : Addr) (o : Obj), F.cl = [(("__class__" : Str), cc)] ∧ K.lookup cc = some o ∧ o.data = .cell (some (.ref C))
  hd : (F.params.posonlyargs ++ F.params.args).head? = some ar
  fl : ∃ (o : Obj) (vs : Array Value) (file : Str) (tk : Tok), K.lookup F.c = some o ∧ o.data = .fields vs ∧ vs[2]? = some (.str file tk) ∧ ((P.main.file : Str) == file) = true
  ks : F.scope.names.lookup ("super" : Str) = some .globalImplicit
  kc : F.scope.names.lookup ("__class__" : Str) = some .free
  ka : F.scope.names.lookup ar.arg = some .local
  top : (P.main.scope.names.lookup ("super" : Str)).isSome = false
  no : mg "super" = none
  op : PySem.W.nsIn K cStatics "thirdparty.any" = some none
  ox : ErC K C newId bmB
  su : PySem.W.ks_superIn K C C "__init__" = some (some (.builtin initId))
  sb : PySem.W.subIn K (.ref C) (.type B) = some true
  mr : PySem.W.mroIn K C (.ref C) = some true
theorem init_fn {f C : Addr} {F : NF} {ar : Arg} {doc pm ctv : Value} {N ps : List Str} {k i j n : Nat} {sp : Sp} {m : Str} {p0 p1 p2 p3 p4 p5 : Pos} {rest : List Stmt} {pl : Addr → Sem Bool} (EB : ErB B newId initId bmB) (T : IniM P K mg B newId initId bmB f C F ar doc pm ctv)
    (S : NScope N ps ["__class__"] F.scope) (len : ∀ vs H Q E, sp vs H Q E → vs.length = ps.length) (hi : N[i]? = some ar.arg) (hj : N[j]? = some ("__class__" : Str))
    (hbd : F.body = .Expr (.Call (.Attribute (.Call (.Name "super" p0) [] [] p1) "__init__" p2) [.Constant (.str m) n p3] [] p4) p5 :: rest)
    (hst : ∀ vs H Q E, sp vs H Q E → ∃ a, (startF N vs [some (.ref C)])[i]? = some (some (.ref a)) ∧ (startF N vs [some (.ref C)])[j]? = some (some (.ref C)) ∧ H a = some (exo a C none))
    (hbody : ∀ (A : Around) (outer : List Env) (s : Shared) (H : Hp) (vs : List V) (Q : VK) (E : XK), Room k (A.deeper (envF F f s.heap.objs.size)) → sp vs H Q E →
      ∃ t, PSs (ncx CX0 P w K mg base N F f A outer s H E) rest t ∧ t { nx := fun _ H' => Q .non H', rt := Q } (startF N vs [some (.ref C)]) H)
    (he : ∀ L, eval (.Call (.Attribute (.Call (.Name "super" p0) [] [] p1) "__init__" p2) [.Constant (.str m) n p3] [] p4) (envF F f L) = (do
      let ov ← attributeBase (.Call (.Name "super" p0) [] [] p1) "__init__" (envF F f L) (eval (.Call (.Name "super" p0) [] [] p1) (envF F f L))
      standAt p2.atName
      let (g, first) ← holding [ov] (getMethod ov "__init__" (pl L))
      callWith p4 g first (backTo p4 (starEach [.Constant (.str m) n p3] (envF F f L))) []) := by intro _; rfl)
    (hint : ∀ L, interactive (envF F f L) = false := by intro _; rfl)
    (hsw : ∀ L, swapsWith (.Call (.Attribute (.Call (.Name "super" p0) [] [] p1) "__init__" p2) [.Constant (.str m) n p3] [] p4) none p5.line (envF F f L) = pure false := by intro _; rfl) :
    FnOk P w K mg base CX0 (k + 1) f (F.fd doc pm ctv) ps sp := by
  refine ⟨len, fun A outer s H args us vs Q E hr e0 hb r hsp => ?_⟩
  have KX : K.In s.heap := e0.mod.kin.keeps fun b o e => (e0.bs b o e).1
  have hl := len _ _ _ _ hsp
  have lim : s.heap.NoLimit := e0.mod.nolimit.keeps fun b o e => (e0.bs b o e).1
  obtain ⟨od, sl, lk⟩ := T.lk
  obtain ⟨cc, oc, ecl, lcc, dcc⟩ := T.cl
  refine codeAny_call_function hr.depth (KX _ _ lk) rfl S.co S.gen rfl (PySem.W.codeRec_of KX T.cd) (hb _ _ _ _ ?_)
  refine wpAny_newFunctionEnv S.nocell (fun ⟨x, _⟩ hy => S.par x (List.of_mem_zip hy).1) (fun h1 hns hsb => ⟨lim.fresh _ hsb, ?_⟩) S.kind
  have kp : ∀ b o, s.heap.get? b = some o → h1.get? b = some o := fun b o e => hsb.extBut b o (Nat.ne_of_lt (Heap.lt_size e)) (Heap.get?_push_of_some _ e)
  have CA : CellsAt F.cl ["__class__"] [some (.ref C)] s.heap H := by
    rw [ecl]
    have hc : ∀ (y : Str) (c : Addr), ([(("__class__" : Str), cc)] : List (Str × Addr)).lookup y = some c → c = cc ∧ y = "__class__" := fun y c e => by
      rw [List.lookup_cons] at e
      split at e
      · rename_i z
        exact ⟨(Option.some.inj e).symm, eq_of_beq z⟩
      · cases e
    refine ⟨rfl, fun y c e => ?_, fun x y c e1 e2 => (hc x c e1).2.trans (hc y c e2).2.symm, fun i y e => ?_⟩
    · rw [(hc y c e).1]
      exact ⟨(e0.bs _ _ (e0.mod.kin _ _ lcc)).2, _, oc, KX _ _ lcc, dcc⟩
    · match i, e with
      | 0, e =>
        cases e
        exact ⟨cc, by simp, fun v e => by cases e; exact ⟨_, rfl, oc, KX _ _ lcc, dcc⟩⟩
  have I : Inv (ncx CX0 P w K mg base N F f A outer s H E) [] (startF N vs [some (.ref C)]) H { s with heap := h1, toks := s.toks + (ps.zip us).length } := inv_startN S hr.hd e0 hl r CA hns kp
  obtain ⟨a, s1, s2, ha⟩ := hst _ _ _ _ hsp
  have TM : SupM (ncx CX0 P w K mg base N F f A outer s H E) f F.c ar := ⟨rfl, rfl, ⟨_, _, lk, rfl, T.hd⟩, T.fl, T.ks, T.kc, T.ka, T.top, T.no, T.op⟩
  have fin : ∀ {τ : L2.St} {G : Hp} {v : V} {u : Value} {z : Shared}, Inv (ncx CX0 P w K mg base N F f A outer s H E) [] τ G z → L2.RelV v u → Q v G → CE outer P w H s Q u z :=
    fun J rv q => ⟨_, _, J.os, J.bare, J.base, J.hok, rv, q⟩
  obtain ⟨t, ht, hq⟩ := hbody A outer s H vs Q E (hr.deeper _) hsp
  refine ks_codeAny_funcAt (body := F.body) (env := envF F f s.heap.objs.size) ?_
  rw [hbd]
  refine ks_wpAt_execs_cons (ks_wpAt_mono (sup_stmt (X := ncx CX0 P w K mg base N F f A outer s H E) (i := i) (j := j) EB TM T.ox I hi s1 hj s2 ha T.su T.sb T.mr (he _) (hint _) (hsw _)) (fun fl s' hs => ?_) fun e s' hx => hx)
  obtain ⟨rfl, J⟩ := hs
  refine _root_.PySem.wpAt_of_wpAny (wpAny_mono (ht.run [] s' _ H _ J hq) (fun fl z hz => ?_) fun e s' hx => hx)
  cases fl with
  | ret u =>
    obtain ⟨v5, τ5, G5, J5, r5, q5⟩ := hz
    exact fin J5 r5 q5
  | next =>
    obtain ⟨τ5, G5, J5, q5⟩ := hz
    exact fin (v := V.non) (u := Value.none) J5 rfl q5
  | brk =>
    obtain ⟨_, _, _, q5⟩ := hz
    exact q5.elim
  | cont =>
    obtain ⟨_, _, _, q5⟩ := hz
    exact q5.elim
end
section
variable {X : Cx} {B newId initId : String} {bmB : List Value}
theorem ErC.has {K : PySem.W.Frag} {C : Addr} (T : ErC K C newId bmB) : PySem.W.hasDictIn K C = true ∧ (PySem.W.clsIn K C).isSome = true := by
  obtain ⟨nm, q, N, bs, bm, sn, sub, ab, col, dd, k0, k1, k2, k3, k5, hC, hbm⟩ := T.cls
  have hcl : PySem.W.clsIn K C = some { name := nm, bases := bs, mro := .ref C :: bm, ns := N, qualname := q, hasDict := true, slotNames := sn, subclasses := sub, abstract := ab, collection := col, hasDel := false } := by unfold PySem.W.clsIn; rw [hC] <;> rfl
  exact ⟨by unfold PySem.W.hasDictIn; rw [hcl] <;> rfl, by rw [hcl] <;> rfl⟩
/-! ### C(..): an own error as a value -/
def tMkV (C : Addr) (sp : Sp) (dvs : List V) (ta : TA) : TE := fun σ H Q => ta σ H fun vs H1 => vs.length ≤ 1000 ∧ ∀ a, H1 a = none → sp (.ref a :: (vs ++ dvs)) (upd H1 a (exo a C none)) (fun v H2 => v = .non ∧ Q (.ref a) H2) (fun _ _ _ => False)
theorem run_mkE {CX : CXT} {C fI : Addr} {k : Nat} {fd : FuncData} {ps : List Str} {sp : Sp} {ds : List Value} {dvs vs : List V} {us : List Value} {pins : List (Addr × Obj)} {σ : L2.St} {H1 : Hp} {s1 : Shared} {Q : VK} (E : ErB B newId initId bmB) (T : ErC X.K C newId bmB)
    (iC : PySem.W.findIn X.K (.ref C) "__init__" = some (some (.ref fI))) (tI : PySem.W.typeIn X.K (.ref fI) = some (.type "function")) (F1 : FnOk X.prog X.w X.K X.mg X.base CX k fI fd ps sp) (hr : Room (k + 1) X.A) (hb : Binds X.K fd ps ds) (hd : Vals dvs ds)
    (hx : Passes CX X (fun _ _ _ => False)) (I1 : Inv X pins σ H1 s1) (r1 : Vals vs us) (hz : vs.length ≤ 1000) (q1 : ∀ a, H1 a = none → sp (.ref a :: (vs ++ dvs)) (upd H1 a (exo a C none)) (fun v H2 => v = .non ∧ Q (.ref a) H2) (fun _ _ _ => False)) :
    wpAny (model X.prog X.w) X.A (call (.ref C) us) (EP X pins σ Q) X.xe s1 := by
  obtain ⟨nm, q, N, bs, bm, sn, sub, ab, col, dd, k0, k1, k2, k3, k5, hC, hbm⟩ := T.cls
  obtain ⟨hp, g, dr, tk, os⟩ := s1
  have hsz : hp.objs.size ≤ hp.objs.size + 1 := Nat.le_succ _
  have hq := q1 (hp.objs.size + 1) (I1.hok.fresh hsz)
  have kk : ∀ b o, hp.get? b = some o → ((hp.push (PySem.W.kdv_tup us)).push (PySem.HandSPX.excO C hp.objs.size)).get? b = some o := fun b o e => Heap.get?_push_of_some _ (Heap.get?_push_of_some _ e)
  have hget : ((hp.push (PySem.W.kdv_tup us)).push (PySem.HandSPX.excO C hp.objs.size)).get? (hp.objs.size + 1) = some (PySem.HandSPX.excO C hp.objs.size) := by heap_get
  have I2 : Inv X pins σ (upd H1 (hp.objs.size + 1) (exo (hp.objs.size + 1) C none)) ⟨(hp.push (PySem.W.kdv_tup us)).push (PySem.HandSPX.excO C hp.objs.size), g, dr, tk, os⟩ :=
    I1.laid (t' := tk) kk hsz (exo_ok hget)
  have r2 : Vals (V.ref (hp.objs.size + 1) :: (vs ++ dvs)) (Value.ref (hp.objs.size + 1) :: (us ++ ds)) := .cons rfl (r1.append hd)
  have hl : (Value.ref (hp.objs.size + 1) :: us ++ ds).length = ps.length := r2.length.symm.trans (F1.len _ _ _ _ hq)
  have hus : us.length ≤ sizeLine := by
    rw [← Paired.length r1, sizeLine_eq]
    omega
  refine wpAny_call (PySem.HandSPX.call_own E.fb (fun Y => PySem.W.excTail_contains Y bm hbm) (I1.kIn _ _ hC) (PySem.W.looks_findIn I1.kIn iC) (fun self => PySem.W.bind_fn I1.kIn self tI) hus
    (codeAny_mono (F1.run _ X.stack _ _ ⟨Value.ref (hp.objs.size + 1) :: us, []⟩ (Value.ref (hp.objs.size + 1) :: (us ++ ds)) _ _ (fun _ _ _ => False) (hr.make C us []) (I2.env0.make C us []) (hb _ (Value.ref (hp.objs.size + 1) :: us) I2.kIn hl) r2 hq) fun r s' hq' => ?_))
  match r, hq' with
  | .error er, hq' => exact hx pins σ _ _ er s' I2 hq'
  | .ok (.ret u), hq' =>
    obtain ⟨v, H2, J, rv, ev, q2⟩ := I2.after hq'
    subst ev
    exact ⟨rv, .ref (hp.objs.size + 1), H2, J, rfl, q2⟩
  | .ok .next, hq' => exact False.elim hq'
  | .ok .brk, hq' => exact False.elim hq'
  | .ok .cont, hq' => exact False.elim hq'
variable {CX : CXT} {x : Str} {C fI : Addr} {k : Nat} {fd : FuncData} {ps : List Str} {sp : Sp} {ds : List Value} {dvs : List V} {e : Expr} {es : List Expr} {ta : TA} {te : TE} {p pos : Pos}
theorem pe_mkE (E : ErB B newId initId bmB) (T : ErC X.K C newId bmB) (iC : PySem.W.findIn X.K (.ref C) "__init__" = some (some (.ref fI))) (tI : PySem.W.typeIn X.K (.ref fI) = some (.type "function"))
    (F1 : FnOk X.prog X.w X.K X.mg X.base CX k fI fd ps sp) (hr : Room (k + 1) X.A) (hb : Binds X.K fd ps ds) (hd : Vals dvs ds) (hx : Passes CX X (fun _ _ _ => False)) (hg : Gl X x) (hm : X.mg x = some (.ref C)) (ha : PA X (e :: es) ta)
    (hdb : (x == ("__debug__" : Str)) = false := by decide) (he : starEach (e :: es) X.env = (false, eval e X.env) :: starEach es X.env := by rfl) (hpl : (backTo pos (starEach es X.env)).any (·.1) = false := by rfl) :
    PE X (.Call (.Name x p) (e :: es) [] pos) (tMkV C sp dvs ta) := by
  refine ⟨fun pins s σ H Q I h => ?_⟩
  refine wpAny_Call_Name_kw (ld_glob I hg hm ?_ hdb)
  refine PySem.W.callWith_K (h₀ := X.base) I.ok.mod.kin T.kp (thn (ha.run pos pins s σ H _ I h) fun us s1 ⟨vs, H1, I1, r1, hz, q1⟩ => ⟨I1.kIn, ?_⟩) he hpl
  exact run_mkE E T iC tI F1 hr hb hd hx I1 r1 hz q1
theorem pe_mkE0 (E : ErB B newId initId bmB) (T : ErC X.K C newId bmB) (iC : PySem.W.findIn X.K (.ref C) "__init__" = some (some (.ref fI))) (tI : PySem.W.typeIn X.K (.ref fI) = some (.type "function"))
    (F1 : FnOk X.prog X.w X.K X.mg X.base CX k fI fd ps sp) (hr : Room (k + 1) X.A) (hb : Binds X.K fd ps ds) (hd : Vals dvs ds) (hx : Passes CX X (fun _ _ _ => False)) (hg : Gl X x) (hm : X.mg x = some (.ref C))
    (hdb : (x == ("__debug__" : Str)) = false := by decide) : PE X (.Call (.Name x p) [] [] pos) (tMkV C sp dvs tNil) := by
  refine ⟨fun pins s σ H Q I h => ?_⟩
  refine wpAny_Call_Name_kw (ld_glob I hg hm ?_ hdb)
  exact PySem.W.callWith_K0 I.kIn T.kp (run_mkE (us := []) E T iC tI F1 hr hb hd hx I .nil h.1 h.2)
/-! ### e.f of such a value -/
def tXo (K : PySem.W.Frag) (f : Str) (te : TE) : TE := fun σ H Q => te σ H fun x H1 => ∃ (a C d : Addr) (nw : String) (bm : List Value) (fs : List (Str × V)) (v : V), x = .ref a ∧ H1 a = some (exo a C (some d)) ∧ H1 d = some (exd d fs) ∧ fs.lookup f = some v ∧
  PySem.W.findIn K (.ref C) f = some none ∧ ErC K C nw bm ∧ Q v H1
theorem inst_exo {pins : List (Addr × Obj)} {σ : L2.St} {H : Hp} {s : Shared} {a C d : Addr} {fs : List (Str × V)} (I : Inv X pins σ H s) (ea : H a = some (exo a C (some d))) (ed : H d = some (exd d fs)) :
    ∃ (ox od : Obj) (mA : Str → Option Value), PySem.W.InstAt s.heap a ox C (some od) ∧ (∀ n, PySem.W.lookIn n od = some (mA n)) ∧ ∀ f, RelO (fs.lookup f) (mA f) := by
  obtain ⟨t1, ho⟩ := exo_at I.hok ea
  obtain ⟨mA, hns, rel⟩ := exd_at I.hok ed
  obtain ⟨od, hod, hl⟩ := lookIn_ns hns
  exact ⟨_, od, mA, ⟨ho, rfl, rfl, hod⟩, hl, rel⟩
theorem pe_xo {n : Str} (he : PE X e te) (hb : attributeBase e n X.env (eval e X.env) = eval e X.env := by rfl) : PE X (.Attribute e n pos) (tXo X.K n te) := by
  refine ⟨fun pins s σ H Q I h => ?_⟩
  refine attr_of hb (thn (he.run pins s σ H _ I h) fun u s1 hh => ?_)
  obtain ⟨x, H1, I1, rx, a, C, d, nw, bm, fs, v, ex, ea, ed, l, hno, T, q⟩ := hh
  subst ex
  obtain rfl : u = Value.ref a := rx
  obtain ⟨ox, od, mA, J, hl, rel⟩ := inst_exo I1 ea ed
  obtain ⟨u, hu, ru⟩ := RelO.some_of (v := v) (o := mA n) (l ▸ rel n)
  exact HandSPX.exc_get I1.kIn J T.ga T.gt T.ex (PySem.W.findObj_own T.has.1 hno rfl ((hl n).trans (congrArg some hu))) (handed_of ru) ⟨v, H1, I1.tok _, ru, q⟩
/-! ### isinstance of such a value -/
def rIsO (K : PySem.W.Frag) : List V → Hp → VK → Prop := fun xs H Q => ∃ (a C d : Addr) (nw : String) (bm : List Value) (fs : List (Str × V)) (c : V) (cv : Value) (b : Bool), xs = [.ref a, c] ∧ H a = some (exo a C (some d)) ∧ H d = some (exd d fs) ∧ ErC K C nw bm ∧ ClsV c cv ∧
  PySem.W.kitOne K (.ref C) cv = some b ∧ Q (.bl b) H
theorem call_isO (hn : PySem.W.specialIn X.K (.builtin "object.__class__") "__get__" = some (some (.builtin "getset_descriptor.__get__"))) (ht : PySem.W.takesIn X.K (.builtin "object.__class__") = some true) : CallR X (.builtin "isinstance") (rIsO X.K) := by
  intro pins s σ H xs us Q I r h
  obtain ⟨a, C, d, nw, bm, fs, c, cv, b, rfl, ea, ed, T, hc, e, q⟩ := h
  obtain ⟨u1, u2, rfl, r1, r2⟩ := vals2 r
  have e2 := hc.eq r2
  subst e2
  cases (show u1 = Value.ref a from r1)
  obtain ⟨ox, od, mA, J, _, _⟩ := inst_exo I ea ed
  exact PySem.W.kia_one (PySem.W.kitx_exc T.has.2 T.ga T.gt T.ex T.cl hn ht T.ob) I.kIn J e (fun z => nomatch z) fun tk => ⟨.bl b, H, I.tok tk, rfl, q⟩
end
/-! ### an own error made -/
/-- what __init__ leaves: the object at a with its dict at d -/
def Made (H H' : Hp) (a C d : Addr) (fs : List (Str × V)) : Prop := H d = none ∧ d ≠ a ∧ H' a = some (exo a C (some d)) ∧ H' d = some (exd d fs) ∧ ∀ b o, b ≠ a → H b = some o → H' b = some o
def spIni (C : Addr) (n : Nat) (fs : List V → List (Str × V)) : Sp := fun vs H Q _ => ∃ (a : Addr) (ws : List V), vs = .ref a :: ws ∧ ws.length = n ∧ H a = some (exo a C none) ∧ ∀ d H', Made H H' a C d (fs ws) → Q .non H'
abbrev NFI (st : Stmt) (qual : Str) (cc c : Addr) : NF := ⟨"__init__", qual, defArgs st, defBody st, defScope st, [(("__class__" : Str), cc)], c⟩
theorem made1 {H : Hp} {a C d : Addr} {f : Str} {y : V} (ha : H a = some (exo a C none)) (hd : H d = none) (ne : d ≠ a) : Made H (upd (upd H d (exd d [(f, y)])) a (exo a C (some d))) a C d [(f, y)] :=
  ⟨hd, ne, upd_same, (upd_ne ne).trans upd_same, fun b o hb e => (upd_ne hb).trans ((upd_ne (ne_of_none e hd)).trans e)⟩
theorem made2 {H H' : Hp} {a C d : Addr} {f : Str} {y : V} {fs : List (Str × V)} (m : Made H H' a C d fs) : Made H (upd H' d (exd d ((f, y) :: fs))) a C d ((f, y) :: fs) :=
  ⟨m.1, m.2.1, (upd_ne m.2.1.symm).trans m.2.2.1, upd_same, fun b o hb e => (upd_ne (ne_of_none e m.1)).trans (m.2.2.2.2 b o hb e)⟩
/-- the value x is an error of the class at C with the fields fs -/
def IsE (H : Hp) (C : Addr) (fs : List (Str × V)) (x : V) : Prop := ∃ a d : Addr, x = .ref a ∧ H a = some (exo a C (some d)) ∧ H d = some (exd d fs)
theorem IsE.same {H H' : Hp} {C : Addr} {fs : List (Str × V)} {x : V} (h : IsE H C fs x) (s : Same H H') : IsE H' C fs x := by
  obtain ⟨a, d, rfl, ea, ed⟩ := h
  exact ⟨a, d, rfl, s _ _ ea, s _ _ ed⟩
theorem mkv_use {H1 : Hp} {Q : VK} {C : Addr} {n : Nat} {fs : List V → List (Str × V)} {vs : List V} (hn : vs.length = n) (h0 : n ≤ 1000) (h : ∀ x H', Same H1 H' → IsE H' C (fs vs) x → Q x H') :
    vs.length ≤ 1000 ∧ ∀ a, H1 a = none → spIni C n fs (.ref a :: (vs ++ [])) (upd H1 a (exo a C none)) (fun v H2 => v = .non ∧ Q (.ref a) H2) (fun _ _ _ => False) := by
  refine ⟨by omega, fun a ha => ?_⟩
  rw [List.append_nil]
  refine ⟨a, vs, rfl, hn, upd_same, fun d H2 m => ⟨rfl, h _ _ (fun b o e => ?_) ⟨a, d, rfl, m.2.2.1, m.2.2.2.1⟩⟩⟩
  exact m.2.2.2.2 b o (ne_of_none e ha) ((upd_ne (ne_of_none e ha)).trans e)
/-- the class nm, an own error over B: its mro behind itself is pre and then bmB -/
structure Er (P : Program) (K : PySem.W.Frag) (mg : Str → Option Value) (B newId initId : String) (bmB pre : List Value) (st : Stmt) (nm qual : Str) where
  C : Addr
  f : Addr
  cc : Addr
  c : Addr
  ar : Arg
  doc : Value
  pm : Value
  ctv : Value
  T : IniM P K mg B newId initId bmB f C (NFI st qual cc c) ar doc pm ctv
  iC : PySem.W.findIn K (.ref C) "__init__" = some (some (.ref f))
  tI : PySem.W.typeIn K (.ref f) = some (.type "function")
  g : mg nm = some (.ref C)
  har : ar.arg = "self"
  lk : ∃ q N bs sn sub ab col dd k0 k1 k2 k3 k5, K.lookup C = some (excClassObj nm q C N bs (pre ++ bmB) true sn sub ab col dd k0 k1 k2 k3 k5 newId)
section
variable {base : Heap} {K : PySem.W.Frag} {mg : Str → Option Value} {P : Program} {w : World} {B newId initId : String} {bmB pre : List Value} {st : Stmt} {nm qual : Str}
theorem ok_ini1 {fl pn wd m : Str} {p0 p1 p2 p3 p4 p5 q0 q1 q2 q3 r0 r1 r2 r3 : Pos} {n1 n2 : Nat} {pl : Addr → Sem Bool} (EB : ErB B newId initId bmB) (T : Er P K mg B newId initId bmB pre st nm qual) (S : NScope ["self", pn, "__class__"] ["self", pn] ["__class__"] (defScope st))
    (hbd : defBody st = [.Expr (.Call (.Attribute (.Call (.Name "super" p0) [] [] p1) "__init__" p2) [.Constant (.str m) n1 p3] [] p4) p5, .Assign [.Attribute (.Name "self" q0) "word" q1] (.Constant (.str wd) n2 q2) q3, .Assign [.Attribute (.Name "self" r0) fl r1] (.Name pn r2) r3])
    (e1 : PySem.W.findIn K (.ref T.C) "word" = some none) (e2 : PySem.W.findIn K (.ref T.C) fl = some none) (hn1 : (pn == ("__debug__" : Str)) = false := by decide) (hn2 : (pn == ("__classdict__" : Str)) = false := by decide)
    (he : ∀ L, eval (.Call (.Attribute (.Call (.Name "super" p0) [] [] p1) "__init__" p2) [.Constant (.str m) n1 p3] [] p4) (envF (NFI st qual T.cc T.c) T.f L) = (do
      let ov ← attributeBase (.Call (.Name "super" p0) [] [] p1) "__init__" (envF (NFI st qual T.cc T.c) T.f L) (eval (.Call (.Name "super" p0) [] [] p1) (envF (NFI st qual T.cc T.c) T.f L))
      standAt p2.atName
      let (g, first) ← holding [ov] (getMethod ov "__init__" (pl L))
      callWith p4 g first (backTo p4 (starEach [.Constant (.str m) n1 p3] (envF (NFI st qual T.cc T.c) T.f L))) []) := by intro _; rfl)
    (hint : ∀ L, interactive (envF (NFI st qual T.cc T.c) T.f L) = false := by intro _; rfl)
    (hsw : ∀ L, swapsWith (.Call (.Attribute (.Call (.Name "super" p0) [] [] p1) "__init__" p2) [.Constant (.str m) n1 p3] [] p4) none p5.line (envF (NFI st qual T.cc T.c) T.f L) = pure false := by intro _; rfl)
    (hs1 : ∀ L, swapsWith (.Constant (.str wd) n2 q2) (some (.Attribute (.Name "self" q0) "word" q1)) q3.line (envF (NFI st qual T.cc T.c) T.f L) = pure false := by intro _; rfl)
    (hs2 : ∀ L, swapsWith (.Name pn r2) (some (.Attribute (.Name "self" r0) fl r1)) r3.line (envF (NFI st qual T.cc T.c) T.f L) = pure false := by intro _; rfl) :
    FnOk P w K mg base CX0 1 T.f ((NFI st qual T.cc T.c).fd T.doc T.pm T.ctv) ["self", pn] (spIni T.C 1 fun ws => [(fl, ws.getD 0 .non), ("word", .str wd)]) := by
  refine init_fn (i := 0) (j := 2) (N := ["self", pn, "__class__"]) EB T.T S (fun vs H Q E h => ?_) (by rw [T.har]; rfl) rfl hbd (fun vs H Q E h => ?_) (fun A outer s H vs Q E hr h => ?_) he hint hsw
  · obtain ⟨a, ws, rfl, hn, _⟩ := h
    show ws.length + 1 = 2
    omega
  · obtain ⟨a, ws, rfl, hn, ha, _⟩ := h
    match ws, hn with
    | [v], _ => exact ⟨a, rfl, rfl, ha⟩
  · obtain ⟨a, ws, rfl, hn, ha, q⟩ := h
    match ws, hn, q with
    | [v], _, q =>
      refine ⟨_, pss_cons (ps_gst EB (pe_var (i := 0) rfl (Or.inl (S.par _ (by simp)))) pe_str (hs1 _)) (pss_one (ps_gst EB (pe_var (i := 0) rfl (Or.inl (S.par _ (by simp)))) (pe_var (i := 1) rfl (Or.inl (S.par _ (by simp))) hn1 hn2) (hs2 _))), ?_⟩
      refine ⟨_, rfl, a, T.C, rfl, T.T.ox, e1, .inl ⟨ha, fun d hd ne => ?_⟩⟩
      have m1 := made1 (f := "word") (y := .str wd) ha hd ne
      exact ⟨_, rfl, _, rfl, a, T.C, rfl, T.T.ox, e2, .inr ⟨d, _, m1.2.2.1, m1.2.2.2.1, by simp, q d _ (made2 m1)⟩⟩
theorem ok_ini0 {wd m : Str} {p0 p1 p2 p3 p4 p5 q0 q1 q2 q3 : Pos} {n1 n2 : Nat} {pl : Addr → Sem Bool} (EB : ErB B newId initId bmB) (T : Er P K mg B newId initId bmB pre st nm qual) (S : NScope ["self", "__class__"] ["self"] ["__class__"] (defScope st))
    (hbd : defBody st = [.Expr (.Call (.Attribute (.Call (.Name "super" p0) [] [] p1) "__init__" p2) [.Constant (.str m) n1 p3] [] p4) p5, .Assign [.Attribute (.Name "self" q0) "word" q1] (.Constant (.str wd) n2 q2) q3])
    (e1 : PySem.W.findIn K (.ref T.C) "word" = some none)
    (he : ∀ L, eval (.Call (.Attribute (.Call (.Name "super" p0) [] [] p1) "__init__" p2) [.Constant (.str m) n1 p3] [] p4) (envF (NFI st qual T.cc T.c) T.f L) = (do
      let ov ← attributeBase (.Call (.Name "super" p0) [] [] p1) "__init__" (envF (NFI st qual T.cc T.c) T.f L) (eval (.Call (.Name "super" p0) [] [] p1) (envF (NFI st qual T.cc T.c) T.f L))
      standAt p2.atName
      let (g, first) ← holding [ov] (getMethod ov "__init__" (pl L))
      callWith p4 g first (backTo p4 (starEach [.Constant (.str m) n1 p3] (envF (NFI st qual T.cc T.c) T.f L))) []) := by intro _; rfl)
    (hint : ∀ L, interactive (envF (NFI st qual T.cc T.c) T.f L) = false := by intro _; rfl)
    (hsw : ∀ L, swapsWith (.Call (.Attribute (.Call (.Name "super" p0) [] [] p1) "__init__" p2) [.Constant (.str m) n1 p3] [] p4) none p5.line (envF (NFI st qual T.cc T.c) T.f L) = pure false := by intro _; rfl)
    (hs1 : ∀ L, swapsWith (.Constant (.str wd) n2 q2) (some (.Attribute (.Name "self" q0) "word" q1)) q3.line (envF (NFI st qual T.cc T.c) T.f L) = pure false := by intro _; rfl) :
    FnOk P w K mg base CX0 1 T.f ((NFI st qual T.cc T.c).fd T.doc T.pm T.ctv) ["self"] (spIni T.C 0 fun _ => [("word", .str wd)]) := by
  refine init_fn (i := 0) (j := 1) (N := ["self", "__class__"]) EB T.T S (fun vs H Q E h => ?_) (by rw [T.har]; rfl) rfl hbd (fun vs H Q E h => ?_) (fun A outer s H vs Q E hr h => ?_) he hint hsw
  · obtain ⟨a, ws, rfl, hn, _⟩ := h
    show ws.length + 1 = 1
    omega
  · obtain ⟨a, ws, rfl, hn, ha, _⟩ := h
    match ws, hn with
    | [], _ => exact ⟨a, rfl, rfl, ha⟩
  · obtain ⟨a, ws, rfl, hn, ha, q⟩ := h
    match ws, hn, q with
    | [], _, q =>
      refine ⟨_, pss_one (ps_gst EB (pe_var (i := 0) rfl (Or.inl (S.par _ (by simp)))) pe_str (hs1 _)), ?_⟩
      refine ⟨_, rfl, a, T.C, rfl, T.T.ox, e1, .inl ⟨ha, fun d hd ne => ?_⟩⟩
      exact q d _ (made1 (f := "word") (y := .str wd) ha hd ne)
/-! ### isinstance between own errors -/
theorem Er.cl (T : Er P K mg B newId initId bmB pre st nm qual) : ∃ cd : ClassData, PySem.W.clsIn K T.C = some cd ∧ cd.name = nm ∧ cd.mro = .ref T.C :: (pre ++ bmB) := by
  obtain ⟨q, N, bs, sn, sub, ab, col, dd, k0, k1, k2, k3, k5, h⟩ := T.lk
  exact ⟨{ name := nm, bases := bs, mro := .ref T.C :: (pre ++ bmB), ns := N, qualname := q, hasDict := true, slotNames := sn, subclasses := sub, abstract := ab, collection := col, hasDel := false }, by unfold PySem.W.clsIn; rw [h] <;> rfl, rfl, rfl⟩
theorem kit_ref {C D : Addr} {l : List Value} {cd cd' : ClassData} (hC : PySem.W.clsIn K C = some cd) (hm : cd.mro = .ref C :: l) (hD : PySem.W.clsIn K D = some cd') (hT : PySem.W.typeIn K (.ref D) = some (.type "type")) :
    PySem.W.kitOne K (.ref C) (.ref D) = some ((Value.ref C :: l).contains (.ref D)) := by
  unfold PySem.W.kitOne
  split
  · rename_i h
    rw [List.contains_cons, show (Value.ref D == Value.ref C) = true by rw [eq_of_beq h]; exact beq_self_eq_true _]
    rfl
  · unfold PySem.W.kitCls
    dsimp only
    rw [hD, hT, if_pos (show ((some cd').isSome && some (Value.type "type") == some (Value.type "type")) = true from show (true && some (Value.type "type") == some (Value.type "type")) = true by decide +kernel)]
    show PySem.W.mroIn K C (.ref D) = _
    unfold PySem.W.mroIn
    rw [hC, Option.bind_some, hm]
    rfl
theorem kit_typ {C : Addr} {T : String} {l : List Value} {cd : ClassData} (hC : PySem.W.clsIn K C = some cd) (hm : cd.mro = .ref C :: l) (hT : PySem.W.kitMeta T = true) :
    PySem.W.kitOne K (.ref C) (.type T) = some ((Value.ref C :: l).contains (.type T)) := by
  unfold PySem.W.kitOne
  rw [if_neg (by intro h; cases eq_of_beq h)]
  unfold PySem.W.kitCls
  dsimp only
  rw [if_pos hT]
  show PySem.W.mroIn K C (.type T) = _
  unfold PySem.W.mroIn
  rw [hC, Option.bind_some, hm]
  rfl
theorem cls_ne {C D : Addr} {c d : ClassData} (hC : PySem.W.clsIn K C = some c) (hD : PySem.W.clsIn K D = some d) (hn : c.name ≠ d.name) : C ≠ D := by
  intro e
  subst e
  rw [hC] at hD
  cases hD
  exact hn rfl
end
section
variable {P : Program} {K : PySem.W.Frag} {h : Heap} {mg : Str → Option Value} {B newId initId : String} {bmB pre : List Value} {st : Stmt} {nm qual : Str}
theorem mro_at {C : Addr} {q : Str} {N : Addr} {bs : List Value} {sn : List Str} {sub : List Value} {ab : Bool} {col : Option Bool} {dd : Option Addr} {k0 k1 k2 k3 k5 : Option Value} (lC : K.lookup C = some (excClassObj nm q C N bs (pre ++ bmB) true sn sub ab col dd k0 k1 k2 k3 k5 newId)) (v : Value) :
    PySem.W.mroIn K C v = some ((Value.ref C :: (pre ++ bmB)).contains v) := by
  have hcl : PySem.W.clsIn K C = some { name := nm, bases := bs, mro := .ref C :: (pre ++ bmB), ns := N, qualname := q, hasDict := true, slotNames := sn, subclasses := sub, abstract := ab, collection := col, hasDel := false } := by unfold PySem.W.clsIn; rw [lC] <;> rfl
  unfold PySem.W.mroIn
  rw [hcl, Option.bind_some]
  rfl
theorem mro_ty {C : Addr} {X : String} (ht : PySem.W.excTail bmB (pre ++ bmB) = true) (hx : bmB.contains (.type X) = true) : (Value.ref C :: (pre ++ bmB)).contains (.type X) = true := by
  rw [List.contains_cons, PySem.W.excTail_contains X _ ht, hx, Bool.or_true]
theorem ov_at {C : Addr} {q : Str} {N : Addr} {bs : List Value} {sn : List Str} {sub : List Value} {ab : Bool} {col : Option Bool} {dd : Option Addr} {k0 k1 k2 k3 k5 : Option Value} (lC : K.lookup C = some (excClassObj nm q C N bs (pre ++ bmB) true sn sub ab col dd k0 k1 k2 k3 k5 newId)) (ht : PySem.W.excTail bmB (pre ++ bmB) = true) : PySem.W.excOver K C bmB = true := by
  have hcl : PySem.W.clsIn K C = some { name := nm, bases := bs, mro := .ref C :: (pre ++ bmB), ns := N, qualname := q, hasDict := true, slotNames := sn, subclasses := sub, abstract := ab, collection := col, hasDel := false } := by unfold PySem.W.clsIn; rw [lC] <;> rfl
  unfold PySem.W.excOver
  rw [hcl]
  show (C == C && PySem.W.excTail bmB (pre ++ bmB)) = true
  rw [beq_self_eq_true, ht]
  rfl
@[reducible] def er_mk (X : K.In h) (G : h.Ns mainGlobals mg) {C f c cc : Addr} {od cld cdd : Option Addr} {sl csl ccs : Array (Option Value)} {doc pm ctv clc ccl : Value} {vs : Array Value} {file : Str} {tf : Tok} {ar : Arg}
    {q : Str} {N : Addr} {bs : List Value} {sn : List Str} {sub : List Value} {ab : Bool} {col : Option Bool} {dd : Option Addr} {k0 k1 k2 k3 k5 : Option Value}
    (op : PySem.W.nsIn K cStatics "thirdparty.any" = some none) (no : PySem.W.nsIn K mainGlobals "super" = some none)
    (h1 : bmB.contains (.type "BaseException") = true) (h2 : bmB.contains (.type B) = true) (h3 : bmB.contains (.type "object") = true)
    (ht : PySem.W.excTail bmB (pre ++ bmB) = true)
    (hh : ((defArgs st).posonlyargs ++ (defArgs st).args).head? = some ar) (har : ar.arg = "self")
    (ks : (defScope st).names.lookup ("super" : Str) = some .globalImplicit) (kc : (defScope st).names.lookup ("__class__" : Str) = some .free) (ka : (defScope st).names.lookup ar.arg = some .local)
    (top : (P.main.scope.names.lookup ("super" : Str)).isSome = false)
    (aC : PySem.W.nsIn K mainGlobals nm = some (some (.ref C)))
    (lC : K.lookup C = some (excClassObj nm q C N bs (pre ++ bmB) true sn sub ab col dd k0 k1 k2 k3 k5 newId))
    (aI : PySem.W.findIn K (.ref C) "__init__" = some (some (.ref f)))
    (lI : K.lookup f = some ⟨.type "function", od, .func (PySem.W.fnX "__init__" qual (defArgs st) (defBody st) (defScope st) [(("__class__" : Str), cc)] .none .none doc pm none (.ref c) ctv), sl⟩)
    (cI : PySem.W.codeIn K (.ref c) qual = true)
    (lc : K.lookup cc = some ⟨clc, cld, .cell (some (.ref C)), csl⟩)
    (lco : K.lookup c = some ⟨ccl, cdd, .fields vs, ccs⟩)
    (sa : PySem.W.findIn K (.ref C) "__setattr__" = some (some (.builtin "object.__setattr__")))
    (ga : PySem.W.findIn K (.ref C) "__getattribute__" = some (some (.builtin "BaseException.__getattribute__")))
    (gt : PySem.W.findIn K (.ref C) "__getattr__" = some none)
    (kp : PySem.W.keepIn K (.ref C) = true)
    (cl : PySem.W.findIn K (.ref C) "__class__" = some (some (.builtin "object.__class__")))
    (su : PySem.W.ks_superIn K C C "__init__" = some (some (.builtin initId)))
    (hvs : vs[2]? = some (.str file tf)) (hfile : ((P.main.file : Str) == file) = true) : Er P K mg B newId initId bmB pre st nm qual where
  C := C
  f := f
  cc := cc
  c := c
  ar := ar
  doc := doc
  pm := pm
  ctv := ctv
  T := {
    lk := ⟨od, sl, lI⟩
    cd := cI
    cl := ⟨cc, _, rfl, lc, rfl⟩
    hd := hh
    fl := ⟨_, vs, file, tf, lco, rfl, hvs, hfile⟩
    ks := ks
    kc := kc
    ka := ka
    top := top
    no := PySem.W.mg_none_of X G no
    op := op
    ox := {
      cls := ⟨nm, q, N, bs, pre ++ bmB, sn, sub, ab, col, dd, k0, k1, k2, k3, k5, lC, ht⟩
      ov := ov_at lC ht
      sa := sa
      ga := ga
      gt := gt
      ex := (mro_at lC _).trans (congrArg some (mro_ty ht h1))
      ty := congrArg (Option.map fun o : Obj => o.cls) lC
      kp := kp
      cl := cl
      ob := (mro_at lC _).trans (congrArg some (mro_ty ht h3)) }
    su := su
    sb := (mro_at lC _).trans (congrArg some (mro_ty ht h2))
    mr := (mro_at lC _).trans (by rw [List.contains_cons, beq_self_eq_true, Bool.true_or]) }
  iC := aI
  tI := congrArg (Option.map fun o : Obj => o.cls) lI
  g := PySem.W.mg_of X G aC
  har := har
  lk := ⟨q, N, bs, sn, sub, ab, col, dd, k0, k1, k2, k3, k5, lC⟩
/-- an own error and the fields that its class lacks -/
structure ErW (P : Program) (K : PySem.W.Frag) (mg : Str → Option Value) (B newId initId : String) (bmB pre : List Value) (st : Stmt) (nm qual : Str) (fl : List Str) where
  e : Er P K mg B newId initId bmB pre st nm qual
  no : ∀ x ∈ fl, PySem.W.findIn K (.ref e.C) x = some none
def erw1 (X : K.In h) (G : h.Ns mainGlobals mg) {C f c cc : Addr} {od cld cdd : Option Addr} {sl csl ccs : Array (Option Value)} {doc pm ctv clc ccl : Value} {vs : Array Value} {file : Str} {tf : Tok} {ar : Arg}
    {q : Str} {N : Addr} {bs : List Value} {sn : List Str} {sub : List Value} {ab : Bool} {col : Option Bool} {dd : Option Addr} {k0 k1 k2 k3 k5 : Option Value}
    (op : PySem.W.nsIn K cStatics "thirdparty.any" = some none) (no : PySem.W.nsIn K mainGlobals "super" = some none)
    (h1 : bmB.contains (.type "BaseException") = true) (h2 : bmB.contains (.type B) = true) (h3 : bmB.contains (.type "object") = true)
    (ht : PySem.W.excTail bmB (pre ++ bmB) = true)
    (hh : ((defArgs st).posonlyargs ++ (defArgs st).args).head? = some ar) (har : ar.arg = "self")
    (ks : (defScope st).names.lookup ("super" : Str) = some .globalImplicit) (kc : (defScope st).names.lookup ("__class__" : Str) = some .free) (ka : (defScope st).names.lookup ar.arg = some .local)
    (top : (P.main.scope.names.lookup ("super" : Str)).isSome = false)
    (aC : PySem.W.nsIn K mainGlobals nm = some (some (.ref C)))
    (lC : K.lookup C = some (excClassObj nm q C N bs (pre ++ bmB) true sn sub ab col dd k0 k1 k2 k3 k5 newId))
    (aI : PySem.W.findIn K (.ref C) "__init__" = some (some (.ref f)))
    (lI : K.lookup f = some ⟨.type "function", od, .func (PySem.W.fnX "__init__" qual (defArgs st) (defBody st) (defScope st) [(("__class__" : Str), cc)] .none .none doc pm none (.ref c) ctv), sl⟩)
    (cI : PySem.W.codeIn K (.ref c) qual = true)
    (lc : K.lookup cc = some ⟨clc, cld, .cell (some (.ref C)), csl⟩)
    (lco : K.lookup c = some ⟨ccl, cdd, .fields vs, ccs⟩)
    (sa : PySem.W.findIn K (.ref C) "__setattr__" = some (some (.builtin "object.__setattr__")))
    (ga : PySem.W.findIn K (.ref C) "__getattribute__" = some (some (.builtin "BaseException.__getattribute__")))
    (gt : PySem.W.findIn K (.ref C) "__getattr__" = some none)
    (kp : PySem.W.keepIn K (.ref C) = true)
    (cl : PySem.W.findIn K (.ref C) "__class__" = some (some (.builtin "object.__class__")))
    (su : PySem.W.ks_superIn K C C "__init__" = some (some (.builtin initId)))
    (hvs : vs[2]? = some (.str file tf)) (hfile : ((P.main.file : Str) == file) = true) {f1 : Str} (x1 : PySem.W.findIn K (.ref C) f1 = some none) : ErW P K mg B newId initId bmB pre st nm qual [f1] :=
  ⟨er_mk (C := C) X G op no h1 h2 h3 ht hh har ks kc ka top aC lC aI lI cI lc lco sa ga gt kp cl su hvs hfile, fun x hx => by
    rcases List.mem_cons.mp hx with rfl | e
    · exact x1
    · cases e⟩
def erw2 (X : K.In h) (G : h.Ns mainGlobals mg) {C f c cc : Addr} {od cld cdd : Option Addr} {sl csl ccs : Array (Option Value)} {doc pm ctv clc ccl : Value} {vs : Array Value} {file : Str} {tf : Tok} {ar : Arg}
    {q : Str} {N : Addr} {bs : List Value} {sn : List Str} {sub : List Value} {ab : Bool} {col : Option Bool} {dd : Option Addr} {k0 k1 k2 k3 k5 : Option Value}
    (op : PySem.W.nsIn K cStatics "thirdparty.any" = some none) (no : PySem.W.nsIn K mainGlobals "super" = some none)
    (h1 : bmB.contains (.type "BaseException") = true) (h2 : bmB.contains (.type B) = true) (h3 : bmB.contains (.type "object") = true)
    (ht : PySem.W.excTail bmB (pre ++ bmB) = true)
    (hh : ((defArgs st).posonlyargs ++ (defArgs st).args).head? = some ar) (har : ar.arg = "self")
    (ks : (defScope st).names.lookup ("super" : Str) = some .globalImplicit) (kc : (defScope st).names.lookup ("__class__" : Str) = some .free) (ka : (defScope st).names.lookup ar.arg = some .local)
    (top : (P.main.scope.names.lookup ("super" : Str)).isSome = false)
    (aC : PySem.W.nsIn K mainGlobals nm = some (some (.ref C)))
    (lC : K.lookup C = some (excClassObj nm q C N bs (pre ++ bmB) true sn sub ab col dd k0 k1 k2 k3 k5 newId))
    (aI : PySem.W.findIn K (.ref C) "__init__" = some (some (.ref f)))
    (lI : K.lookup f = some ⟨.type "function", od, .func (PySem.W.fnX "__init__" qual (defArgs st) (defBody st) (defScope st) [(("__class__" : Str), cc)] .none .none doc pm none (.ref c) ctv), sl⟩)
    (cI : PySem.W.codeIn K (.ref c) qual = true)
    (lc : K.lookup cc = some ⟨clc, cld, .cell (some (.ref C)), csl⟩)
    (lco : K.lookup c = some ⟨ccl, cdd, .fields vs, ccs⟩)
    (sa : PySem.W.findIn K (.ref C) "__setattr__" = some (some (.builtin "object.__setattr__")))
    (ga : PySem.W.findIn K (.ref C) "__getattribute__" = some (some (.builtin "BaseException.__getattribute__")))
    (gt : PySem.W.findIn K (.ref C) "__getattr__" = some none)
    (kp : PySem.W.keepIn K (.ref C) = true)
    (cl : PySem.W.findIn K (.ref C) "__class__" = some (some (.builtin "object.__class__")))
    (su : PySem.W.ks_superIn K C C "__init__" = some (some (.builtin initId)))
    (hvs : vs[2]? = some (.str file tf)) (hfile : ((P.main.file : Str) == file) = true) {f1 f2 : Str} (x1 : PySem.W.findIn K (.ref C) f1 = some none) (x2 : PySem.W.findIn K (.ref C) f2 = some none) : ErW P K mg B newId initId bmB pre st nm qual [f1, f2] :=
  ⟨er_mk (C := C) X G op no h1 h2 h3 ht hh har ks kc ka top aC lC aI lI cI lc lco sa ga gt kp cl su hvs hfile, fun x hx => by
    rcases List.mem_cons.mp hx with rfl | e
    · exact x1
    · rcases List.mem_cons.mp e with rfl | e
      · exact x2
      · cases e⟩
end
/-! ### raise of an own error -/
section
variable {P : Program} {K : PySem.W.Frag} {mg : Str → Option Value} {G : Addr} {st : Stmt} {nm qual : Str}
theorem oex_of (T : Er P K mg "ValueError" "ValueError.__new__" "ValueError.__init__" [.type "ValueError", .type "Exception", .type "BaseException", .type "object"] [.ref G] st nm qual) : OexC K T.C := by
  obtain ⟨q, N, bs, sn, sub, ab, col, dd, k0, k1, k2, k3, k5, lk⟩ := T.lk
  exact ⟨⟨nm, q, N, bs, _, sn, sub, ab, col, dd, k0, k1, k2, k3, k5, lk, rfl⟩, T.T.ox.sa, T.T.ox.ex, T.T.ox.ty, T.T.ox.kp⟩
theorem xfc_of {B newId initId : String} {bmB pre : List Value} (T : Er P K mg B newId initId bmB pre st nm qual) : XfC K T.C := ⟨T.T.ox.ga, T.T.ox.gt, T.T.ox.ex, T.T.ox.has.1⟩
/-- what the making of an error asks, ahead of its raise -/
theorem mk_use {H1 : Hp} {C : Addr} {n : Nat} {fF : List V → List (Str × V)} {vs : List V} {R : Value → Option Addr → Hp → Prop} (hn : vs.length = n) (h0 : n ≤ 1000) (k : ∀ d Hf, H1 d = none → Same H1 Hf → Hf d = some (.xd (fF vs)) → R (.ref C) (some d) Hf) :
    vs.length ≤ 1000 ∧ ∀ a, H1 a = none → spIni C n fF (.ref a :: (vs ++ [])) (upd H1 a (exo a C none)) (fun v H2 => v = .non ∧ ∃ (d : Addr) (fs : List (Str × V)), H2 a = some (exo a C (some d)) ∧ H2 d = some (exd d fs) ∧ H1 d = none ∧ R (.ref C) (some d) (upd (del H2 a) d (.xd fs))) (fun _ _ _ => False) := by
  refine ⟨by omega, fun a na => ?_⟩
  rw [List.append_nil]
  refine ⟨a, vs, rfl, hn, upd_same, fun d H2 M => ?_⟩
  obtain ⟨m1, m2, m3, m4, m5⟩ := M
  have hd : H1 d = none := by
    rw [upd_ne m2] at m1
    exact m1
  refine ⟨rfl, d, _, m3, m4, hd, k d _ hd (fun b o z => ?_) upd_same⟩
  have hb : b ≠ a := ne_of_none z na
  rw [upd_ne (ne_of_none z hd), del_ne hb]
  exact m5 b o hb ((upd_ne hb).trans z)
end
theorem sq_nn (x : Int) : 0 ≤ x * x := by
  rcases Int.le_total 0 x with h | h
  · exact Int.mul_nonneg h h
  · exact Int.mul_nonneg_of_nonpos_of_nonpos h h
theorem sq_le {x y : Int} (h0 : 0 ≤ x) (h : x ≤ y) : x * x ≤ y * y := Int.mul_le_mul h h h0 (Int.le_trans h0 h)
theorem sq_lt {x y : Int} (h0 : 0 ≤ x) (h : x < y) : x * x < y * y := by
  have h1 : (x + 1) * (x + 1) ≤ y * y := sq_le (by omega) (by omega)
  grind
theorem lt_of_sq {x y : Int} (h0 : 0 ≤ y) (h : x * x < y * y) : x < y := by
  rcases Int.lt_or_le x y with z | z
  · exact z
  · have := sq_le h0 z
    omega
theorem le_of_sq {x y : Int} (h0 : 0 ≤ y) (h : x * x ≤ y * y) : x ≤ y := by
  rcases Int.lt_or_le y x with z | z
  · have := sq_lt h0 z
    omega
  · exact z
/-- Newton's step from above -/
theorem newton_up {g n : Int} (hg : 0 < g) (hn : 0 ≤ n) : n < ((g + n / g) / 2 + 1) * ((g + n / g) / 2 + 1) := by
  have hq : 0 ≤ n / g := Int.ediv_nonneg hn (by omega)
  have h1 : n < g * (n / g + 1) := by
    have := Int.lt_ediv_add_one_mul_self n hg
    grind
  generalize n / g = q at hq h1 ⊢
  have h2 : g + q + 1 ≤ 2 * ((g + q) / 2 + 1) := by omega
  generalize (g + q) / 2 = r at h2 ⊢
  have h3 := sq_nn (g - (q + 1))
  have h4 := sq_le (show 0 ≤ g + q + 1 by omega) h2
  grind
theorem newton_dn {g n : Int} (hg : 0 < g) (h : n < g * g) : (g + n / g) / 2 < g := by
  have h1 : n / g < g := Int.ediv_lt_of_lt_mul hg h
  omega
theorem newton_nn {g n : Int} (hg : 0 < g) (hn : 0 ≤ n) : 0 ≤ (g + n / g) / 2 := by
  have hq : 0 ≤ n / g := Int.ediv_nonneg hn (by omega)
  omega
/-- no root times a square is a square -/
theorem no_square {d k : Int} (hk : 0 ≤ k) (h1 : k * k < d) (h2 : d < (k + 1) * (k + 1)) : ∀ (n : Nat) (b w : Int), 0 < b → 0 ≤ w → b.toNat ≤ n → w * w ≠ d * b * b
  | 0, b, w, hb, _, hn => by omega
  | n + 1, b, w, hb, hw, hn => fun e => by
    have hbb : 0 < b * b := Int.mul_pos hb hb
    have l1 : (k * b) * (k * b) < w * w := by
      have := Int.mul_lt_mul_of_pos_right h1 hbb
      grind
    have l2 : w * w < ((k + 1) * b) * ((k + 1) * b) := by
      have := Int.mul_lt_mul_of_pos_right h2 hbb
      grind
    have m1 : k * b < w := lt_of_sq hw l1
    have m2 : w < (k + 1) * b := lt_of_sq (Int.mul_nonneg (by omega) (by omega)) l2
    have m3 : w - k * b < b := by grind
    refine no_square hk h1 h2 n (w - k * b) (d * b - k * w) (by omega) ?_ (by omega) (by grind)
    have : (k * w) * b ≤ (d * b) * b := by
      have z := Int.mul_le_mul_of_nonneg_right (Int.le_of_lt m1) hw
      grind
    have z : k * w ≤ d * b := Int.le_of_mul_le_mul_right this hb
    omega
/-! ### defs with defaults, methods by keywords -/
inductive Dflt (K : PySem.W.Frag) (r : Addr) : Prop
  | mk {y1 y2 : Addr} {d e f : Option Addr} {m n o : Nat} {s t u : Array (Option Value)} {v w x y : Tok} (a : K.lookup r = some ⟨.type "tuple", d, .seq #[.ref y1, .ref y2] m, s⟩)
      (b : K.lookup y1 = some ⟨.type "tuple", e, .seq #[.int 0 v, .int 0 w] n, t⟩) (c : K.lookup y2 = some ⟨.type "tuple", f, .seq #[.int 0 x, .int 0 y] o, u⟩) : Dflt K r
section
variable {K : PySem.W.Frag} {f T D : Addr} {oc tc u : Value} {od td : Option Addr} {fd : FuncData} {sl ts : Array (Option Value)} {tn : Nat} {its : Array Value} {ps : List Str} {x : Str}
theorem bd_given (l : K.lookup f = some ⟨oc, od, .func fd, sl⟩) (t : K.lookup T = some ⟨tc, td, .seq its tn, ts⟩) (h : ∀ us : List Value, us.length = ps.length → ∃ k, bindArgs fd ⟨us, []⟩ = seqItems? (.ref T) >>= k ∧ k (some its) = pure (ps.zip us)) : Binds K fd ps [] := fun s us X hl => by
  rw [List.append_nil] at hl ⊢
  obtain ⟨k, e1, e2⟩ := h us hl
  refine BindsTo.of_looks fun M => ?_
  rw [e1]
  exact looks_items X t rfl (.of_pure e2)
theorem bd_dflt {v : Value} (l : K.lookup f = some ⟨oc, od, .func fd, sl⟩) (t : K.lookup T = some ⟨tc, td, .seq #[v] tn, ts⟩) (h : ∀ us : List Value, us.length + 1 = ps.length → ∃ k, bindArgs fd ⟨us, []⟩ = seqItems? (.ref T) >>= k ∧ k (some #[v]) = pure (ps.zip (us ++ [v]))) : Binds K fd ps [v] := fun s us X hl => by
  rw [List.length_append] at hl
  obtain ⟨k, e1, e2⟩ := h us hl
  refine BindsTo.of_looks fun M => ?_
  rw [e1]
  exact looks_items X t rfl (.of_pure e2)
theorem bd_kw (l : K.lookup f = some ⟨oc, od, .func fd, sl⟩) (kd : PySem.W.nsIn K D x = some (some u)) (h : ∀ us : List Value, us.length + 1 = ps.length → KwChain D [(x, u)] (bindArgs fd ⟨us, []⟩) (ps.zip (us ++ [u]))) : Binds K fd ps [u] := fun s us X hl => by
  rw [List.length_append] at hl
  refine BindsTo.of_looks fun M => ?_
  refine KwChain.looks X ?_ (h us hl)
  intro q hq
  rcases List.mem_cons.mp hq with e | e
  · rw [e]
    exact kd
  · cases e
end
section
variable {X : Cx} {CX : CXT} {k : Nat} {f C : Addr} {fd : FuncData} {ps ks : List Str} {sp : Sp} {E : XK} {m : Str} {pos apos : Pos} {o : Expr} {kws : List Keyword} {ta : TE} {tk : TA}
theorem pe_methK0 {pl : Sem Bool} {g : List Value → List Value → List Value} {gV : List V → List V → List V} (he : PE X o ta) (c : Cls X.K C) (hm : Meth X.K C m f) (F : FnOk X.prog X.w X.K X.mg X.base CX k f fd ps sp) (hr : Room k X.A) (hb : KBn X.K fd ps 1 ks g gV) (hx : Passes CX X E) (hkw : PK X kws tk)
    (hall : (backToKw pos (keywordEach kws X.env)).all (·.1.isSome) = true := by rfl)
    (hks : (backToKw pos (keywordEach kws X.env)).filterMap (·.1) = ks := by rfl)
    (hpl : ((backTo pos (starEach [] X.env)).any (·.1) || (backToKw pos (keywordEach kws X.env)).any (·.1.isNone)) = false := by rfl)
    (ht : eval (.Call (.Attribute o m apos) [] kws pos) X.env = (do
      let ov ← eval o X.env
      standAt apos.atName
      let (f, first) ← holding [ov] (getMethod ov m pl)
      callWith pos f first (backTo pos (starEach [] X.env)) (backToKw pos (keywordEach kws X.env))) := by rfl) :
    PE X (.Call (.Attribute o m apos) [] kws pos) (fun σ H Q => ta σ H fun x H1 => ∃ a dx fs, x = .ref a ∧ H1 a = some (.ins C dx fs) ∧ fs.lookup m = none ∧ tk σ H1 fun zs H2 => zs.length = ks.length ∧ sp (gV [.ref a] zs) H2 Q E) := by
  refine ⟨fun pins s σ H Q I h => ?_⟩
  refine PySem.W.methodCall_KW (pl := pl) (thn (he.run pins s σ H _ I h) fun u s1 ⟨x, H1, I1, rx, a, dx, fs, ex, ea, l, q⟩ => ?_) ht
  subst ex
  obtain rfl : u = Value.ref a := rx
  refine getmeth_ok I1 ea c hm l ?_
  refine PySem.W.callWith_KW0 (first := [.ref a]) (h₀ := X.base) I.ok.mod.kin hm.kp hall ?_ hpl
  refine thn (hkw.run pos pins s1 σ H1 _ I1 q) fun ws s2 ⟨zs, H2, I2, rz, l2, q2⟩ => ⟨I2.kIn, ?_⟩
  rw [hks]
  exact run_fnN (us := [.ref a]) (vs := [.ref a]) F hr hb hx I2 (.cons rfl .nil) rz rfl l2 q2
end
def topS (i : Nat) : Stmt := PySem.Challenge.pw_grainyard_k06_fractions_one_by_one.main.body.getD i (.Pass ⟨0, 0, 0, 0⟩)
abbrev s_whole_root : Stmt := topS 6
theorem sc_whole_root : FnScope ["number", "guess"] ["number"] (defScope s_whole_root) := ⟨rfl, rfl, rfl, by decide +kernel, rfl, by decide +kernel, by decide +kernel⟩
abbrev s_added : Stmt := topS 7
theorem sc_added : FnScope ["pairs", "a", "b"] ["pairs"] (defScope s_added) := ⟨rfl, rfl, rfl, by decide +kernel, rfl, by decide +kernel, by decide +kernel⟩
abbrev s_scaled : Stmt := topS 8
theorem sc_scaled : FnScope ["pair", "number", "a", "b"] ["pair", "number"] (defScope s_scaled) := ⟨rfl, rfl, rfl, by decide +kernel, rfl, by decide +kernel, by decide +kernel⟩
abbrev s_floor_of : Stmt := topS 9
theorem sc_floor_of : FnScope ["pair", "root", "whole", "a", "b"] ["pair", "root"] (defScope s_floor_of) := ⟨rfl, rfl, rfl, by decide +kernel, rfl, by decide +kernel, by decide +kernel⟩
abbrev s_endless_fractions : Stmt := topS 11
theorem sc_endless_fractions : GScope ["root", "whole", "m", "t", "k", "last", "before"] ["root"] (defScope s_endless_fractions) := ⟨rfl, rfl, rfl, by decide +kernel, rfl, by decide +kernel, by decide +kernel⟩
abbrev s_fractions : Stmt := topS 12
theorem sc_fractions : GScope ["root", "count", "number", "fraction"] ["root", "count"] (defScope s_fractions) := ⟨rfl, rfl, rfl, by decide +kernel, rfl, by decide +kernel, by decide +kernel⟩
abbrev s_source : Stmt := topS 14
theorem sc_source : FnScope ["_law_script", "_law_mix", "_law_cell"] ["_law_script"] (defScope s_source) := ⟨rfl, rfl, rfl, by decide +kernel, rfl, by decide +kernel, by decide +kernel⟩
abbrev s_pull : Stmt := topS 15
theorem sc_pull : FnScope ["_law_bag", "_law_size", "_law_mix", "_law_cell", "_law_found"] ["_law_bag", "_law_size"] (defScope s_pull) := ⟨rfl, rfl, rfl, by decide +kernel, rfl, by decide +kernel, by decide +kernel⟩
abbrev s_of : Stmt := topS 16
theorem sc_of : FnScope ["_law_bag", "_law_some"] ["_law_bag", "_law_some"] (defScope s_of) := ⟨rfl, rfl, rfl, by decide +kernel, rfl, by decide +kernel, by decide +kernel⟩
abbrev s_roots : Stmt := topS 17
theorem sc_roots : FnScope ["_law_d"] [] (defScope s_roots) := ⟨rfl, rfl, rfl, by decide +kernel, rfl, by decide +kernel, by decide +kernel⟩
abbrev s_a_root : Stmt := topS 18
theorem sc_a_root : FnScope ["_law_bag"] ["_law_bag"] (defScope s_a_root) := ⟨rfl, rfl, rfl, by decide +kernel, rfl, by decide +kernel, by decide +kernel⟩
abbrev s_lfractions : Stmt := topS 19
theorem sc_lfractions : FnScope ["_law_root_z", "_law_count_z", "_law_whole", "_law_turn", "_law_m", "_law_t", "_law_k", "_law_last", "_law_before", "_law_found", "_law_fresh"] ["_law_root_z", "_law_count_z"] (defScope s_lfractions) := ⟨rfl, rfl, rfl, by decide +kernel, rfl, by decide +kernel, by decide +kernel⟩
abbrev s_like : Stmt := topS 20
theorem sc_like : FnScope ["_law_found", "_law_due", "_law_k"] ["_law_found", "_law_due"] (defScope s_like) := ⟨rfl, rfl, rfl, by decide +kernel, rfl, by decide +kernel, by decide +kernel⟩
abbrev s_a_far : Stmt := topS 21
theorem sc_a_far : FnScope ["_law_bag"] ["_law_bag"] (defScope s_a_far) := ⟨rfl, rfl, rfl, by decide +kernel, rfl, by decide +kernel, by decide +kernel⟩
abbrev s_field_of : Stmt := topS 22
theorem sc_field_of : FnScope ["_law_e"] ["_law_e"] (defScope s_field_of) := ⟨rfl, rfl, rfl, by decide +kernel, rfl, by decide +kernel, by decide +kernel⟩
abbrev s_try : Stmt := topS 23
theorem sc_try : FnScope ["_law_ask", "_law_e"] ["_law_ask"] (defScope s_try) := ⟨rfl, rfl, rfl, by decide +kernel, rfl, by decide +kernel, by decide +kernel⟩
abbrev s_law : Stmt := topS 24
theorem sc_law : FnScope ["_law_script", "_law_bag", "_law_turn", "_law_due", "_law_row", "_law_bad", "_law_number", "_law_root_z", "_law_count_z", "_law_seen", "_law_most"] ["_law_script"] (defScope s_law) := ⟨rfl, rfl, rfl, by decide +kernel, rfl, by decide +kernel, by decide +kernel⟩
abbrev i_BadCount : Stmt := inClass (topS 3) 0
theorem sc_iBadCount : NScope ["self", "number", "__class__"] ["self", "number"] ["__class__"] (defScope i_BadCount) := nscope_by (by decide +kernel)
abbrev i_NothingLeft : Stmt := inClass (topS 4) 0
theorem sc_iNothingLeft : NScope ["self", "__class__"] ["self"] ["__class__"] (defScope i_NothingLeft) := nscope_by (by decide +kernel)
set_option genInjectivity false in
set_option genSizeOf false in
structure Txt (K : PySem.W.Frag) (mg : Str → Option Value) where
  f_whole_root : Addr
  d_whole_root : FuncData
  F_whole_root : Fun K "whole_root" "whole_root" s_whole_root f_whole_root d_whole_root
  g_whole_root : mg "whole_root" = some (.ref f_whole_root)
  b_whole_root : Binds K d_whole_root ["number"] []
  f_added : Addr
  d_added : FuncData
  F_added : Fun K "added" "added" s_added f_added d_added
  g_added : mg "added" = some (.ref f_added)
  f_scaled : Addr
  d_scaled : FuncData
  F_scaled : Fun K "scaled" "scaled" s_scaled f_scaled d_scaled
  g_scaled : mg "scaled" = some (.ref f_scaled)
  b_scaled : Binds K d_scaled ["pair", "number"] []
  f_floor_of : Addr
  d_floor_of : FuncData
  F_floor_of : Fun K "floor_of" "floor_of" s_floor_of f_floor_of d_floor_of
  g_floor_of : mg "floor_of" = some (.ref f_floor_of)
  b_floor_of : Binds K d_floor_of ["pair", "root"] []
  f_endless_fractions : Addr
  d_endless_fractions : FuncData
  F_endless_fractions : Fun K "endless_fractions" "endless_fractions" s_endless_fractions f_endless_fractions d_endless_fractions
  g_endless_fractions : mg "endless_fractions" = some (.ref f_endless_fractions)
  b_endless_fractions : Binds K d_endless_fractions ["root"] []
  f_fractions : Addr
  d_fractions : FuncData
  F_fractions : Fun K "fractions" "fractions" s_fractions f_fractions d_fractions
  g_fractions : mg "fractions" = some (.ref f_fractions)
  b_fractions : Binds K d_fractions ["root", "count"] []
  f_source : Addr
  d_source : FuncData
  F_source : Fun K "_law_source" "_law_source" s_source f_source d_source
  g_source : mg "_law_source" = some (.ref f_source)
  b_source : Binds K d_source ["_law_script"] []
  f_pull : Addr
  d_pull : FuncData
  F_pull : Fun K "_law_pull" "_law_pull" s_pull f_pull d_pull
  g_pull : mg "_law_pull" = some (.ref f_pull)
  b_pull : Binds K d_pull ["_law_bag", "_law_size"] []
  f_of : Addr
  d_of : FuncData
  F_of : Fun K "_law_of" "_law_of" s_of f_of d_of
  g_of : mg "_law_of" = some (.ref f_of)
  b_of : Binds K d_of ["_law_bag", "_law_some"] []
  f_roots : Addr
  d_roots : FuncData
  F_roots : Fun K "_law_roots" "_law_roots" s_roots f_roots d_roots
  g_roots : mg "_law_roots" = some (.ref f_roots)
  b_roots : Binds K d_roots [] []
  f_a_root : Addr
  d_a_root : FuncData
  F_a_root : Fun K "_law_a_root" "_law_a_root" s_a_root f_a_root d_a_root
  g_a_root : mg "_law_a_root" = some (.ref f_a_root)
  b_a_root : Binds K d_a_root ["_law_bag"] []
  f_lfractions : Addr
  d_lfractions : FuncData
  F_lfractions : Fun K "_law_fractions" "_law_fractions" s_lfractions f_lfractions d_lfractions
  g_lfractions : mg "_law_fractions" = some (.ref f_lfractions)
  b_lfractions : Binds K d_lfractions ["_law_root_z", "_law_count_z"] []
  f_like : Addr
  d_like : FuncData
  F_like : Fun K "_law_like" "_law_like" s_like f_like d_like
  g_like : mg "_law_like" = some (.ref f_like)
  b_like : Binds K d_like ["_law_found", "_law_due"] []
  f_a_far : Addr
  d_a_far : FuncData
  F_a_far : Fun K "_law_a_far" "_law_a_far" s_a_far f_a_far d_a_far
  g_a_far : mg "_law_a_far" = some (.ref f_a_far)
  b_a_far : Binds K d_a_far ["_law_bag"] []
  f_field_of : Addr
  d_field_of : FuncData
  F_field_of : Fun K "_law_field_of" "_law_field_of" s_field_of f_field_of d_field_of
  g_field_of : mg "_law_field_of" = some (.ref f_field_of)
  b_field_of : Binds K d_field_of ["_law_e"] []
  f_try : Addr
  d_try : FuncData
  F_try : Fun K "_law_try" "_law_try" s_try f_try d_try
  g_try : mg "_law_try" = some (.ref f_try)
  b_try : Binds K d_try ["_law_ask"] []
  n_ValueError : mg "ValueError" = none
  n_LookupError : mg "LookupError" = none
  n_IndexError : mg "IndexError" = none
  n_zip : mg "zip" = none
  n_range : mg "range" = none
  n_isinstance : mg "isinstance" = none
  n_sum : mg "sum" = none
  n_list : mg "list" = none
  n_tuple : mg "tuple" = none
  n_len : mg "len" = none
  n_all : mg "all" = none
  n_bool : mg "bool" = none
  kb_fractions_count_root : KBn K d_fractions ["root", "count"] 0 ["count", "root"] (fun us ws : List Value => [ws.getD 1 .none, ws.getD 0 .none]) (fun us ws : List V => [ws.getD 1 .non, ws.getD 0 .non])
  r_GrainError : Addr
  g_GrainError : mg "GrainError" = some (.ref r_GrainError)
  c_GrainError : ∃ cd : ClassData, PySem.W.clsIn K r_GrainError = some cd ∧ cd.name = "GrainError"
  t_GrainError : PySem.W.typeIn K (.ref r_GrainError) = some (.type "type")
  sb_GrainError : PySem.W.subIn K (.ref r_GrainError) (.type "BaseException") = some true
  r_GrainMissing : Addr
  g_GrainMissing : mg "GrainMissing" = some (.ref r_GrainMissing)
  c_GrainMissing : ∃ cd : ClassData, PySem.W.clsIn K r_GrainMissing = some cd ∧ cd.name = "GrainMissing"
  t_GrainMissing : PySem.W.typeIn K (.ref r_GrainMissing) = some (.type "type")
  sb_GrainMissing : PySem.W.subIn K (.ref r_GrainMissing) (.type "BaseException") = some true
  e_BadCount : Er PySem.Challenge.pw_grainyard_k06_fractions_one_by_one K mg "ValueError" "ValueError.__new__" "ValueError.__init__" [.type "ValueError", .type "Exception", .type "BaseException", .type "object"] [.ref r_GrainError] i_BadCount "BadCount" "BadCount.__init__"
  x_BadCount_word : PySem.W.findIn K (.ref e_BadCount.C) "word" = some none
  x_BadCount_number : PySem.W.findIn K (.ref e_BadCount.C) "number" = some none
  e_NothingLeft : Er PySem.Challenge.pw_grainyard_k06_fractions_one_by_one K mg "IndexError" "IndexError.__new__" "IndexError.__init__" [.type "IndexError", .type "LookupError", .type "Exception", .type "BaseException", .type "object"] [] i_NothingLeft "NothingLeft" "NothingLeft.__init__"
  x_NothingLeft_word : PySem.W.findIn K (.ref e_NothingLeft.C) "word" = some none
  hn : PySem.W.specialIn K (.builtin "object.__class__") "__get__" = some (some (.builtin "getset_descriptor.__get__"))
  ht : PySem.W.takesIn K (.builtin "object.__class__") = some true
theorem vals_getD : ∀ {zs : List V} {ws : List Value} (_ : Vals zs ws) (i : Nat), RelV (zs.getD i .non) (ws.getD i .none) := by
  intro zs ws h
  induction h with
  | nil => exact fun _ => rfl
  | cons r t ih =>
    intro i
    cases i with
    | zero => exact r
    | succ i => exact ih i
theorem kbn_fractions_count_root {K : PySem.W.Frag} {f : Addr} {fd : FuncData} (F : Fun K "fractions" "fractions" s_fractions f fd) : KBn K fd ["root", "count"] 0 ["count", "root"] (fun us ws : List Value => [ws.getD 1 .none, ws.getD 0 .none]) (fun us ws : List V => [ws.getD 1 .non, ws.getD 0 .non]) := by
  obtain ⟨o1, o2, v1, v2, v3, a1, v4, v5, s1, rfl, r1, r2⟩ := F.ex
  refine ⟨fun s us ws _ l1 l2 => ?_, fun r1 r2 => .cons (vals_getD r2 1) (.cons (vals_getD r2 0) (.nil))⟩
  match us, ws, l1, l2 with
  | [], [_, _], _, _ => exact .of_eq rfl
section
variable {base : Heap} {K : PySem.W.Frag} {mg : Str → Option Value} {w : World}
theorem ini_BadCount (T : Txt K mg) : FnOk PySem.Challenge.pw_grainyard_k06_fractions_one_by_one w K mg base CX0 1 T.e_BadCount.f ((NFI i_BadCount "BadCount.__init__" T.e_BadCount.cc T.e_BadCount.c).fd T.e_BadCount.doc T.e_BadCount.pm T.e_BadCount.ctv) ["self", "number"] (spIni T.e_BadCount.C 1 fun ws => [("number", ws.getD 0 .non), ("word", .str "BadCount")]) := ok_ini1 erb_VE T.e_BadCount sc_iBadCount rfl T.x_BadCount_word T.x_BadCount_number
theorem bi_BadCount (T : Txt K mg) : Binds K ((NFI i_BadCount "BadCount.__init__" T.e_BadCount.cc T.e_BadCount.c).fd T.e_BadCount.doc T.e_BadCount.pm T.e_BadCount.ctv) ["self", "number"] [] := .all fun us hl => match us, hl with | [_, _], _ => rfl
theorem ini_NothingLeft (T : Txt K mg) : FnOk PySem.Challenge.pw_grainyard_k06_fractions_one_by_one w K mg base CX0 1 T.e_NothingLeft.f ((NFI i_NothingLeft "NothingLeft.__init__" T.e_NothingLeft.cc T.e_NothingLeft.c).fd T.e_NothingLeft.doc T.e_NothingLeft.pm T.e_NothingLeft.ctv) ["self"] (spIni T.e_NothingLeft.C 0 fun _ => [("word", .str "NothingLeft")]) := ok_ini0 erb_IE T.e_NothingLeft sc_iNothingLeft rfl T.x_NothingLeft_word
theorem bi_NothingLeft (T : Txt K mg) : Binds K ((NFI i_NothingLeft "NothingLeft.__init__" T.e_NothingLeft.cc T.e_NothingLeft.c).fd T.e_NothingLeft.doc T.e_NothingLeft.pm T.e_NothingLeft.ctv) ["self"] [] := .all fun us hl => match us, hl with | [_], _ => rfl
end
/-! ### heaps, and the bag that the draws change -/
def Keep (b : Addr) (H H' : Hp) : Prop := ∀ a o, a ≠ b → H a = some o → H' a = some o
theorem Keep.refl {b : Addr} (H : Hp) : Keep b H H := fun _ _ _ e => e
theorem Keep.trans {b : Addr} {H H1 H2 : Hp} (x : Keep b H H1) (y : Keep b H1 H2) : Keep b H H2 := fun a o n e => y a o n (x a o n e)
theorem keep_put {b : Addr} {H : Hp} {o : HO} : Keep b H (upd H b o) := fun a u n e => (upd_ne n).trans e
theorem keep_new {b p : Addr} {H : Hp} {o : HO} (hp : H p = none) : Keep b H (upd H p o) := fun a u _ e => (upd_ne (ne_of_none e hp)).trans e
theorem same_new {p : Addr} {H : Hp} {o : HO} (hp : H p = none) : Same H (upd H p o) := fun a u e => (upd_ne (ne_of_none e hp)).trans e
theorem keep_of {b : Addr} {H H' : Hp} (s : Same H H') : Keep b H H' := fun a o _ e => s a o e
theorem Same.keep {b : Addr} {H H1 H2 : Hp} (s : Same H H1) (k : Keep b H1 H2) (hb : H b = none) : Same H H2 := fun a o e => k a o (ne_of_none e hb) (s a o e)
structure BagAt (H : Hp) (b s : Addr) (ns : List Int) (i j m c : Int) : Prop where
  hb : H b = some (.lst [.ref s, .int i, .int j, .int m, .int c])
  hs : H s = some (.lst (ns.map V.int))
  i0 : 0 ≤ i
  i1 : i ≤ (ns.length : Int)
  m0 : 0 ≤ m
  m1 : m < 2147483399
def Bag (H : Hp) (b sb : Addr) : Prop := ∃ (ns : List Int) (i j m c : Int), BagAt H b sb ns i j m c
theorem BagAt.ne {H : Hp} {b s : Addr} {ns : List Int} {i j m c : Int} (B : BagAt H b s ns i j m c) : s ≠ b := ne_of B.hs B.hb (by
  intro e
  injection e with e
  cases ns with
  | nil => simp at e
  | cons x r => simp at e)
theorem BagAt.put {H : Hp} {b s : Addr} {ns : List Int} {i j m c : Int} (B : BagAt H b s ns i j m c) {i' j' m' c' : Int} (h0 : 0 ≤ i') (h1 : i' ≤ (ns.length : Int)) (h2 : 0 ≤ m') (h3 : m' < 2147483399) :
    BagAt (upd H b (.lst [.ref s, .int i', .int j', .int m', .int c'])) b s ns i' j' m' c' := ⟨upd_same, (upd_ne B.ne).trans B.hs, h0, h1, h2, h3⟩
theorem BagAt.same {H H' : Hp} {b s : Addr} {ns : List Int} {i j m c : Int} (B : BagAt H b s ns i j m c) (e : Same H H') : BagAt H' b s ns i j m c := ⟨e _ _ B.hb, e _ _ B.hs, B.i0, B.i1, B.m0, B.m1⟩
theorem Bag.same {H H' : Hp} {b sb : Addr} (B : Bag H b sb) (e : Same H H') : Bag H' b sb := by
  obtain ⟨ns, i, j, m, c, B⟩ := B
  exact ⟨ns, i, j, m, c, B.same e⟩
theorem Bag.new {H : Hp} {b sb p : Addr} {o : HO} (B : Bag H b sb) (hp : H p = none) : Bag (upd H p o) b sb := B.same (same_new hp)
theorem Bag.ne {H : Hp} {b sb p : Addr} (B : Bag H b sb) (hp : H p = none) : p ≠ b := by
  obtain ⟨ns, i, j, m, c, B⟩ := B
  exact (ne_of_none B.hb hp).symm
theorem Bag.ne2 {H : Hp} {b sb p : Addr} (B : Bag H b sb) (hp : H p = none) : p ≠ sb := by
  obtain ⟨ns, i, j, m, c, B⟩ := B
  exact (ne_of_none B.hs hp).symm
theorem Bag.tup {H : Hp} {b sb p : Addr} {xs : List V} (B : Bag H b sb) (hp : H p = some (.tup xs)) : p ≠ b := by
  obtain ⟨ns, i, j, m, c, B⟩ := B
  exact ne_of hp B.hb (by intro z; cases z)
theorem Bag.put {H : Hp} {b sb l : Addr} {o : HO} (B : Bag H b sb) (h1 : l ≠ b) (h2 : l ≠ sb) : Bag (upd H l o) b sb := by
  obtain ⟨ns, i, j, m, c, B⟩ := B
  exact ⟨ns, i, j, m, c, (upd_ne h1.symm).trans B.hb, (upd_ne h2.symm).trans B.hs, B.i0, B.i1, B.m0, B.m1⟩
theorem Keep.list {K : PySem.W.Frag} {H H' : Hp} {b p : Addr} {xs : List V} (k : Keep b H H') (hp : p ≠ b) (h : H p = some (.lst xs)) : SqL K H' p xs := SqL.of (k _ _ hp h)
theorem at_some {α : Type} {xs : List α} {i : Int} (h0 : 0 ≤ i) (h1 : i < (xs.length : Int)) : ∃ v, xs[i.toNat]? = some v ∧ atI xs i = some v := by
  obtain ⟨n, rfl⟩ := Int.eq_ofNat_of_zero_le h0
  have hl : n < xs.length := by omega
  exact ⟨xs[n], by simp [hl], atI_nat (by simp [hl])⟩
theorem at_ex {ns : List Int} {i : Int} (h0 : 0 ≤ i) (h1 : i < (ns.length : Int)) : ∃ z, atI (ns.map V.int) i = some (.int z) := by
  obtain ⟨n, rfl⟩ := Int.eq_ofNat_of_zero_le h0
  have hl : n < ns.length := by omega
  exact ⟨ns[n], atI_nat (by simp [hl])⟩
/-! ### f(k = v, ..): keywords alone -/
section
variable {X : Cx}
theorem pe_kwOnly {CX : CXT} {k : Nat} {f : Addr} {fd : FuncData} {ps ks : List Str} {sp : Sp} {E : XK} {x : Str} {p pos : Pos} {kws : List Keyword} {tk : TA} {g : List Value → List Value → List Value} {gV : List V → List V → List V}
    (F : FnOk X.prog X.w X.K X.mg X.base CX k f fd ps sp) (hr : Room k X.A) (hg : Gl X x) (hm : X.mg x = some (.ref f))
    (hk : PySem.W.keepIn X.K (.ref f) = true) (hb : KBn X.K fd ps 0 ks g gV) (hx : Passes CX X E) (hkw : PK X kws tk)
    (hall : (backToKw pos (keywordEach kws X.env)).all (·.1.isSome) = true := by rfl)
    (hks : (backToKw pos (keywordEach kws X.env)).filterMap (·.1) = ks := by rfl)
    (hdb : (x == ("__debug__" : Str)) = false := by decide)
    (hpl : ((backTo pos (starEach [] X.env)).any (·.1) || (backToKw pos (keywordEach kws X.env)).any (·.1.isNone)) = false := by rfl) :
    PE X (.Call (.Name x p) [] kws pos) (fun σ H Q => tk σ H fun zs H2 => zs.length = ks.length ∧ sp (gV [] zs) H2 Q E) := by
  refine ⟨fun pins s σ H Q I h => wpAny_Call_Name_kw (ld_glob I hg hm ?_ hdb)⟩
  refine PySem.W.callWith_KW0 (h₀ := X.base) I.ok.mod.kin hk hall ?_ hpl
  refine thn (hkw.run pos pins s σ H _ I h) fun ws s2 ⟨zs, H2, I2, rz, l2, q2⟩ => ⟨I2.kIn, ?_⟩
  rw [hks]
  exact run_fnN (us := []) (vs := []) F hr hb hx I2 .nil rz rfl l2 q2
end
/-! ### the law's own draws -/
section
variable {base : Heap} {K : PySem.W.Frag} {mg : Str → Option Value} {P : Program} {w : World}
def spPull : Sp := fun vs H Q _ => ∃ (b sb : Addr) (n : Int), vs = [.ref b, .int n] ∧ Bag H b sb ∧ 0 < n ∧ n.natAbs < 2 ^ 100 ∧ ∀ z H', 0 ≤ z → z < n → Bag H' b sb → Keep b H H' → Q (.int z) H'
theorem ok_pull (T : Txt K mg) : FnOk P w K mg base CX0 1 T.f_pull T.d_pull ["_law_bag", "_law_size"] spPull := by
  refine T.F_pull.ok sc_pull (fun vs H Q E h => ?_) (fun cdv A outer s H vs Q E hr h => ?_)
  · obtain ⟨b, sb, n, rfl, _⟩ := h
    rfl
  · obtain ⟨b, s1, n, rfl, ⟨ns, i, j, m, c, B⟩, h0, h1, q⟩ := h
    refine ⟨_, (pss_cons (ps_asg (pe_op op_add (pe_ix ix_list (pv 0) pe_int (fun _ _ => rfl)) pe_int) (pg_sub (pv 0) pe_int set_list))
      (Evl.pss_cut (ps_if (PW.pt (pw_and (pt_cmpR op_eq (pe_ix ix_list (pv 0) pe_int (fun _ _ => rfl)) pe_int (nomark _)) (pw_and1 (pt_cmpR op_lt (pe_ix ix_list (pv 0) pe_int (fun _ _ => rfl)) (pe_callB call_len_seq (by rfl) T.n_len (by decide +kernel) (pa_cons (pe_ix ix_list (pv 0) pe_int (fun _ _ => rfl)) pa_nil)) (nomark _))))) (pss_cons (ps_set (i := 3) sc_pull.nd rfl (Or.inl rfl) (pe_ix ix_list (pe_ix ix_list (pv 0) pe_int (fun _ _ => rfl)) (pe_ix ix_list (pv 0) pe_int (fun _ _ => rfl)) (fun _ _ => rfl)))
      (pss_cons (ps_asg (pe_op op_add (pe_ix ix_list (pv 0) pe_int (fun _ _ => rfl)) pe_int) (pg_sub (pv 0) pe_int set_list))
      (pss_one (ps_if (pt_cmpR op_ge (pv 3) (pe_op op_pow pe_int pe_int) (nomark _)) (pss_one (ps_asg (pv 3) (pg_sub (pv 0) pe_int set_list))) (pss_cons (ps_set (i := 2) sc_pull.nd rfl (Or.inl rfl) (pe_op op_add (pe_op op_mul (pe_ix ix_list (pv 0) pe_int (fun _ _ => rfl)) pe_int) (pe_op op_mul (pe_op op_mod (pv 3) pe_int) pe_int)))
      (pss_one (ps_asg (pe_op op_mod (pe_op op_add (pv 2) pe_int) pe_int) (pg_sub (pv 0) pe_int set_list)))))))) pss_nil)
      (pss_cons (ps_if (pt_cmpR op_gt (pe_ix ix_list (pv 0) pe_int (fun _ _ => rfl)) pe_int (nomark _)) (pss_cons (ps_set (i := 4) sc_pull.nd rfl (Or.inl rfl) (pe_op op_mod (pe_ix ix_list (pv 0) pe_int (fun _ _ => rfl)) (pv 1)))
      (pss_cons (ps_asg (pe_op op_fdivW (pe_ix ix_list (pv 0) pe_int (fun _ _ => rfl)) (pv 1)) (pg_sub (pv 0) pe_int set_list))
      (pss_one (ps_ret (pv 4))))) pss_nil)
      (pss_cons (ps_set (i := 2) sc_pull.nd rfl (Or.inl rfl) (pe_op op_add (pe_op op_mul (pe_op op_mul (pe_ix ix_list (pv 0) pe_int (fun _ _ => rfl)) (pe_ix ix_list (pv 0) pe_int (fun _ _ => rfl))) pe_int) (pe_op op_mul (pe_ix ix_list (pv 0) pe_int (fun _ _ => rfl)) pe_int)))
      (pss_cons (ps_asg (pe_op op_mod (pe_op op_add (pv 2) (pe_op op_mul pe_int (pe_ix ix_list (pv 0) pe_int (fun _ _ => rfl)))) pe_int) (pg_sub (pv 0) pe_int set_list))
      (pss_one (ps_ret (pe_op op_mod (pe_op op_fdiv (pe_ix ix_list (pv 0) pe_int (fun _ _ => rfl)) pe_int) (pv 1))))))))), ?_⟩
    -- the count of the draws
    have B1 := B.put (j' := j) (c' := c + 1) B.i0 B.i1 B.m0 B.m1
    refine ⟨.ref b, rfl, b, _, 4, .int c, rfl, rfl, SqL.of B.hb, atI_nat (j := 4) rfl, c, 1, rfl, rfl, .ref b, rfl, b, _, 4, 4, rfl, rfl, B.hb, rfl, ?_⟩
    refine ⟨fun σ H' => ∃ y2 y3 y4, σ = [some (.ref b), some (.int n), y2, y3, y4] ∧ Bag H' b s1 ∧ Keep b H H', ?_, ?_⟩
    · -- the next cell of the script
      refine ⟨.ref b, rfl, b, _, 2, .int j, rfl, rfl, SqL.of B1.hb, atI_nat (j := 2) rfl, rfl, _, rfl, ite2 (fun e => ?_) (fun e => ?_)⟩
      · refine ⟨.ref b, rfl, b, _, 1, .int i, rfl, rfl, SqL.of B1.hb, atI_nat (j := 1) rfl, .ref b, rfl, b, _, 0, .ref s1, rfl, rfl, SqL.of B1.hb, atI_nat (j := 0) rfl, s1, _, rfl, .inl (SqL.of B1.hs), i, _, rfl, rfl, _, rfl, ite2 (fun e2 => ?_) (fun e2 => ?_)⟩
        · have e3 : i < (ns.length : Int) := by
            have := of_decide_eq_true e2
            rw [List.length_map] at this
            exact this
          obtain ⟨z, hz⟩ := at_ex B.i0 e3
          have B2 := B1.put (j' := j) (c' := c + 1) (show 0 ≤ i + 1 by have := B.i0; omega) (show i + 1 ≤ (ns.length : Int) by omega) B.m0 B.m1
          refine ⟨.ref b, rfl, b, _, 0, .ref s1, rfl, rfl, SqL.of B1.hb, atI_nat (j := 0) rfl, .ref b, rfl, b, _, 1, .int i, rfl, rfl, SqL.of B1.hb, atI_nat (j := 1) rfl, s1, _, i, _, rfl, rfl, SqL.of B1.hs, hz, ?_⟩
          refine ⟨.ref b, rfl, b, _, 1, .int i, rfl, rfl, SqL.of B1.hb, atI_nat (j := 1) rfl, i, 1, rfl, rfl, .ref b, rfl, b, _, 1, 1, rfl, rfl, B1.hb, rfl, ?_⟩
          refine ⟨_, rfl, 10, 18, rfl, rfl, ⟨by decide, by decide, by decide⟩, z, _, rfl, rfl, _, rfl, ite2 (fun e4 => ?_) (fun e4 => ?_)⟩
          · have B3 := B2.put (j' := z) (c' := c + 1) (show 0 ≤ i + 1 by have := B.i0; omega) (show i + 1 ≤ (ns.length : Int) by omega) B.m0 B.m1
            refine ⟨_, rfl, .ref b, rfl, b, _, 2, 2, rfl, rfl, B2.hb, rfl, ?_⟩
            exact ⟨_, _, _, rfl, ⟨ns, _, _, _, _, B3⟩, keep_put.trans (keep_put.trans keep_put)⟩
          · refine ⟨.ref b, rfl, b, _, 3, .int m, rfl, rfl, SqL.of B2.hb, atI_nat (j := 3) rfl, m, 40014, rfl, rfl, .inr ⟨by decide, by decide⟩, _, rfl, z, 2147483399, rfl, rfl, (by show (0 : Int) < 2147483399; decide), _, 69069, rfl, rfl, .inr ⟨by decide, by decide⟩, _, _, rfl, rfl, ?_⟩
            refine ⟨_, rfl, _, 11, rfl, rfl, _, 2147483399, rfl, rfl, (by show (0 : Int) < 2147483399; decide), .ref b, rfl, b, _, 3, 3, rfl, rfl, B2.hb, rfl, ?_⟩
            have B3 := B2.put (j' := j) (m' := (m * 40014 + z % 2147483399 * 69069 + 11) % 2147483399) (c' := c + 1) (show 0 ≤ i + 1 by have := B.i0; omega) (show i + 1 ≤ (ns.length : Int) by omega) (by omega) (by omega)
            exact ⟨_, _, _, rfl, ⟨ns, _, _, _, _, B3⟩, keep_put.trans (keep_put.trans keep_put)⟩
        · exact ⟨_, _, _, rfl, ⟨ns, _, _, _, _, B1⟩, keep_put⟩
      · exact ⟨_, _, _, rfl, ⟨ns, _, _, _, _, B1⟩, keep_put⟩
    · rintro σ H' ⟨y2, y3, y4, rfl, ⟨ns2, i2, j2, m2, c2, B2⟩, k2⟩
      refine ⟨.ref b, rfl, b, _, 2, .int j2, rfl, rfl, SqL.of B2.hb, atI_nat (j := 2) rfl, j2, 0, rfl, rfl, _, rfl, ite2 (fun e => ?_) (fun e => ?_)⟩
      · have B3 := B2.put (j' := j2 / n) (c' := c2) B2.i0 B2.i1 B2.m0 B2.m1
        refine ⟨.ref b, rfl, b, _, 2, .int j2, rfl, rfl, SqL.of B2.hb, atI_nat (j := 2) rfl, .int n, rfl, j2, n, rfl, rfl, h0, ?_⟩
        refine ⟨.ref b, rfl, b, _, 2, .int j2, rfl, rfl, SqL.of B2.hb, atI_nat (j := 2) rfl, .int n, rfl, j2, n, rfl, rfl, wide_div h0 h1 (by decide) (by decide), .ref b, rfl, b, _, 2, 2, rfl, rfl, B2.hb, rfl, ?_⟩
        exact ⟨_, rfl, q _ _ (Int.emod_nonneg _ (by omega)) (Int.emod_lt_of_pos _ h0) ⟨ns2, _, _, _, _, B3⟩ (k2.trans keep_put)⟩
      · have hm : -(2 ^ 64) < m2 ∧ m2 < 2 ^ 64 := ⟨by have := B2.m0; omega, by have := B2.m1; omega⟩
        refine ⟨.ref b, rfl, b, _, 3, .int m2, rfl, rfl, SqL.of B2.hb, atI_nat (j := 3) rfl, .ref b, rfl, b, _, 3, .int m2, rfl, rfl, SqL.of B2.hb, atI_nat (j := 3) rfl, m2, m2, rfl, rfl, .inl hm, _, 7, rfl, rfl, .inr ⟨by decide, by decide⟩,
          .ref b, rfl, b, _, 3, .int m2, rfl, rfl, SqL.of B2.hb, atI_nat (j := 3) rfl, m2, 40692, rfl, rfl, .inr ⟨by decide, by decide⟩, _, _, rfl, rfl, ?_⟩
        refine ⟨_, rfl, .ref b, rfl, b, _, 4, .int c2, rfl, rfl, SqL.of B2.hb, atI_nat (j := 4) rfl, 1013904223, c2, rfl, rfl, .inl ⟨by decide, by decide⟩, _, _, rfl, rfl, _, 2147483399, rfl, rfl, (by show (0 : Int) < 2147483399; decide), .ref b, rfl, b, _, 3, 3, rfl, rfl, B2.hb, rfl, ?_⟩
        have B3 := B2.put (j' := j2) (m' := (m2 * m2 * 7 + m2 * 40692 + 1013904223 * c2) % 2147483399) (c' := c2) B2.i0 B2.i1 (Int.emod_nonneg _ (by decide)) (Int.emod_lt_of_pos _ (by decide))
        refine ⟨.ref b, rfl, b, _, 3, _, rfl, rfl, SqL.of B3.hb, atI_nat (j := 3) rfl, _, 37, rfl, rfl, ⟨by decide, by decide⟩, .int n, rfl, _, n, rfl, rfl, h0, ?_⟩
        exact q _ _ (Int.emod_nonneg _ (by omega)) (Int.emod_lt_of_pos _ h0) ⟨ns2, _, _, _, _, B3⟩ (k2.trans keep_put)
def spOf : Sp := fun vs H Q _ => ∃ (b sb l : Addr) (xs : List V), vs = [.ref b, .ref l] ∧ Bag H b sb ∧ H l = some (.lst xs) ∧ l ≠ b ∧ 0 < xs.length ∧ xs.length ≤ 1000 ∧ ∀ (i : Nat) (v : V) (H' : Hp), xs[i]? = some v → Bag H' b sb → Keep b H H' → Q v H'
theorem ok_of (T : Txt K mg) : FnOk P w K mg base CX0 2 T.f_of T.d_of ["_law_bag", "_law_some"] spOf := by
  refine T.F_of.ok sc_of (fun vs H Q E h => ?_) (fun cdv A outer s H vs Q E hr h => ?_)
  · obtain ⟨b, sb, l, xs, rfl, _⟩ := h
    rfl
  · obtain ⟨b, sb, l, xs, rfl, B, hl, nl, h0, h1, q⟩ := h
    refine ⟨_, (pss_one (ps_ret (pe_ix ix_list (pv 1) (pe_call (ok_pull T) (hr.mono (by decide)) (by rfl) T.g_pull T.F_pull.kp T.b_pull .nil pass0 (pa_cons (pv 0) (pa_cons (pe_callB call_len_seq (by rfl) T.n_len (by decide +kernel) (pa_cons (pv 1) pa_nil)) pa_nil))) (fun _ _ => rfl)))), ?_⟩
    have hn : ((xs.length : Int)).natAbs < 2 ^ 100 := Nat.lt_of_le_of_lt (show (xs.length : Int).natAbs ≤ 1000 by omega) (by decide)
    refine ⟨.ref l, rfl, .ref b, rfl, .ref l, rfl, l, xs, rfl, .inl (SqL.of hl), b, sb, _, rfl, B, (by show (0 : Int) < (xs.length : Int); omega), hn, fun z H' z0 z1 B' k' => ?_⟩
    obtain ⟨v, e1, e2⟩ := at_some z0 z1
    exact ⟨l, xs, z, v, rfl, rfl, k'.list nl hl, e2, q _ _ _ e1 B' k'⟩
end
section
variable {base : Heap} {K : PySem.W.Frag} {mg : Str → Option Value} {P : Program} {w : World}
def okR (x : Int) : Bool := !inV (.int x) [.int 4, .int 9, .int 16, .int 25, .int 36, .int 49, .int 64, .int 81]
def rootsTo : Nat → List Int
  | 0 => []
  | n + 1 => if okR (2 + (n : Int)) = true then rootsTo n ++ [2 + (n : Int)] else rootsTo n
theorem rootsTo_len : ∀ n, (rootsTo n).length ≤ n
  | 0 => Nat.le_refl _
  | n + 1 => by
    have := rootsTo_len n
    unfold rootsTo
    split
    · rw [List.length_append]
      simp
      omega
    · omega
def IsRoot (d : Int) : Prop := 2 ≤ d ∧ d ≤ 99 ∧ ∃ k : Int, 0 ≤ k ∧ k * k < d ∧ d < (k + 1) * (k + 1)
def kOf (d : Int) : Int := if d < 4 then 1 else if d < 9 then 2 else if d < 16 then 3 else if d < 25 then 4 else if d < 36 then 5 else if d < 49 then 6 else if d < 64 then 7 else if d < 81 then 8 else 9
theorem roots_are {d : Int} (h : d ∈ rootsTo 98) : IsRoot d := by
  have z : ∀ d ∈ rootsTo 98, 2 ≤ d ∧ d ≤ 99 ∧ 0 ≤ kOf d ∧ kOf d * kOf d < d ∧ d < (kOf d + 1) * (kOf d + 1) := by decide +kernel
  obtain ⟨a, b, c⟩ := z d h
  exact ⟨a, b, kOf d, c⟩
theorem isRoot_by {d : Int} (h : 2 ≤ d ∧ d ≤ 99 ∧ 0 ≤ kOf d ∧ kOf d * kOf d < d ∧ d < (kOf d + 1) * (kOf d + 1)) : IsRoot d := ⟨h.1, h.2.1, kOf d, h.2.2⟩
def spRoots : Sp := fun vs H Q _ => vs = [] ∧ ∀ p H', H p = none → Same H H' → H' p = some (.lst ((rootsTo 98).map V.int)) → Q (.ref p) H'
theorem ok_roots (T : Txt K mg) : FnOk P w K mg base CX0 1 T.f_roots T.d_roots [] spRoots := by
  refine T.F_roots.ok sc_roots (fun vs H Q E h => ?_) (fun cdv A outer s H vs Q E hr h => ?_)
  · obtain ⟨rfl, _⟩ := h
    rfl
  · obtain ⟨rfl, q⟩ := h
    refine ⟨_, (pss_one (ps_ret (pe_lc (own := [("_law_d", 0)]) (g := (gName 0)) (tt := tTest (tOp (rIn K true) _ _)) (by rfl) sc_roots.nd (pi_range2 (by rfl) T.n_range (pa_cons pe_int (pa_cons pe_int pa_nil))) (blkOk_by (own := [("_law_d", 0)]) (N := ["_law_d"]) (sc := defScope s_roots) (by decide +kernel)) (fun _ _ _ _ _ => (pg_name (i := 0) sc_roots.nd rfl (Or.inl rfl))) (fun _ _ _ _ _ => (pts_one (pt_cmpR op_notIn_seq (pv 0) (pe_tup (pa_cons pe_int (pa_cons pe_int (pa_cons pe_int (pa_cons pe_int (pa_cons pe_int (pa_cons pe_int (pa_cons pe_int (pa_cons pe_int pa_nil))))))))) (by rfl)))) (fun _ _ _ _ _ => (pv 0))))), ?_⟩
    refine ⟨2, 100, rfl, ⟨by decide, by decide, by decide, by decide⟩, fun D hD => ?_⟩
    refine lc_range (lo := 2) (n := 98) (fun i H' => Same H H' ∧ H' D = some (.lst ((rootsTo i).map V.int))) ⟨same_new hD, upd_same⟩ ?_ ?_
    · rintro i H' hi ⟨sm, hd⟩
      refine ⟨rfl, _, rfl, (by show 8 ≤ sizeLine; decide), fun t ht => ?_⟩
      refine ⟨t, _, rfl, .inr (SqT.of upd_same), rfl, rfl, _, rfl, ?_⟩
      have hd2 : (upd H' t (.tup [.int 4, .int 9, .int 16, .int 25, .int 36, .int 49, .int 64, .int 81])) D = some (.lst ((rootsTo i).map V.int)) := (upd_ne (ne_of_none hd ht)).trans hd
      refine ite2 (fun e => ?_) (fun e => ?_)
      · refine ⟨_, rfl, _, hd2, ?_, ?_, ?_⟩
        · rw [List.length_map]
          have := rootsTo_len i
          exact small1000 (by omega)
        · exact fun a o z => (upd_ne (ne_of_none z hD)).trans ((sm.trans (same_new ht)) a o z)
        · rw [upd_same]
          have e' : okR (2 + (i : Int)) = true := e
          rw [show rootsTo (i + 1) = rootsTo i ++ [2 + (i : Int)] by
            show (if okR (2 + (i : Int)) = true then rootsTo i ++ [2 + (i : Int)] else rootsTo i) = _
            rw [if_pos e'], List.map_append]
          rfl
      · refine ⟨sm.trans (same_new ht), ?_⟩
        have e' : ¬ okR (2 + (i : Int)) = true := e
        rw [show rootsTo (i + 1) = rootsTo i by
          show (if okR (2 + (i : Int)) = true then rootsTo i ++ [2 + (i : Int)] else rootsTo i) = _
          rw [if_neg e']]
        exact hd2
    · rintro H' ⟨sm, hd⟩
      exact q D H' hD sm hd
end
section
variable {base : Heap} {K : PySem.W.Frag} {mg : Str → Option Value} {P : Program} {w : World}
def spARoot : Sp := fun vs H Q _ => ∃ b sb : Addr, vs = [.ref b] ∧ Bag H b sb ∧ ∀ d H', IsRoot d → Bag H' b sb → Keep b H H' → Q (.int d) H'
theorem root_in {i : Nat} {v : V} (h : ((rootsTo 98).map V.int)[i]? = some v) : ∃ d, v = .int d ∧ IsRoot d := by
  rw [List.getElem?_map] at h
  cases e : (rootsTo 98)[i]? with
  | none =>
    rw [e] at h
    cases h
  | some d =>
    rw [e] at h
    exact ⟨d, (Option.some.inj h).symm, roots_are (List.mem_of_getElem? e)⟩
theorem ok_a_root (T : Txt K mg) : FnOk P w K mg base CX0 3 T.f_a_root T.d_a_root ["_law_bag"] spARoot := by
  refine T.F_a_root.ok sc_a_root (fun vs H Q E h => ?_) (fun cdv A outer s H vs Q E hr h => ?_)
  · obtain ⟨b, sb, rfl, _⟩ := h
    rfl
  · obtain ⟨b, sb, rfl, B, q⟩ := h
    refine ⟨_, (pss_one (ps_ret (pe_call (ok_of T) (hr.mono (by decide)) (by rfl) T.g_of T.F_of.kp T.b_of .nil pass0 (pa_cons (pv 0) (pa_cons (pe_lst (pa_cons pe_int (pa_cons pe_int (pa_cons pe_int (pa_cons pe_int (pa_cons (pe_call (ok_of T) (hr.mono (by decide)) (by rfl) T.g_of T.F_of.kp T.b_of .nil pass0 (pa_cons (pv 0) (pa_cons (pe_call0 (ok_roots T) (hr.mono (by decide)) (by rfl) T.g_roots T.F_roots.kp T.b_roots .nil pass0) pa_nil))) (pa_cons (pe_call (ok_of T) (hr.mono (by decide)) (by rfl) T.g_of T.F_of.kp T.b_of .nil pass0 (pa_cons (pv 0) (pa_cons (pe_call0 (ok_roots T) (hr.mono (by decide)) (by rfl) T.g_roots T.F_roots.kp T.b_roots .nil pass0) pa_nil))) pa_nil))))))) pa_nil))))), ?_⟩
    have hz : ((rootsTo 98).map V.int).length = 90 := by decide +kernel
    refine ⟨.ref b, rfl, .ref b, rfl, rfl, fun p H1 hp s1 h1 => ?_⟩
    refine ⟨b, sb, p, _, rfl, B.same s1, h1, B.ne hp, by omega, by omega, fun i v H2 hv B2 k2 => ?_⟩
    obtain ⟨r1, rfl, i1⟩ := root_in hv
    refine ⟨.ref b, rfl, rfl, fun p' H3 hp' s3 h3 => ?_⟩
    refine ⟨b, sb, p', _, rfl, B2.same s3, h3, B2.ne hp', by omega, by omega, fun i' v' H4 hv' B4 k4 => ?_⟩
    obtain ⟨r2, rfl, i2⟩ := root_in hv'
    refine ⟨(by show 6 ≤ sizeLine; decide), fun l hl => ?_⟩
    refine ⟨b, sb, l, _, rfl, B4.new hl, upd_same, B4.ne hl, by simp, by simp, fun i v H5 hv B5 k5 => ?_⟩
    have kk : Keep b H H5 := (keep_of s1).trans (k2.trans ((keep_of s3).trans (k4.trans ((keep_new hl).trans k5))))
    match i, hv with
    | 0, hv => cases hv; exact q 2 H5 (isRoot_by (by decide)) B5 kk
    | 1, hv => cases hv; exact q 3 H5 (isRoot_by (by decide)) B5 kk
    | 2, hv => cases hv; exact q 5 H5 (isRoot_by (by decide)) B5 kk
    | 3, hv => cases hv; exact q 99 H5 (isRoot_by (by decide)) B5 kk
    | 4, hv => cases hv; exact q r1 H5 i1 B5 kk
    | 5, hv => cases hv; exact q r2 H5 i2 B5 kk
    | n + 6, hv => simp at hv
end
section
variable {base : Heap} {K : PySem.W.Frag} {mg : Str → Option Value} {P : Program} {w : World}
def spSource (K : PySem.W.Frag) : Sp := fun vs H Q _ => ∃ (a : Addr) (ns : List Int), vs = [.ref a] ∧ SqL K H a (ns.map V.int) ∧ ns.length ≤ 63 ∧ ∀ b sb H', H b = none → Same H H' → Bag H' b sb → Q (.ref b) H'
theorem ok_source (T : Txt K mg) : FnOk P w K mg base CX0 1 T.f_source T.d_source ["_law_script"] (spSource K) := by
  refine T.F_source.ok sc_source (fun vs H Q E h => ?_) (fun cdv A outer s H vs Q E hr h => ?_)
  · obtain ⟨a, ns, rfl, _⟩ := h
    rfl
  · obtain ⟨a, ns, rfl, hS, hlen, q⟩ := h
    refine ⟨_, (pss_cons (ps_set (i := 1) sc_source.nd rfl (Or.inl rfl) pe_int)
      (pss_cons (ps_for PassesOwn.never rfl (pi_list (pe_slice sl_list (pv 0) po_none (po_some pe_int))) (pg_name (i := 2) sc_source.nd rfl (Or.inl rfl)) (pss_one (ps_set (i := 1) sc_source.nd rfl (Or.inl rfl) (pe_op op_mod (pe_op op_add (pe_op op_add (pe_op op_mul (pv 1) pe_int) (pe_op op_mod (pv 2) pe_int)) pe_int) pe_int))))
      (pss_one (ps_ret (pe_lst (pa_cons (pe_callTy call_list_of (by rfl) T.n_list (by decide +kernel) (pa_cons (pe_slice sl_list (pv 0) po_none (po_some pe_int)) pa_nil)) (pa_cons pe_int (pa_cons pe_int (pa_cons (pv 1) (pa_cons pe_int pa_nil)))))))))), ?_⟩
    have hcut : cutV (ns.map V.int) none (some 63) = ns.map V.int := by
      unfold cutV
      rw [HT.sIx_none, show HT.sIx (ns.map V.int).length (ns.map V.int).length (some 63) = min 63 (ns.map V.int).length from HT.sIx_nat _ _ 63]
      rw [List.drop_zero, List.length_map, Nat.sub_zero, Nat.min_eq_right hlen]
      exact List.take_of_length_le (by rw [List.length_map]; exact Nat.le_refl _)
    refine ⟨.ref a, rfl, 63, rfl, a, _, rfl, hS, fun p hp => ?_⟩
    rw [hcut]
    refine ⟨p, rfl, ⟨_, SqL.of upd_same⟩, for_list (K := K) (a := p) (xs := ns.map V.int) (fun i σ H2 => ∃ (m : Int) (y : Option V), σ = [some (.ref a), some (.int m), y] ∧ 0 ≤ m ∧ m < 2147483399 ∧ H2 = upd H p (.lst (ns.map V.int)))
      ⟨3812, none, rfl, by decide, by decide, rfl⟩ (fun i σ H2 _ ⟨_, _, _, _, _, e⟩ => by rw [e]; exact SqL.of upd_same) ?_ ?_⟩
    · rintro i x σ H2 hx ⟨m, y, rfl, m0, m1, rfl⟩
      obtain ⟨z, rfl⟩ : ∃ z, x = V.int z := by
        rw [List.getElem?_map] at hx
        cases e : ns[i]? with
        | none =>
          rw [e] at hx
          cases hx
        | some z =>
          rw [e] at hx
          exact ⟨z, (Option.some.inj hx).symm⟩
      refine ⟨_, rfl, m, 40692, rfl, rfl, .inr ⟨by decide, by decide⟩, _, rfl, z, 2147483399, rfl, rfl, (by show (0 : Int) < 2147483399; decide), _, _, rfl, rfl, _, 17, rfl, rfl, _, 2147483399, rfl, rfl, (by show (0 : Int) < 2147483399; decide), ?_⟩
      exact ⟨_, _, rfl, Int.emod_nonneg _ (by decide), Int.emod_lt_of_pos _ (by decide), rfl⟩
    · rintro σ H2 ⟨m, y, rfl, m0, m1, rfl⟩
      have hS2 : SqL K (upd H p (.lst (ns.map V.int))) a (ns.map V.int) := (same_new hp).seq hS
      refine ⟨.ref a, rfl, 63, rfl, a, _, rfl, hS2, fun p2 hp2 => ?_⟩
      rw [hcut]
      refine ⟨p2, _, rfl, .inl (SqL.of upd_same), fun l hl => ?_⟩
      refine ⟨_, rfl, (by show 5 ≤ sizeLine; decide), fun b hb => ?_⟩
      have sm : Same H (upd (upd (upd (upd H p (.lst (ns.map V.int))) p2 (.lst (ns.map V.int))) l (.lst (ns.map V.int))) b (.lst [.ref l, .int 0, .int 0, .int m, .int 0])) := (same_new hp).trans ((same_new hp2).trans ((same_new hl).trans (same_new hb)))
      exact q b l _ (((same_new hp).trans ((same_new hp2).trans (same_new hl))).free hb) sm ⟨ns, 0, 0, m, 0, upd_same, same_new hb _ _ upd_same, Int.le_refl _, by omega, m0, m1⟩
end
section
variable {base : Heap} {K : PySem.W.Frag} {mg : Str → Option Value} {P : Program} {w : World}
def spFar : Sp := fun vs H Q _ => ∃ b sb : Addr, vs = [.ref b] ∧ Bag H b sb ∧ ∀ x H', 10 ^ 6 ≤ x → x ≤ 10 ^ 20 → Bag H' b sb → Keep b H H' → Q (.int x) H'
theorem ok_a_far (T : Txt K mg) : FnOk P w K mg base CX0 3 T.f_a_far T.d_a_far ["_law_bag"] spFar := by
  refine T.F_a_far.ok sc_a_far (fun vs H Q E h => ?_) (fun cdv A outer s H vs Q E hr h => ?_)
  · obtain ⟨b, sb, rfl, _⟩ := h
    rfl
  · obtain ⟨b, sb, rfl, B, q⟩ := h
    refine ⟨_, (pss_one (ps_ret (pe_op op_add (pe_call (ok_of T) (hr.mono (by decide)) (by rfl) T.g_of T.F_of.kp T.b_of .nil pass0 (pa_cons (pv 0) (pa_cons (pe_lst (pa_cons (pe_op op_pow pe_int pe_int) (pa_cons (pe_op op_pow pe_int pe_int) (pa_cons (pe_op op_pow pe_int pe_int) pa_nil)))) pa_nil))) (pe_call (ok_pull T) (hr.mono (by decide)) (by rfl) T.g_pull T.F_pull.kp T.b_pull .nil pass0 (pa_cons (pv 0) (pa_cons (pe_op op_pow pe_int pe_int) pa_nil)))))), ?_⟩
    refine ⟨.ref b, rfl, 10, 6, rfl, rfl, ⟨by decide, by decide, by decide⟩, 10, 12, rfl, rfl, ⟨by decide, by decide, by decide⟩, 10, 19, rfl, rfl, ⟨by decide, by decide, by decide⟩, (by show 3 ≤ sizeLine; decide), fun l hl => ?_⟩
    refine ⟨b, sb, l, _, rfl, B.new hl, upd_same, B.ne hl, by decide, by decide, fun i v H1 hv B1 k1 => ?_⟩
    obtain ⟨n, rfl, n0, n1⟩ : ∃ n : Int, v = .int n ∧ 10 ^ 6 ≤ n ∧ n ≤ 10 ^ 19 := by
      match i, hv with
      | 0, hv => cases hv; exact ⟨10 ^ 6, rfl, by decide, by decide⟩
      | 1, hv => cases hv; exact ⟨10 ^ 12, rfl, by decide, by decide⟩
      | 2, hv => cases hv; exact ⟨10 ^ 19, rfl, by decide, by decide⟩
      | n + 3, hv => simp at hv
    refine ⟨.ref b, rfl, 10, 6, rfl, rfl, ⟨by decide, by decide, by decide⟩, b, sb, _, rfl, B1, (show (0 : Int) < 10 ^ 6 by decide), (by decide), fun z H2 z0 z1 B2 k2 => ?_⟩
    have z2 : z < 10 ^ 6 := z1
    exact ⟨n, z, rfl, rfl, q _ _ (by omega) (by omega) B2 ((keep_new hl).trans (k1.trans k2))⟩
end
/-! ### the field of a caught error -/
/-- the error of the class cls with its dict at d: its word, its other field -/
structure ErrIs (K : PySem.W.Frag) (H : Hp) (cls : Value) (d : Option Addr) (w : Str) (fs : List (Str × V)) : Prop where
  ex : ∃ C dd : Addr, cls = .ref C ∧ d = some dd ∧ XfC K C ∧ H dd = some (.xd fs) ∧ ∀ f v, fs.lookup f = some v → PySem.W.findIn K (.ref C) f = some none
  wd : fs.lookup ("word" : Str) = some (.str w)
theorem ErrIs.same {K : PySem.W.Frag} {H H' : Hp} {cls : Value} {d : Option Addr} {w : Str} {fs : List (Str × V)} (h : ErrIs K H cls d w fs) (s : Same H H') : ErrIs K H' cls d w fs := by
  obtain ⟨⟨C, dd, e1, e2, x, hd, no⟩, wd⟩ := h
  exact ⟨⟨C, dd, e1, e2, x, s _ _ hd, no⟩, wd⟩
/-- a field is read -/
theorem ErrIs.read {K : PySem.W.Frag} {H : Hp} {a : Addr} {cls : Value} {d : Option Addr} {w : Str} {fs : List (Str × V)} (h : ErrIs K H cls d w fs) {f : Str} {v : V} {R : V → Prop} (hl : fs.lookup f = some v) (q : R v) :
    (V.ref a) = .ref a ∧ ∃ (C dd : Addr) (fs : List (Str × V)) (v : V), cls = .ref C ∧ d = some dd ∧ XfC K C ∧ PySem.W.findIn K (.ref C) f = some none ∧ H dd = some (.xd fs) ∧ fs.lookup f = some v ∧ R v := by
  obtain ⟨⟨C, dd, e1, e2, x, hd, no⟩, wd⟩ := h
  exact ⟨rfl, C, dd, fs, v, e1, e2, x, no _ _ hl, hd, hl, q⟩
def fieldOf (w : Str) : Option Str :=
  if inV (.str w) [.str "BadRoot", .str "BadCount", .str "NotLinked"] = true then some "number"
  else if inV (.str w) [.str "BadLength", .str "BadRow", .str "BadStep", .str "BadText", .str "BadDeed"] = true then some "at"
  else if inV (.str w) [.str "BadName", .str "Taken"] = true then some "name"
  else if inV (.str w) [.str "TooGreat", .str "Full"] = true then some "most"
  else if decide (V.str w = .str "NoSquares") = true then some "reason" else none
theorem fo0 {w : Str}  (e : inV (.str w) [.str "BadRoot", .str "BadCount", .str "NotLinked"] = true) : fieldOf w = some ("number" : Str) := by unfold fieldOf; rw [if_pos e]
theorem fo1 {w : Str} (b0 : ¬ (inV (.str w) [.str "BadRoot", .str "BadCount", .str "NotLinked"] = true)) (e : inV (.str w) [.str "BadLength", .str "BadRow", .str "BadStep", .str "BadText", .str "BadDeed"] = true) : fieldOf w = some ("at" : Str) := by unfold fieldOf; rw [if_neg b0, if_pos e]
theorem fo2 {w : Str} (b0 : ¬ (inV (.str w) [.str "BadRoot", .str "BadCount", .str "NotLinked"] = true)) (b1 : ¬ (inV (.str w) [.str "BadLength", .str "BadRow", .str "BadStep", .str "BadText", .str "BadDeed"] = true)) (e : inV (.str w) [.str "BadName", .str "Taken"] = true) : fieldOf w = some ("name" : Str) := by unfold fieldOf; rw [if_neg b0, if_neg b1, if_pos e]
theorem fo3 {w : Str} (b0 : ¬ (inV (.str w) [.str "BadRoot", .str "BadCount", .str "NotLinked"] = true)) (b1 : ¬ (inV (.str w) [.str "BadLength", .str "BadRow", .str "BadStep", .str "BadText", .str "BadDeed"] = true)) (b2 : ¬ (inV (.str w) [.str "BadName", .str "Taken"] = true)) (e : inV (.str w) [.str "TooGreat", .str "Full"] = true) : fieldOf w = some ("most" : Str) := by unfold fieldOf; rw [if_neg b0, if_neg b1, if_neg b2, if_pos e]
theorem fo4 {w : Str} (b0 : ¬ (inV (.str w) [.str "BadRoot", .str "BadCount", .str "NotLinked"] = true)) (b1 : ¬ (inV (.str w) [.str "BadLength", .str "BadRow", .str "BadStep", .str "BadText", .str "BadDeed"] = true)) (b2 : ¬ (inV (.str w) [.str "BadName", .str "Taken"] = true)) (b3 : ¬ (inV (.str w) [.str "TooGreat", .str "Full"] = true)) (e : decide (V.str w = .str "NoSquares") = true) : fieldOf w = some ("reason" : Str) := by unfold fieldOf; rw [if_neg b0, if_neg b1, if_neg b2, if_neg b3, if_pos e]
theorem fo5 {w : Str} (b0 : ¬ (inV (.str w) [.str "BadRoot", .str "BadCount", .str "NotLinked"] = true)) (b1 : ¬ (inV (.str w) [.str "BadLength", .str "BadRow", .str "BadStep", .str "BadText", .str "BadDeed"] = true)) (b2 : ¬ (inV (.str w) [.str "BadName", .str "Taken"] = true)) (b3 : ¬ (inV (.str w) [.str "TooGreat", .str "Full"] = true)) (b4 : ¬ (decide (V.str w = .str "NoSquares") = true)) : fieldOf w = none := by unfold fieldOf; rw [if_neg b0, if_neg b1, if_neg b2, if_neg b3, if_neg b4]
def fieldVal (w : Str) (fs : List (Str × V)) : Option V := match fieldOf w with
  | some f => fs.lookup f
  | none => some .non
section
variable {base : Heap} {K : PySem.W.Frag} {mg : Str → Option Value} {P : Program} {w : World}
def spFld (K : PySem.W.Frag) : Addr → Value → Option Addr → Sp := fun a cls d vs H Q _ => ∃ (wd : Str) (fs : List (Str × V)) (v : V), vs = [.ref a] ∧ ErrIs K H cls d wd fs ∧ fieldVal wd fs = some v ∧ ∀ H', Same H H' → Q v H'
theorem ok_field_of (T : Txt K mg) : FnP P w K mg base 1 T.f_field_of T.d_field_of ["_law_e"] (spFld K) := by
  refine fn_ofP T.F_field_of sc_field_of (fun a cls d vs H Q E h => ?_) (fun cdv A outer s H vs Q E p cls d zc dat hr h => ?_)
  · obtain ⟨wd, fs, v, rfl, _⟩ := h
    rfl
  · obtain ⟨wd, fs, v, rfl, E0, hv, q⟩ := h
    refine ⟨_, (pss_cons (ps_if (pt_cmpR op_in_seq (pe_xfG (a := p.1) (oe := p.2) (cls := cls) (d := d) List.mem_cons_self zc dat (pv 0)) (pe_tup (pa_cons pe_str (pa_cons pe_str (pa_cons pe_str pa_nil)))) (by rfl)) (pss_one (ps_ret (pe_xfG (a := p.1) (oe := p.2) (cls := cls) (d := d) List.mem_cons_self zc dat (pv 0)))) pss_nil)
      (pss_cons (ps_if (pt_cmpR op_in_seq (pe_xfG (a := p.1) (oe := p.2) (cls := cls) (d := d) List.mem_cons_self zc dat (pv 0)) (pe_tup (pa_cons pe_str (pa_cons pe_str (pa_cons pe_str (pa_cons pe_str (pa_cons pe_str pa_nil)))))) (by rfl)) (pss_one (ps_ret (pe_xfG (a := p.1) (oe := p.2) (cls := cls) (d := d) List.mem_cons_self zc dat (pv 0)))) pss_nil)
      (pss_cons (ps_if (pt_cmpR op_in_seq (pe_xfG (a := p.1) (oe := p.2) (cls := cls) (d := d) List.mem_cons_self zc dat (pv 0)) (pe_tup (pa_cons pe_str (pa_cons pe_str pa_nil))) (by rfl)) (pss_one (ps_ret (pe_xfG (a := p.1) (oe := p.2) (cls := cls) (d := d) List.mem_cons_self zc dat (pv 0)))) pss_nil)
      (pss_cons (ps_if (pt_cmpR op_in_seq (pe_xfG (a := p.1) (oe := p.2) (cls := cls) (d := d) List.mem_cons_self zc dat (pv 0)) (pe_tup (pa_cons pe_str (pa_cons pe_str pa_nil))) (by rfl)) (pss_one (ps_ret (pe_xfG (a := p.1) (oe := p.2) (cls := cls) (d := d) List.mem_cons_self zc dat (pv 0)))) pss_nil)
      (pss_one (ps_ret (pe_ifExp (pt_cmpR op_eq (pe_xfG (a := p.1) (oe := p.2) (cls := cls) (d := d) List.mem_cons_self zc dat (pv 0)) pe_str (nomark _)) (pe_xfG (a := p.1) (oe := p.2) (cls := cls) (d := d) List.mem_cons_self zc dat (pv 0)) pe_non))))))), ?_⟩
    have fv : ∀ {f : Str}, fieldOf wd = some f → fs.lookup f = some v := fun {f} e => by
      unfold fieldVal at hv
      rw [e] at hv
      exact hv
    refine ⟨_, rfl, E0.read E0.wd ?_⟩
    refine ⟨by show 3 ≤ sizeLine; decide, fun t0 n0 => ?_⟩
    have S1 := same_new (o := .tup [.str "BadRoot", .str "BadCount", .str "NotLinked"]) n0
    have E1 := E0.same S1
    refine ⟨t0, _, rfl, .inr (SqT.of upd_same), rfl, rfl, _, rfl, ite2 (fun e => ?_) (fun b0 => ?_)⟩
    · exact ⟨_, rfl, E1.read (fv (fo0  e)) (q _ S1)⟩
    refine ⟨_, rfl, E1.read E1.wd ?_⟩
    refine ⟨by show 5 ≤ sizeLine; decide, fun t1 n1 => ?_⟩
    have S2 := S1.trans (same_new (o := .tup [.str "BadLength", .str "BadRow", .str "BadStep", .str "BadText", .str "BadDeed"]) n1)
    have E2 := E0.same S2
    refine ⟨t1, _, rfl, .inr (SqT.of upd_same), rfl, rfl, _, rfl, ite2 (fun e => ?_) (fun b1 => ?_)⟩
    · exact ⟨_, rfl, E2.read (fv (fo1 b0 e)) (q _ S2)⟩
    refine ⟨_, rfl, E2.read E2.wd ?_⟩
    refine ⟨by show 2 ≤ sizeLine; decide, fun t2 n2 => ?_⟩
    have S3 := S2.trans (same_new (o := .tup [.str "BadName", .str "Taken"]) n2)
    have E3 := E0.same S3
    refine ⟨t2, _, rfl, .inr (SqT.of upd_same), rfl, rfl, _, rfl, ite2 (fun e => ?_) (fun b2 => ?_)⟩
    · exact ⟨_, rfl, E3.read (fv (fo2 b0 b1 e)) (q _ S3)⟩
    refine ⟨_, rfl, E3.read E3.wd ?_⟩
    refine ⟨by show 2 ≤ sizeLine; decide, fun t3 n3 => ?_⟩
    have S4 := S3.trans (same_new (o := .tup [.str "TooGreat", .str "Full"]) n3)
    have E4 := E0.same S4
    refine ⟨t3, _, rfl, .inr (SqT.of upd_same), rfl, rfl, _, rfl, ite2 (fun e => ?_) (fun b3 => ?_)⟩
    · exact ⟨_, rfl, E4.read (fv (fo3 b0 b1 b2 e)) (q _ S4)⟩
    refine ⟨_, rfl, E4.read E4.wd ?_⟩
    refine ⟨rfl, _, rfl, ite2 (fun e => ?_) (fun b4 => ?_)⟩
    · exact ⟨_, rfl, E4.read (fv (fo4 b0 b1 b2 b3 e)) (q _ S4)⟩
    · have e : fieldOf wd = none := fo5 b0 b1 b2 b3 b4
      have ev : v = .non := by
        unfold fieldVal at hv
        rw [e] at hv
        exact (Option.some.inj hv).symm
      rw [ev] at q
      exact q _ S4
end
/-! ### the def that asks, and tells what was raised -/
section
variable {K : PySem.W.Frag} {mg : Str → Option Value}
/-- what is told of an answer, of an error of the first, of the second, of the third kind -/
def Told (Q : VK) (w : Str) (v : V) (H : Hp) : Prop := ∀ H' p, Same H H' → H' p = some (.tup [.str w, v]) → Q (.ref p) H'
def Raised (K : PySem.W.Frag) (G : Addr) (Q : VK) : XK := fun cls d H => PySem.W.exmOne K cls (.ref G) = some true ∧ ∃ (w : Str) (fs : List (Str × V)) (v : V), ErrIs K H cls d w fs ∧ fieldVal w fs = some v ∧ Told Q w v H
def TTry (K : PySem.W.Frag) (G : Addr) : (XK → Hp → VK → Prop) → Hp → VK → Prop := fun tl H Q => tl (Raised K G Q) H fun v H1 => [V.str "told", v].length ≤ sizeLine ∧ ∀ p, H1 p = none → Q (.ref p) (upd H1 p (.tup [.str "told", v]))
end
section
variable {base : Heap} {K : PySem.W.Frag} {mg : Str → Option Value} {w : World}
theorem try_gives {X : Cx} (T : Txt K mg) (hP : X.K = K) (hm : X.mg = mg) {k : Nat} (hr : Room (k + 3) X.A) {cdg : Value} {q : Str} :
    LamX.GivesTo X ["_law_ask", "_law_e"] "_law_try" (defScope s_try) T.f_try cdg (defBody s_try) "_law_ask" q (TTry K T.r_GrainError) := by
  subst hP
  subst hm
  intro f c' s H Q tl act hc h
  have hr2 : Room (k + 2) (X.A.deeper (envOfC "_law_try" (defScope s_try) s.heap.objs.size T.f_try cdg)) := hr.deeper _
  refine ⟨_, pss_one (ps_tryAs (X := (cxOf CX0 X.prog X.w X.K X.mg X.base ["_law_ask", "_law_e"] "_law_try" (defScope s_try) T.f_try cdg X.A X.stack s H E0).nox) (i := 1)
      (tb := fun W D σ H => ∃ Ech : XK, (∀ cls d σ' H', Ech cls d H' → W cls d σ' H') ∧ σ[0]? = some (some (.ref f)) ∧ H c' = some (LamX.CodeO c' q) ∧ tl Ech H fun v H1 => [V.str "told", v].length ≤ sizeLine ∧ ∀ p, H1 p = none → D.rt (.ref p) (upd H1 p (.tup [.str "told", v])))
      rfl rfl sc_try.nd rfl rfl (fun W pn xe tk _ => ?_)
      (.cons (c := .ref T.r_GrainError) (ts := fun a cls d => tRet (tTup (tCons (tXfA X.K a cls d "word" (tVar 1)) (tCons (fun σ H Q => tCons (tVar 1) tNil σ H fun vs H1 => spFld X.K a cls d vs H1 Q E0) tNil)))) ⟨by rfl, by decide, .inl T.g_GrainError⟩ (fun a oe cls d pn zc dat => pss_one (ps_ret (pe_tup (pa_cons (pe_xfG (a := a) (oe := oe) (cls := cls) (d := d) List.mem_cons_self zc dat (pv 1)) (pa_cons (pe_callP (a := a) (oe := oe) (cls := cls) (d := d) List.mem_cons_self zc dat (ok_field_of T) ?_ (by rfl) T.g_field_of T.F_field_of.kp T.b_field_of (pa_cons (pv 1) pa_nil)) pa_nil)))))
      (.cons (c := .ref T.r_GrainMissing) (ts := fun a cls d => tRet (tTup (tCons (tXfA X.K a cls d "word" (tVar 1)) (tCons (tIf (tTest (tOp rEq (tXfA X.K a cls d "word" (tVar 1)) (tC (.str "NoSheet")))) (tXfA X.K a cls d "sheet" (tVar 1)) (tXfA X.K a cls d "name" (tVar 1))) tNil)))) ⟨by rfl, by decide, .inl T.g_GrainMissing⟩ (fun a oe cls d pn zc dat => pss_one (ps_ret (pe_tup (pa_cons (pe_xfG (a := a) (oe := oe) (cls := cls) (d := d) List.mem_cons_self zc dat (pv 1)) (pa_cons (pe_ifExp (pt_cmpR op_eq (pe_xfG (a := a) (oe := oe) (cls := cls) (d := d) List.mem_cons_self zc dat (pv 1)) pe_str (nomark _)) (pe_xfG (a := a) (oe := oe) (cls := cls) (d := d) List.mem_cons_self zc dat (pv 1)) (pe_xfG (a := a) (oe := oe) (cls := cls) (d := d) List.mem_cons_self zc dat (pv 1))) pa_nil)))))
      (.cons (c := .ref T.e_NothingLeft.C) (ts := fun a cls d => tRet (tTup (tCons (tXfA X.K a cls d "word" (tVar 1)) (tCons (tC .non) tNil)))) ⟨by rfl, by decide, .inl T.e_NothingLeft.g⟩ (fun a oe cls d pn zc dat => pss_one (ps_ret (pe_tup (pa_cons (pe_xfG (a := a) (oe := oe) (cls := cls) (d := d) List.mem_cons_self zc dat (pv 1)) (pa_cons pe_non pa_nil))))) .nil)))), ?_⟩
  · constructor
    intro pins s' σ H' D I h'
    obtain ⟨Ech, hW, h1, h2, h3⟩ := h'
    have asked := fun p1 p2 => act W pn xe Ech p1 p2 tk hW
    exact (pss_one (ps_ret (pe_tup (pa_cons pe_str (pa_cons (asked _ _) pa_nil))))).run pins s' σ H' D I ⟨h1, h2, h3⟩
  · exact ⟨by have := hr.dp; show X.A.depth + 1 + 3 * 1 + 5 < _; omega, by have := hr.un; show X.A.units + 3 + 16 * 1 + 200 < _; omega⟩
  · refine ⟨Raised X.K T.r_GrainError Q, fun cls d σ' H' hR => ?_, rfl, hc, h⟩
    obtain ⟨em, wd, fs, v, er, fv, q1⟩ := hR
    refine ⟨true, em, fun _ a na hl => ?_, fun z => nomatch z⟩
    have at1 : (σ'.set 1 (some (V.ref a)))[1]? = some (some (V.ref a)) := by
      rw [List.getElem?_set_self hl]
    refine ⟨_, at1, er.read er.wd ?_⟩
    refine ⟨_, at1, wd, fs, v, rfl, er, fv, fun H2 s2 => ⟨by show 2 ≤ sizeLine; decide, fun p hp => q1 _ p (s2.trans (same_new hp)) upd_same⟩⟩
end
/-! ### calls of a def with a star parameter -/
section
variable {X : Cx}
theorem pe_callR {CX : CXT} {k : Nat} {f : Addr} {sp : Sp} {E : XK} {x : Str} {p pos : Pos} {e : Expr} {es : List Expr} {t : TA}
    (F : FnR X.prog X.w X.K X.mg X.base CX k f sp) (hr : Room k X.A) (hg : Gl X x) (hm : X.mg x = some (.ref f)) (hk : PySem.W.keepIn X.K (.ref f) = true) (hx : Passes CX X E) (ha : PA X (e :: es) t)
    (hdb : (x == ("__debug__" : Str)) = false := by decide) (he : starEach (e :: es) X.env = (false, eval e X.env) :: starEach es X.env := by rfl)
    (hpl : (backTo pos (starEach es X.env)).any (·.1) = false := by rfl) :
    PE X (.Call (.Name x p) (e :: es) [] pos) (fun σ H Q => t σ H fun vs H1 => sp vs H1 Q E) :=
  ⟨fun pins s σ H Q I h => wpAny_Call_Name_kw (ld_glob I hg hm (PySem.W.callWith_K (h₀ := X.base) I.ok.mod.kin hk
    (thn (ha.run pos pins s σ H _ I h) fun us s1 ⟨vs, H1, I1, r, q⟩ => ⟨I1.kIn, wpAny_call (run_fnR F hr hx I1 r q)⟩) he hpl) hdb)⟩
theorem pe_callR0 {CX : CXT} {k : Nat} {f : Addr} {sp : Sp} {E : XK} {x : Str} {p pos : Pos}
    (F : FnR X.prog X.w X.K X.mg X.base CX k f sp) (hr : Room k X.A) (hg : Gl X x) (hm : X.mg x = some (.ref f)) (hk : PySem.W.keepIn X.K (.ref f) = true) (hx : Passes CX X E)
    (hdb : (x == ("__debug__" : Str)) = false := by decide) : PE X (.Call (.Name x p) [] [] pos) (fun _ H Q => sp [] H Q E) :=
  ⟨fun pins s σ H Q I h => wpAny_Call_Name_kw (ld_glob I hg hm (PySem.W.callWith_K0 I.kIn hk (wpAny_call (run_fnR (us := []) F hr hx I .nil h))) hdb)⟩
end
/-! ### lists of ints that comprehensions make -/
def Pt (H : Hp) (D : Addr) (ns : List Int) (i : Nat) (H' : Hp) : Prop := Same H H' ∧ H' D = some (.lst ((ns.take i).map V.int))
theorem pt_step {H H' : Hp} {D : Addr} {ns : List Int} {i : Nat} {z : Int} (h : Pt H D ns i H') (hD : H D = none) (hz : ns[i]? = some z) : Pt H D ns (i + 1) (upd H' D (.lst ((ns.take i).map V.int ++ [.int z]))) := by
  refine ⟨fun a o e => (upd_ne (ne_of_none e hD)).trans (h.1 a o e), ?_⟩
  rw [upd_same, List.take_add_one, hz, List.map_append]
  rfl
theorem pt_size {ns : List Int} {i : Nat} (h : ns.length ≤ 1000) : ((ns.take i).map V.int).length < sizeLine := by
  rw [List.length_map, List.length_take]
  exact small1000 (by omega)
theorem pt_end {H H' : Hp} {D : Addr} {ns : List Int} {i : Nat} (h : Pt H D ns i H') (hi : ns.length ≤ i) : Same H H' ∧ H' D = some (.lst (ns.map V.int)) := by
  have := h.2
  rw [List.take_of_length_le hi] at this
  exact ⟨h.1, this⟩
/-! ### pairs -/
def PairAt (K : PySem.W.Frag) (H : Hp) (v : V) (x y : Int) : Prop := ∃ t : Addr, v = .ref t ∧ SqT K H t [.int x, .int y]
theorem PairAt.same {K : PySem.W.Frag} {H H' : Hp} {v : V} {x y : Int} (h : PairAt K H v x y) (s : Same H H') : PairAt K H' v x y := by
  obtain ⟨t, e, h⟩ := h
  exact ⟨t, e, Evl.ex_t (show Evl.Ex H H' from s) h⟩
inductive PairsAt (K : PySem.W.Frag) (H : Hp) : List V → List (Int × Int) → Prop
  | nil : PairsAt K H [] []
  | cons {v : V} {vs : List V} {x y : Int} {ps : List (Int × Int)} : PairAt K H v x y → PairsAt K H vs ps → PairsAt K H (v :: vs) ((x, y) :: ps)
theorem PairsAt.get {K : PySem.W.Frag} {H : Hp} : ∀ {vs : List V} {ps : List (Int × Int)}, PairsAt K H vs ps → ∀ {i : Nat} {v : V}, vs[i]? = some v → ∃ x y, ps[i]? = some (x, y) ∧ PairAt K H v x y := by
  intro vs ps h
  induction h with
  | nil =>
    intro i v h
    simp at h
  | cons p t ih =>
    intro i v h
    cases i with
    | zero =>
      cases h
      exact ⟨_, _, rfl, p⟩
    | succ i => exact ih (i := i) (by simpa using h)
theorem PairsAt.same {K : PySem.W.Frag} {H H' : Hp} (s : Same H H') : ∀ {vs : List V} {ps : List (Int × Int)}, PairsAt K H vs ps → PairsAt K H' vs ps := by
  intro vs ps h
  induction h with
  | nil => exact .nil
  | cons p t ih => exact .cons (p.same s) ih
theorem PairsAt.len {K : PySem.W.Frag} {H : Hp} : ∀ {vs : List V} {ps : List (Int × Int)}, PairsAt K H vs ps → vs.length = ps.length
  | _, _, .nil => rfl
  | _, _, .cons p t => congrArg Nat.succ t.len
def s1 (ps : List (Int × Int)) : Int := (ps.map (·.1)).sum
def s2 (ps : List (Int × Int)) : Int := (ps.map (·.2)).sum
/-- a new pair -/
def NewPair (H : Hp) (x y : Int) (Q : VK) : Prop := ∀ p H', H p = none → Same H H' → H' p = some (.tup [.int x, .int y]) → Q (.ref p) H'
/-! ### added -/
section
variable {base : Heap} {K : PySem.W.Frag} {mg : Str → Option Value} {P : Program} {w : World}
def spAdded (K : PySem.W.Frag) : Sp := fun vs H Q _ => ∃ ps : List (Int × Int), PairsAt K H vs ps ∧ ps.length ≤ 1000 ∧ NewPair H (s1 ps) (s2 ps) Q
def spAddedB (K : PySem.W.Frag) : Sp := fun vs H Q _ => ∃ (t : Addr) (xs : List V) (ps : List (Int × Int)), vs = [.ref t] ∧ H t = some (.tup xs) ∧ PairsAt K H xs ps ∧ ps.length ≤ 1000 ∧ NewPair H (s1 ps) (s2 ps) Q
theorem ok_added (T : Txt K mg) : FnR P w K mg base CX0 1 T.f_added (spAdded K) := by
  obtain ⟨o1, o2, v1, v2, v3, a1, v4, v5, sl1, e1, r1, r2⟩ := T.F_added.ex
  have r1' := r1
  rw [e1] at r1'
  refine FnR.imp (StX.fn_star (ps := []) (pv := "pairs") (sp := spAddedB K) (N := ["pairs", "a", "b"]) r1' r2 sc_added StX.cxUp_none ?_ ?_) ?_
  · intro us rest hu
    match us, rest, hu with
    | [], [], _ => rfl
    | [], _ :: _, _ => rfl
  · intro A outer s H vs Q E hr h
    obtain ⟨t, xs, ps, rfl, ht, hp, hn, q⟩ := h
    refine ⟨_, PSs.nox (pss_one (ps_ret (pe_tup (pa_cons (pe_callB (cr_sum rfl) (by rfl) T.n_sum (by decide +kernel) (pa_cons (pe_lc (own := [("a", 1), ("b", 2)]) (g := (gTup K 2 (gCons (gName 1) (gCons (gName 2) gNil)))) (tt := tYes) (by rfl) sc_added.nd (pi_tup (pv 0)) (blkOk_by (own := [("a", 1), ("b", 2)]) (N := ["pairs", "a", "b"]) (sc := defScope s_added) (by decide +kernel)) (fun _ _ _ _ _ => (pg_tup (by rfl) (pgs_cons (pg_name (i := 1) sc_added.nd rfl (Or.inl rfl)) (pgs_cons (pg_name (i := 2) sc_added.nd rfl (Or.inl rfl)) pgs_nil)))) (fun _ _ _ _ _ => pts_nil) (fun _ _ _ _ _ => (pv 1))) pa_nil)) (pa_cons (pe_callB (cr_sum rfl) (by rfl) T.n_sum (by decide +kernel) (pa_cons (pe_lc (own := [("a", 1), ("b", 2)]) (g := (gTup K 2 (gCons (gName 1) (gCons (gName 2) gNil)))) (tt := tYes) (by rfl) sc_added.nd (pi_tup (pv 0)) (blkOk_by (own := [("a", 1), ("b", 2)]) (N := ["pairs", "a", "b"]) (sc := defScope s_added) (by decide +kernel)) (fun _ _ _ _ _ => (pg_tup (by rfl) (pgs_cons (pg_name (i := 1) sc_added.nd rfl (Or.inl rfl)) (pgs_cons (pg_name (i := 2) sc_added.nd rfl (Or.inl rfl)) pgs_nil)))) (fun _ _ _ _ _ => pts_nil) (fun _ _ _ _ _ => (pv 2))) pa_nil)) pa_nil))))), ?_⟩
    have hl := hp.len
    refine ⟨_, rfl, t, rfl, ⟨_, SqT.of ht⟩, fun D hD => lc_tup (K := K) (a := t) (xs := xs) (Pt H D (ps.map (·.1))) ⟨same_new hD, upd_same⟩ (fun i H' _ h => SqT.of (h.1 _ _ ht)) (fun i x H' hx hP => ?_) (fun H1 hP => ?_)⟩
    · obtain ⟨c, e, hc, u, rfl, hu⟩ := hp.get hx
      refine ⟨u, _, rfl, Evl.ex_t (show Evl.Ex H H' from hP.1) hu, rfl, .int c, [.int e], rfl, .int e, [], rfl, rfl, rfl, ⟨_, rfl, _, hP.2, pt_size (by rw [List.length_map]; exact hn), pt_step hP hD ?_⟩⟩
      rw [List.getElem?_map, hc]
      rfl
    obtain ⟨e1, f1⟩ := pt_end hP (by rw [List.length_map]; omega)
    refine ⟨D, _, rfl, SqL.of f1, ?_⟩
    refine ⟨_, rfl, t, rfl, ⟨_, SqT.of (e1 _ _ ht)⟩, fun D2 hD2 => lc_tup (K := K) (a := t) (xs := xs) (Pt H1 D2 (ps.map (·.2))) ⟨same_new hD2, upd_same⟩ (fun i H' _ h => SqT.of (h.1 _ _ (e1 _ _ ht))) (fun i x H' hx hP => ?_) (fun H2 hP => ?_)⟩
    · obtain ⟨c, e, hc, u, rfl, hu⟩ := hp.get hx
      refine ⟨u, _, rfl, Evl.ex_t (show Evl.Ex H H' from e1.trans hP.1) hu, rfl, .int c, [.int e], rfl, .int e, [], rfl, rfl, rfl, ⟨_, rfl, _, hP.2, pt_size (by rw [List.length_map]; exact hn), pt_step hP hD2 ?_⟩⟩
      rw [List.getElem?_map, hc]
      rfl
    obtain ⟨e2, f2⟩ := pt_end hP (by rw [List.length_map]; omega)
    exact ⟨D2, _, rfl, SqL.of f2, by show 2 ≤ sizeLine; decide, fun p hp => q p _ ((e1.trans e2).free hp) ((e1.trans e2).trans (same_new hp)) upd_same⟩
  · rintro vs H Q E ⟨ps, hp, hl, q⟩
    refine ⟨[], vs, rfl, rfl, Nat.le_of_lt (small1000 (by rw [hp.len]; exact hl)), fun p hpn => ⟨p, vs, ps, rfl, upd_same, hp.same (same_new hpn), hl, fun p' H' hp' sm h' => ?_⟩⟩
    exact q p' H' ((same_new hpn).free hp') ((same_new hpn).trans sm) h'
end
/-! ### scaled -/
section
variable {base : Heap} {K : PySem.W.Frag} {mg : Str → Option Value} {P : Program} {w : World}
def spScaled (K : PySem.W.Frag) : Sp := fun vs H Q _ => ∃ (v : V) (x y n : Int), vs = [v, .int n] ∧ PairAt K H v x y ∧ x.natAbs < 2 ^ 9000 ∧ y.natAbs < 2 ^ 9000 ∧ n.natAbs < 2 ^ 9000 ∧ NewPair H (x * n) (y * n) Q
theorem ok_scaled (T : Txt K mg) : FnOk P w K mg base CX0 1 T.f_scaled T.d_scaled ["pair", "number"] (spScaled K) := by
  refine T.F_scaled.ok sc_scaled (fun vs H Q E h => ?_) (fun cdv A outer s H vs Q E hr h => ?_)
  · obtain ⟨v, x, y, n, rfl, _⟩ := h
    rfl
  · obtain ⟨v, x, y, n, rfl, ⟨t, rfl, ht⟩, x1, y1, n1, q⟩ := h
    refine ⟨_, (pss_cons (ps_asg (pv 0) (pg_tup (by rfl) (pgs_cons (pg_name (i := 2) sc_scaled.nd rfl (Or.inl rfl)) (pgs_cons (pg_name (i := 3) sc_scaled.nd rfl (Or.inl rfl)) pgs_nil))))
      (pss_one (ps_ret (pe_tup (pa_cons (pe_op op_mulW (pv 2) (pv 1)) (pa_cons (pe_op op_mulW (pv 3) (pv 1)) pa_nil)))))), ?_⟩
    refine ⟨_, rfl, t, _, rfl, ht, rfl, .int x, [.int y], rfl, .int y, [], rfl, rfl, ?_⟩
    exact ⟨_, rfl, _, rfl, x, n, rfl, rfl, wide_mul x1 n1 (by decide) (by decide) (by decide), _, rfl, _, rfl, y, n, rfl, rfl, wide_mul y1 n1 (by decide) (by decide) (by decide), by show 2 ≤ sizeLine; decide, fun p hp => q p _ hp (same_new hp) upd_same⟩
end
/-! ### bounds -/
def Bd (n : Nat) (xs : List Int) : Prop := ∀ x ∈ xs, x.natAbs < 2 ^ n
theorem bd_w {n m : Nat} {x : Int} (h : x.natAbs < 2 ^ n) (l : n ≤ m) : x.natAbs < 2 ^ m := Nat.lt_of_lt_of_le h (Nat.pow_le_pow_right (by decide) l)
theorem bd_a {n : Nat} {x y : Int} (h1 : x.natAbs < 2 ^ n) (h2 : y.natAbs < 2 ^ n) : (x + y).natAbs < 2 ^ (n + 1) := by
  rw [Nat.pow_succ]
  omega
/-! ### whole_root, floor_of -/
theorem bits_up {n : Int} (h : 0 ≤ n) : n < 2 ^ (Builtin.Int.intBits n) := by
  obtain ⟨m, rfl⟩ := Int.eq_ofNat_of_zero_le h
  have h1 : (m : Int).natAbs = m := rfl
  have h2 : m < 2 ^ (Builtin.Int.intBits (m : Int)) := by
    unfold Builtin.Int.intBits
    rw [h1]
    split
    · rename_i z
      have z' : m = 0 := by
        first
          | exact z
          | (have := z; simp at this; omega)
      subst z'
      decide
    · exact Nat.lt_log2_self
  have h3 : ((m : Nat) : Int) < ((2 ^ (Builtin.Int.intBits (m : Int)) : Nat) : Int) := by exact_mod_cast h2
  rw [Int.natCast_pow] at h3
  exact h3
theorem bits_le {n : Int} {k : Nat} (hk : 0 < k) (h : n.natAbs < 2 ^ k) : Builtin.Int.intBits n ≤ k := by
  have := PySem.Flt.log2_lt_of hk h
  unfold Builtin.Int.intBits
  split
  · omega
  · omega
theorem guess_up {n : Int} {k : Nat} (h : 0 ≤ n) (hk : Builtin.Int.intBits n ≤ 2 * k) : n < (1 * 2 ^ k + 1) * (1 * 2 ^ k + 1) := by
  have h1 := bits_up h
  have h2 : (2 : Int) ^ (Builtin.Int.intBits n) ≤ 2 ^ (2 * k) := by
    have : 2 ^ (Builtin.Int.intBits n) ≤ 2 ^ (2 * k) := Nat.pow_le_pow_right (by decide) hk
    exact_mod_cast this
  have h3 : (2 : Int) ^ (2 * k) = 2 ^ k * 2 ^ k := by
    rw [Nat.two_mul, Int.pow_add]
  have h4 : (0 : Int) ≤ 2 ^ k := by
    have : 0 ≤ (2 ^ k : Nat) := Nat.zero_le _
    exact_mod_cast this
  rw [h3] at h2
  generalize (2 : Int) ^ k = x at h2 h4 ⊢
  grind
section
variable {base : Heap} {K : PySem.W.Frag} {mg : Str → Option Value} {P : Program} {w : World}
def spWhole : Sp := fun vs H Q _ => ∃ n : Int, vs = [.int n] ∧ 0 ≤ n ∧ n.natAbs < 2 ^ 8000 ∧ ∀ g : Int, 0 ≤ g → g * g ≤ n → n < (g + 1) * (g + 1) → Q (.int g) H
def WRoot (n : Int) (H : Hp) (m : Nat) (σ : L2.St) (H' : Hp) : Prop := ∃ g : Int, σ = [some (.int n), some (.int g)] ∧ H' = H ∧ 0 ≤ g ∧ g.natAbs < 2 ^ 4002 ∧ n < (g + 1) * (g + 1) ∧ m = g.toNat
theorem ok_whole_root (T : Txt K mg) : FnOk P w K mg base CX0 1 T.f_whole_root T.d_whole_root ["number"] spWhole := by
  refine T.F_whole_root.ok sc_whole_root (fun vs H Q E h => ?_) (fun cdv A outer s H vs Q E hr h => ?_)
  · obtain ⟨n, rfl, _⟩ := h
    rfl
  · obtain ⟨n, rfl, n0, n1, q⟩ := h
    refine ⟨_, (pss_cons (ps_set (i := 1) sc_whole_root.nd rfl (Or.inl rfl) (pe_op op_shl pe_int (pe_op op_fdiv (pe_op op_add (pe_bits (pv 0)) pe_int) pe_int)))
      (pss_cons (ps_while PassesOwn.never (pt_cmpR op_gt (pe_op op_mulW (pv 1) (pv 1)) (pv 0) (nomark _)) (pss_one (ps_set (i := 1) sc_whole_root.nd rfl (Or.inl rfl) (pe_op op_fdiv (pe_op op_add (pv 1) (pe_op op_fdivW (pv 0) (pv 1))) pe_int))))
      (pss_one (ps_ret (pv 1))))), ?_⟩
    have hb := bits_le (by decide) n1
    have e1 : (((Builtin.Int.intBits n : Nat) : Int) + 1) / 2 = (((Builtin.Int.intBits n + 1) / 2 : Nat) : Int) := by omega
    have e2 : ((((Builtin.Int.intBits n : Nat) : Int) + 1) / 2).toNat = (Builtin.Int.intBits n + 1) / 2 := by rw [e1]; rfl
    refine ⟨_, rfl, n, rfl, _, 1, rfl, rfl, _, 2, rfl, rfl, ⟨by decide, by decide⟩, 1, _, rfl, rfl, ⟨by omega, by omega, by decide⟩, ?_⟩
    dsimp only
    rw [e2]
    refine ⟨WRoot n H, ⟨_, (1 * 2 ^ ((Builtin.Int.intBits n + 1) / 2)), rfl, rfl, ?_, ?_, guess_up n0 (by omega), rfl⟩, ?_⟩
    · have : 0 ≤ (2 ^ ((Builtin.Int.intBits n + 1) / 2) : Nat) := Nat.zero_le _
      have z : (0 : Int) ≤ 2 ^ ((Builtin.Int.intBits n + 1) / 2) := by exact_mod_cast this
      omega
    · rw [Int.one_mul, Int.natAbs_pow]
      exact Nat.pow_lt_pow_right (by decide) (by omega)
    · rintro m σ H' ⟨g, rfl, rfl, g0, g1, g2, rfl⟩
      refine ⟨_, rfl, _, rfl, g, g, rfl, rfl, wide_mul g1 g1 (by decide) (by decide) (by decide), _, rfl, _, n, rfl, rfl, _, rfl, ite2 (fun e => ?_) (fun e => ?_)⟩
      · have e' : n < g * g := of_decide_eq_true e
        have gp : 0 < g := by
          rcases Int.lt_or_le 0 g with z | z
          · exact z
          · have : g = 0 := by omega
            rw [this] at e'
            omega
        refine ⟨fun σ' H'' => ∃ m', m' < g.toNat ∧ WRoot n H' m' σ' H'', fun _ _ z => z, ?_⟩
        have d1 := newton_dn gp e'
        have d2 := newton_nn gp n0
        refine ⟨_, rfl, _, rfl, _, rfl, n, g, rfl, rfl, wide_div gp g1 (by decide) (by decide), g, _, rfl, rfl, _, 2, rfl, rfl, ⟨by decide, by decide⟩, ?_⟩
        exact ⟨_, by omega, (g + n / g) / 2, rfl, rfl, d2, Nat.lt_of_le_of_lt (by omega) g1, newton_up gp n0, rfl⟩
      · have e' : ¬ n < g * g := fun z => e (decide_eq_true z)
        exact ⟨_, rfl, q g g0 (by omega) g2⟩
def spFloor (K : PySem.W.Frag) : Sp := fun vs H Q _ => ∃ (t : Addr) (d a b : Int), vs = [.ref t, .int d] ∧ SqT K H t [.int a, .int b] ∧ 0 ≤ d ∧ d.natAbs < 2 ^ 64 ∧ b.natAbs < 2 ^ 1000 ∧
  ∀ g : Int, 0 ≤ g → g * g ≤ d * b * b → d * b * b < (g + 1) * (g + 1) → Q (.int (if b < 0 then a - g - 1 else a + g)) H
theorem ok_floor_of (T : Txt K mg) : FnOk P w K mg base CX0 2 T.f_floor_of T.d_floor_of ["pair", "root"] (spFloor K) := by
  refine T.F_floor_of.ok sc_floor_of (fun vs H Q E h => ?_) (fun cdv A outer s H vs Q E hr h => ?_)
  · obtain ⟨t, d, a, b, rfl, _⟩ := h
    rfl
  · obtain ⟨t, d, a, b, rfl, hT, d0, d1, b1, q⟩ := h
    refine ⟨_, (pss_cons (ps_asg (pv 0) (pg_tup (by rfl) (pgs_cons (pg_name (i := 3) sc_floor_of.nd rfl (Or.inl rfl)) (pgs_cons (pg_name (i := 4) sc_floor_of.nd rfl (Or.inl rfl)) pgs_nil))))
      (pss_cons (ps_set (i := 2) sc_floor_of.nd rfl (Or.inl rfl) (pe_call (ok_whole_root T) (hr.mono (by decide)) (by rfl) T.g_whole_root T.F_whole_root.kp T.b_whole_root .nil pass0 (pa_cons (pe_op op_mulW (pe_op op_mulW (pv 1) (pv 4)) (pv 4)) pa_nil)))
      (pss_cons (ps_if (pt_cmpR op_lt (pv 4) pe_int (nomark _)) (pss_one (ps_ret (pe_op op_sub (pe_op op_sub (pv 3) (pv 2)) pe_int))) pss_nil)
      (pss_one (ps_ret (pe_op op_add (pv 3) (pv 2))))))), ?_⟩
    have m1 : (d * b).natAbs < 2 ^ (64 + 1000) := wide_lt d1 b1
    have m2 : (d * b * b).natAbs < 2 ^ (64 + 1000 + 1000) := wide_lt m1 b1
    have nn : 0 ≤ d * b * b := by
      have := sq_nn b
      have z := Int.mul_nonneg d0 this
      rw [← Int.mul_assoc] at z
      exact z
    refine ⟨_, rfl, t, _, rfl, hT, rfl, .int a, [.int b], rfl, .int b, [], rfl, rfl, ?_⟩
    refine ⟨_, rfl, _, rfl, d, b, rfl, rfl, wide_mul d1 b1 (by decide) (by decide) (by decide), _, rfl, _, b, rfl, rfl, wide_mul m1 b1 (by decide) (by decide) (by decide), _, rfl, nn, Nat.lt_trans m2 (Nat.pow_lt_pow_right (by decide) (by decide)), fun g g0 g1 g2 => ?_⟩
    have Q1 := q g g0 g1 g2
    refine ⟨_, rfl, b, 0, rfl, rfl, _, rfl, ite2 (fun e => ?_) (fun e => ?_)⟩
    · rw [if_pos (of_decide_eq_true e)] at Q1
      exact ⟨_, rfl, _, rfl, a, g, rfl, rfl, _, 1, rfl, rfl, Q1⟩
    · rw [if_neg (fun z => e (decide_eq_true z))] at Q1
      exact ⟨_, rfl, _, rfl, a, g, rfl, rfl, Q1⟩
end
/-! ### what is never reached -/
section
variable {X : Cx}
theorem ps_dead {st : Stmt} : PS X st (fun _ _ _ => False) := ⟨fun _ _ _ _ _ _ h => h.elim⟩
end
/-! ### a generator's frame when it is woken: the heap below it counts as the heap of its call -/
def cutH (h : Heap) (n : Nat) : Heap := { h with objs := h.objs.extract 0 n }
theorem cut_low {h : Heap} {n b : Nat} (hb : b < n) : (cutH h n).get? b = h.get? b := by
  have e : (h.objs.extract 0 n)[b]? = h.objs[b]? := by
    rw [Array.getElem?_extract]
    by_cases z : b < h.objs.size
    · rw [if_pos (by omega), Nat.zero_add]
    · rw [if_neg (by omega)]
      simp only [Array.getElem?_eq_none (show h.objs.size ≤ b by omega)]
  unfold Heap.get? cutH
  rw [e]
theorem cut_size {h : Heap} {n : Nat} (hn : n ≤ h.objs.size) : (cutH h n).objs.size = n := by
  show (h.objs.extract 0 n).size = n
  rw [Array.size_extract]
  omega
theorem cut_at {h : Heap} {n b : Nat} {o : Obj} (hn : n ≤ h.objs.size) (e : (cutH h n).get? b = some o) : b < n ∧ h.get? b = some o := by
  have l := Heap.lt_size e
  rw [cut_size hn] at l
  exact ⟨l, (cut_low l).symm.trans e⟩
/-- a tuple of two whole numbers -/
def PairIn (h : Heap) (x : Addr) (p q : Int) : Prop := ∃ its : List Value, Vals [.int p, .int q] its ∧ IsTup h x its.toArray
/-- what a generator knows of the heap when it is woken: its own pairs, and of all that is younger than its frame that it stays -/
def wokenH (L : Nat) (h : Heap) (T : List (Addr × Int × Int)) : Hp := fun b =>
  match h.get? b with
  | none => none
  | some o => match T.find? (fun p => p.1 == b) with
    | some p => some (.frz o (.tup [.int p.2.1, .int p.2.2]))
    | none => if L < b then some (.ext fun h' => h'.get? b = some o) else none
structure GEnv (env : Env) : Prop where
  kind : env.scope.kind = .function
  glob : env.globals = mainGlobals
  blt : env.builtins = builtinsNs
  frame : env.frame = some env.locals
  cells : env.cells = []
  loc : ∀ x k, env.kindOf x = some k → k ≠ .cell ∧ k ≠ .free
def gcx (P : Program) (w : World) (K : PySem.W.Frag) (mg : Str → Option Value) (base : Heap) (N : List Str) (env : Env) (A : Around) (outer : List Env) (s : Shared) (T : List (Addr × Int × Int)) : Cx where
  prog := P
  w := w
  K := K
  mg := mg
  base := base
  A := A.deeper env
  N := N
  s_0 := { s with heap := cutH s.heap env.locals }
  H_0 := fun b => if b < env.locals then wokenH env.locals s.heap T b else none
  env := env
  outer := outer
  stack := env :: outer
  ex := []
  fn := fun _ => true
  calm := true
  pn := []
  xe := fun _ _ => False
/-- what the generator's locals are, as they stand in its frame -/
def LocIs (env : Env) (N : List Str) (h : Heap) (σ : L2.St) : Prop := σ.length = N.length ∧ ∃ m, h.Ns env.locals m ∧ ∀ (i : Nat) (x : Str) (v : V), N[i]? = some x → σ[i]? = some (some v) → Vis env.scope x → ∃ u, RelV v u ∧ env.kindOf x = some .local ∧ m x = some u
/-- what is wanted of the state in which it is woken -/
structure WakeOk (K : PySem.W.Frag) (mg : Str → Option Value) (base : Heap) (env : Env) (outer : List Env) (T : List (Addr × Int × Int)) (s : Shared) : Prop where
  bare : AllBare s.gens
  bs : ∀ b o, base.get? b = some o → s.heap.get? b = some o
  bz : base.objs.size ≤ env.locals
  funs : s.heap.FunFrames base outer
  low : ∀ b ∈ frs outer, b < env.locals
  pairs : ∀ p ∈ T, p.1 ∉ frs outer ∧ base.get? p.1 = none ∧ PairIn s.heap p.1 p.2.1 p.2.2
section
variable {P : Program} {w : World} {K : PySem.W.Frag} {mg : Str → Option Value} {base : Heap} {N : List Str} {env : Env} {A : Around} {outer : List Env} {s : Shared} {T : List (Addr × Int × Int)} {σ : L2.St}
theorem pair_inj {h : Heap} {x : Addr} {p q p' q' : Int} (a : PairIn h x p q) (b : PairIn h x p' q') : p = p' ∧ q = q' := by
  obtain ⟨its, r, o, ho, _, n, hd⟩ := a
  obtain ⟨its', r', o', ho', _, n', hd'⟩ := b
  rw [ho] at ho'
  cases ho'
  rw [hd] at hd'
  injection hd' with e _
  have e2 : its = its' := by simpa using e
  subst e2
  cases r with
  | cons r1 t1 => cases t1 with
    | cons r2 t2 =>
      cases t2
      cases r' with
      | cons r1' t1' => cases t1' with
        | cons r2' t2' =>
          obtain ⟨_, rfl⟩ := r1
          obtain ⟨_, rfl⟩ := r2
          obtain ⟨_, e1⟩ := r1'
          obtain ⟨_, e2⟩ := r2'
          cases e1
          cases e2
          exact ⟨rfl, rfl⟩
theorem woken_pair {L : Nat} {h : Heap} {p : Addr × Int × Int} (hp : p ∈ T) (hT : ∀ p ∈ T, PairIn h p.1 p.2.1 p.2.2) : ∃ o, h.get? p.1 = some o ∧ wokenH L h T p.1 = some (.frz o (.tup [.int p.2.1, .int p.2.2])) := by
  obtain ⟨its, _, o, ho, _⟩ := hT p hp
  refine ⟨o, ho, ?_⟩
  unfold wokenH
  rw [ho]
  dsimp only
  cases hf : T.find? (fun q => q.1 == p.1) with
  | none =>
    have := List.find?_eq_none.mp hf p hp
    simp at this
  | some q =>
    have hb : q.1 = p.1 := by simpa using List.find?_some hf
    have hq := hT q (List.mem_of_find?_eq_some hf)
    rw [hb] at hq
    obtain ⟨e1, e2⟩ := pair_inj hq (hT p hp)
    dsimp only
    rw [e1, e2]
theorem woken_ok (hT : ∀ p ∈ T, PairIn s.heap p.1 p.2.1 p.2.2) (L : Nat) : HOk P w (wokenH L s.heap T) s.heap := by
  intro b u e
  unfold wokenH at e
  cases ho : s.heap.get? b with
  | none => rw [ho] at e; cases e
  | some o =>
    rw [ho] at e
    dsimp only at e
    cases hf : T.find? (fun p => p.1 == b) with
    | some p =>
      rw [hf] at e
      cases e
      have hb : p.1 = b := by simpa using List.find?_some hf
      obtain ⟨its, r, it⟩ := hT p (List.mem_of_find?_eq_some hf)
      rw [hb] at it
      exact ⟨ho, by show 2 ≤ sizeLine; decide, its, r, it⟩
    | none =>
      rw [hf] at e
      dsimp only at e
      split at e
      · cases e
        exact ⟨ho, ⟨o, ho⟩, fun h1 h2 q k => k _ q⟩
      · cases e
theorem pair_noL {L : Nat} {h : Heap} {m : Str → Option Value} {x : Addr} {p q : Int} (hn : h.Ns L m) (hp : PairIn h x p q) : x ≠ L := by
  rintro rfl
  obtain ⟨o, es, ep, ho, hd, _⟩ := hn
  obtain ⟨its, _, o', ho', _, n, hd'⟩ := hp
  rw [ho] at ho'
  cases ho'
  rw [hd] at hd'
  cases hd'
/-- it is woken: its frame's invariant, over the heap as it stands -/
theorem awake (E : GEnv env) (M : Mod K mg base) (hd : A.handled = none) (fr : A.frames = some outer) (W : WakeOk K mg base env outer T s) (hl : LocIs env N s.heap σ) : Inv (gcx P w K mg base N env A outer s T) [] σ (wokenH env.locals s.heap T) s := by
  obtain ⟨len, m, hn, look⟩ := hl
  have lt : env.locals ≤ s.heap.objs.size := Nat.le_of_lt hn.lt
  have noc : ∀ x c, env.cells.lookup x = some c → False := fun x c e => by
    rw [E.cells] at e
    cases e
  have low : ∀ {b o}, (cutH s.heap env.locals).get? b = some o → b < env.locals ∧ s.heap.get? b = some o := fun e => cut_at lt e
  have atL : wokenH env.locals s.heap T env.locals = none := by
    unfold wokenH
    obtain ⟨o, es, ep, ho, hd', _⟩ := id hn
    rw [ho]
    dsimp only
    cases hf : T.find? (fun p => p.1 == env.locals) with
    | some p =>
      have hb : p.1 = env.locals := by simpa using List.find?_some hf
      exact absurd hb (pair_noL hn (W.pairs p (List.mem_of_find?_eq_some hf)).2.2)
    | none =>
      dsimp only
      rw [if_neg (Nat.lt_irrefl _)]
  have atF : ∀ b ∈ frs outer, wokenH env.locals s.heap T b = none := fun b hb => by
    unfold wokenH
    cases ho : s.heap.get? b with
    | none => rfl
    | some o =>
      dsimp only
      cases hf : T.find? (fun p => p.1 == b) with
      | some p =>
        have hb' : p.1 = b := by simpa using List.find?_some hf
        exact absurd (hb' ▸ hb) (W.pairs p (List.mem_of_find?_eq_some hf)).1
      | none =>
        dsimp only
        rw [if_neg (Nat.not_lt.mpr (Nat.le_of_lt (W.low b hb)))]
  have funs : (cutH s.heap env.locals).FunFrames base outer := by
    have all : ∀ l : List Env, (∀ b ∈ frs l, b < env.locals) → s.heap.FunFrames base l → (cutH s.heap env.locals).FunFrames base l := by
      intro l
      induction l with
      | nil => exact fun _ _ => trivial
      | cons e r ih =>
        rintro hlow ⟨hk, ⟨L, o, hf, hb, ho, hdat⟩, hr⟩
        have cons : frs (e :: r) = L :: frs r := by
          show List.filterMap _ _ = _
          rw [List.filterMap_cons, hf]
          rfl
        rw [cons] at hlow
        exact ⟨hk, ⟨L, o, hf, hb, (cut_low (hlow L List.mem_cons_self)).trans ho, hdat⟩, ih (fun b hb => hlow b (List.mem_cons_of_mem _ hb)) hr⟩
    exact all outer W.low W.funs
  have bsl : ∀ b o, base.get? b = some o → b < env.locals := fun b o e => Nat.lt_of_lt_of_le (Heap.lt_size e) W.bz
  have bsn : ∀ b o, base.get? b = some o → wokenH env.locals s.heap T b = none := fun b o e => by
    unfold wokenH
    rw [W.bs b o e]
    dsimp only
    cases hf : T.find? (fun p => p.1 == b) with
    | some p =>
      have hb : p.1 = b := by simpa using List.find?_some hf
      have z := (W.pairs p (List.mem_of_find?_eq_some hf)).2.1
      rw [hb, e] at z
      cases z
    | none =>
      dsimp only
      rw [if_neg (Nat.not_lt.mpr (Nat.le_of_lt (bsl b o e)))]
  have h0 : ∀ b, b < env.locals → (gcx P w K mg base N env A outer s T).H_0 b = wokenH env.locals s.heap T b := fun b hb => if_pos hb
  have h0s : ∀ {b u}, (gcx P w K mg base N env A outer s T).H_0 b = some u → wokenH env.locals s.heap T b = some u := fun {b u} e => by
    by_cases hb : b < env.locals
    · exact (h0 b hb).symm.trans e
    · rw [show (gcx P w K mg base N env A outer s T).H_0 b = none from if_neg hb] at e
      cases e
  have okX : (gcx P w K mg base N env A outer s T).Ok := by
    refine ⟨M, E.kind, E.glob, E.blt, Nat.le_of_eq (cut_size lt), fun x y c e => (noc x c e).elim, fun x hx => ?_, fun x c _ e => (noc x c e).elim, fun _ => hd, Around.frames_deeper fr, .inr ⟨rfl, E.frame⟩, fun b z => (nomatch z), fun b o e => ⟨(cut_low (bsl b o e)).trans (W.bs b o e), (h0 b (bsl b o e)).trans (bsn b o e)⟩, ?_, fun b _ _ z => (nomatch z), fun b z => (nomatch z), funs, fun b hb => (h0 b (W.low b hb)).trans (atF b hb)⟩
    · rcases hx with hx | hx
      · exact absurd rfl (E.loc x _ hx).1
      · exact absurd rfl (E.loc x _ hx).2
    · show base.objs.size ≤ (cutH s.heap env.locals).objs.size
      rw [cut_size lt]
      exact W.bz
  refine ⟨okX, rfl, W.bare, ⟨fun b o e _ _ _ => (low e).2, fun b o e _ _ _ => ⟨o.slots, (low e).2⟩, fun b o e z _ => (h0 b (low e).1).symm.trans z, fun b o e _ => ⟨o, (low e).2⟩, fun b xs e => h0s e, fun b o u e => h0s e, fun b ps e => ⟨#[], by rw [h0s e]; simp⟩⟩,
    ⟨m, hn, fun i x v e1 e2 e3 => ?_⟩, fun x c e => (noc x c e).elim, atL, fun x c e => (noc x c e).elim, fun p hp => by simp [gcx] at hp, woken_ok (fun p hp => (W.pairs p hp).2.2) _, len⟩
  obtain ⟨u, r, k, e⟩ := look i x v e1 e2 e3
  exact ⟨u, r, .inl ⟨k, e⟩⟩
/-- what a run between two yields leaves as it was -/
structure Stays (L : Addr) (fs : List Addr) (h h' : Heap) : Prop where
  keep : ∀ b o, h.get? b = some o → b ≠ L → b ∉ fs → h'.get? b = some o
  slot : ∀ b o, h.get? b = some o → b ≠ L → b ∈ fs → ∃ sl, h'.get? b = some { o with slots := sl }
theorem stays_of {pins : List (Addr × Obj)} {σ' : L2.St} {H' : Hp} {s' : Shared} (lt : env.locals ≤ s.heap.objs.size) (hT : ∀ p ∈ T, PairIn s.heap p.1 p.2.1 p.2.2) (I : Inv (gcx P w K mg base N env A outer s T) pins σ' H' s') (sm : Same (wokenH env.locals s.heap T) H') : Stays env.locals (frs outer) s.heap s'.heap := by
  have known : ∀ b o, s.heap.get? b = some o → b ∉ frs outer → b ≠ env.locals → (b < env.locals ∧ wokenH env.locals s.heap T b = none) ∨ s'.heap.get? b = some o := fun b o e _ ne => by
    cases hw : wokenH env.locals s.heap T b with
    | some u =>
      have z := I.hok b u (sm _ _ hw)
      unfold wokenH at hw
      rw [e] at hw
      dsimp only at hw
      cases hf : T.find? (fun p => p.1 == b) with
      | some p =>
        rw [hf] at hw
        cases hw
        exact .inr z.1
      | none =>
        rw [hf] at hw
        dsimp only at hw
        split at hw
        · cases hw
          exact .inr z.1
        · cases hw
    | none =>
      refine .inl ⟨?_, rfl⟩
      unfold wokenH at hw
      rw [e] at hw
      dsimp only at hw
      cases hf : T.find? (fun p => p.1 == b) with
      | some p => rw [hf] at hw; cases hw
      | none =>
        rw [hf] at hw
        dsimp only at hw
        split at hw
        · cases hw
        · rename_i q
          have q : ¬ env.locals < b := q
          have : (b : Nat) ≠ env.locals := ne
          exact Nat.lt_of_le_of_ne (Nat.not_lt.mp q) this
  refine ⟨fun b o e ne nf => ?_, fun b o e ne hf => ?_⟩
  · rcases known b o e nf ne with ⟨l, z⟩ | z
    · exact I.base.keep b o ((cut_low l).trans e) ((if_pos l).trans z) nf (fun q => nomatch q)
    · exact z
  · have hs := I.ok.funs.mem hf
    obtain ⟨_, o', ho', _⟩ := hs
    have l := (cut_at lt ho').1
    exact I.base.slot b o ((cut_low l).trans e) (I.ok.frf b hf) hf (fun q => nomatch q)
/-- a pair that was made in such a run stands where nothing stood -/
theorem made_new {pins : List (Addr × Obj)} {σ' : L2.St} {H1 H' : Hp} {s' : Shared} {x : Addr} {p q : Int} (lt : env.locals ≤ s.heap.objs.size) (I : Inv (gcx P w K mg base N env A outer s T) pins σ' H' s') (sm : Same (wokenH env.locals s.heap T) H1) (n : H1 x = none) (e : H' x = some (.tup [.int p, .int q])) : s.heap.get? x = none ∧ PairIn s'.heap x p q := by
  refine ⟨?_, (I.hok x _ e).2⟩
  cases ho : s.heap.get? x with
  | none => rfl
  | some o =>
    exfalso
    have hw : wokenH env.locals s.heap T x = none := by
      cases z : wokenH env.locals s.heap T x with
      | none => rfl
      | some u =>
        rw [sm _ _ z] at n
        cases n
    have nl : x ≠ env.locals := fun z => by
      rw [z] at e
      have z2 := I.free
      rw [show (gcx P w K mg base N env A outer s T).env.locals = env.locals from rfl, e] at z2
      cases z2
    have lx : x < env.locals := by
      have hw' := hw
      unfold wokenH at hw'
      rw [ho] at hw'
      dsimp only at hw'
      cases hf : T.find? (fun p => p.1 == x) with
      | some p => rw [hf] at hw'; cases hw'
      | none =>
        rw [hf] at hw'
        dsimp only at hw'
        split at hw'
        · cases hw'
        · rename_i q
          have q : ¬ env.locals < x := q
          have nl' : (x : Nat) ≠ env.locals := nl
          exact Nat.lt_of_le_of_ne (Nat.not_lt.mp q) nl'
    have z := I.base.free x o ((cut_low lx).trans ho) ((if_pos lx).trans hw) (fun q => nomatch q)
    rw [e] at z
    cases z
theorem WakeOk.new (W : WakeOk K mg base env outer T s) {x : Addr} (n : s.heap.get? x = none) : x ∉ frs outer ∧ base.get? x = none := by
  refine ⟨fun hx => ?_, ?_⟩
  · obtain ⟨_, o, ho, _⟩ := W.funs.mem hx
    rw [n] at ho
    cases ho
  · cases hb : base.get? x with
    | none => rfl
    | some o =>
      rw [W.bs x o hb] at n
      cases n
theorem after_run {pins : List (Addr × Obj)} {σ' : L2.St} {H' : Hp} {s' : Shared} {T' : List (Addr × Int × Int)} (E : GEnv env) (W : WakeOk K mg base env outer T s) (I : Inv (gcx P w K mg base N env A outer s T) pins σ' H' s')
    (hp : ∀ p ∈ T', p.1 ∉ frs outer ∧ base.get? p.1 = none ∧ PairIn s'.heap p.1 p.2.1 p.2.2) : WakeOk K mg base env outer T' s' ∧ LocIs env N s'.heap σ' := by
  refine ⟨⟨I.bare, I.bk, W.bz, I.funs, W.low, hp⟩, I.len, ?_⟩
  obtain ⟨m, hn, look⟩ := I.loc
  refine ⟨m, hn, fun i x v e1 e2 e3 => ?_⟩
  obtain ⟨u, r, z⟩ := look i x v e1 e2 e3
  refine ⟨u, r, ?_⟩
  rcases z with z | ⟨z, _⟩
  · exact z
  · rcases z with z | z
    · exact absurd rfl (E.loc x _ z).1
    · exact absurd rfl (E.loc x _ z).2
end
/-! ### the continued fraction of a root: its numbers, its fractions -/
/-- m, t, k ahead of the i-th turn -/
def cfS (r w : Int) : Nat → Int × Int × Int
  | 0 => (0, 1, w)
  | i + 1 => ((cfS r w i).2.1 * (cfS r w i).2.2 - (cfS r w i).1, (r - ((cfS r w i).2.1 * (cfS r w i).2.2 - (cfS r w i).1) * ((cfS r w i).2.1 * (cfS r w i).2.2 - (cfS r w i).1)) / (cfS r w i).2.1,
      (w + ((cfS r w i).2.1 * (cfS r w i).2.2 - (cfS r w i).1)) / ((r - ((cfS r w i).2.1 * (cfS r w i).2.2 - (cfS r w i).1) * ((cfS r w i).2.1 * (cfS r w i).2.2 - (cfS r w i).1)) / (cfS r w i).2.1))
/-- the last two fractions ahead of the i-th turn -/
def cfR (r w : Int) : Nat → (Int × Int) × (Int × Int)
  | 0 => ((1, 0), (0, 1))
  | i + 1 => (((cfR r w i).1.1 * (cfS r w i).2.2 + (cfR r w i).2.1, (cfR r w i).1.2 * (cfS r w i).2.2 + (cfR r w i).2.2), (cfR r w i).1)
/-- the i-th fraction -/
def cfF (r w : Int) (i : Nat) : Int × Int := (cfR r w (i + 1)).1
theorem cfR_two (r w : Int) (i : Nat) : cfR r w (i + 2) = (cfF r w (i + 1), cfF r w i) := rfl
def isW (r w : Int) : Prop := 0 ≤ w ∧ w * w < r ∧ r < (w + 1) * (w + 1)
/-- what holds of m, t from the first turn on -/
def cfGood (r w m t : Int) : Bool := decide (1 ≤ m ∧ m ≤ w ∧ 1 ≤ t ∧ w - m < t ∧ t ≤ w + m ∧ (r - m * m) % t = 0 ∧ 1 ≤ (r - m * m) / t ∧ t < (r - m * m) / t + 2 * m)
def cfNext (r w m t : Int) : Bool :=
  let m' := t * ((w + m) / t) - m
  cfGood r w m' ((r - m' * m') / t)
def cfAll : Bool := (List.range 98).all fun r0 => (List.range 10).all fun w => !decide ((w * w : Int) < (r0 + 2 : Int) ∧ (r0 + 2 : Int) < ((w : Int) + 1) * (w + 1)) ||
  (cfGood (r0 + 2) w w (r0 + 2 - w * w) && (List.range 10).all fun m => (List.range 20).all fun t => !cfGood (r0 + 2) w m t || cfNext (r0 + 2) w m t)
theorem cf_all : cfAll = true := by decide +kernel
theorem cf_root {r w : Int} (h2 : 2 ≤ r) (h99 : r ≤ 99) (hw : isW r w) : cfGood r w w (r - w * w) = true ∧ ∀ m t, cfGood r w m t = true → cfNext r w m t = true := by
  obtain ⟨w0, w1, w2⟩ := hw
  have w9 : w ≤ 9 := by
    rcases Int.lt_or_le 9 w with z | z
    · have := Int.mul_le_mul (show (10 : Int) ≤ w by omega) (show (10 : Int) ≤ w by omega) (by decide) (by omega)
      omega
    · exact z
  have A := cf_all
  unfold cfAll at A
  have A1 := List.all_eq_true.mp A (r - 2).toNat (List.mem_range.mpr (by omega))
  have A2 := List.all_eq_true.mp A1 w.toNat (List.mem_range.mpr (by omega))
  have er : (((r - 2).toNat : Nat) : Int) + 2 = r := by omega
  have ew : ((w.toNat : Nat) : Int) = w := by omega
  rw [er, ew] at A2
  rw [show decide (w * w < r ∧ r < (w + 1) * (w + 1)) = true from decide_eq_true ⟨w1, w2⟩, Bool.not_true, Bool.false_or, Bool.and_eq_true] at A2
  refine ⟨A2.1, fun m t g => ?_⟩
  obtain ⟨m1, m2, t1, t2, t3, _⟩ := of_decide_eq_true g
  have B1 := List.all_eq_true.mp A2.2 m.toNat (List.mem_range.mpr (by omega))
  have B2 := List.all_eq_true.mp B1 t.toNat (List.mem_range.mpr (by omega))
  have em : ((m.toNat : Nat) : Int) = m := by omega
  have et : ((t.toNat : Nat) : Int) = t := by omega
  rw [em, et, g, Bool.not_true, Bool.false_or] at B2
  exact B2
section
variable {r w : Int}
theorem cf_good (h2 : 2 ≤ r) (h99 : r ≤ 99) (hw : isW r w) : ∀ i, cfGood r w (cfS r w (i + 1)).1 (cfS r w (i + 1)).2.1 = true ∧ (cfS r w (i + 1)).2.2 = (w + (cfS r w (i + 1)).1) / (cfS r w (i + 1)).2.1
  | 0 => by
    refine ⟨?_, rfl⟩
    have g := (cf_root h2 h99 hw).1
    have e1 : (cfS r w 1).1 = w := by
      show 1 * w - 0 = w
      omega
    have e2 : (cfS r w 1).2.1 = r - w * w := by
      show (r - (1 * w - 0) * (1 * w - 0)) / 1 = _
      rw [Int.ediv_one, Int.one_mul, Int.sub_zero]
    rw [e1, e2]
    exact g
  | i + 1 => by
    refine ⟨?_, rfl⟩
    obtain ⟨g, e⟩ := cf_good h2 h99 hw i
    have n := (cf_root h2 h99 hw).2 _ _ g
    unfold cfNext at n
    rw [← e] at n
    exact n
/-- of every turn -/
theorem cf_num (h2 : 2 ≤ r) (h99 : r ≤ 99) (hw : isW r w) (i : Nat) : 0 ≤ (cfS r w i).1 ∧ (cfS r w i).1 ≤ 9 ∧ 1 ≤ (cfS r w i).2.1 ∧ (cfS r w i).2.1 ≤ 99 ∧ 1 ≤ (cfS r w i).2.2 ∧ (cfS r w i).2.2 ≤ 18 := by
  obtain ⟨w0, w1, w2⟩ := id hw
  have w9 : w ≤ 9 := by
    rcases Int.lt_or_le 9 w with z | z
    · have := Int.mul_le_mul (show (10 : Int) ≤ w by omega) (show (10 : Int) ≤ w by omega) (by decide) (by omega)
      omega
    · exact z
  have wp : 1 ≤ w := by
    rcases Int.lt_or_le w 1 with z | z
    · have : w = 0 := by omega
      subst this
      omega
    · exact z
  cases i with
  | zero => exact ⟨show (0 : Int) ≤ 0 by decide, show (0 : Int) ≤ 9 by decide, show (1 : Int) ≤ 1 by decide, show (1 : Int) ≤ 99 by decide, wp, show w ≤ 18 by omega⟩
  | succ i =>
    obtain ⟨g, e⟩ := cf_good h2 h99 hw i
    obtain ⟨m1, m2, t1, t2, t3, _⟩ := of_decide_eq_true g
    rw [e]
    generalize (cfS r w (i + 1)).1 = m at *
    generalize (cfS r w (i + 1)).2.1 = t at *
    have k1 : 1 ≤ (w + m) / t := by
      have := Int.ediv_le_ediv (show 0 < t by omega) t3
      rw [Int.ediv_self (by omega)] at this
      exact this
    have k2 : (w + m) / t ≤ w + m := Int.ediv_le_self _ (by omega)
    exact ⟨by omega, by omega, t1, by omega, k1, by omega⟩
/-- how great they become -/
theorem cf_bound (h2 : 2 ≤ r) (h99 : r ≤ 99) (hw : isW r w) : ∀ i, (0 ≤ (cfR r w i).1.1 ∧ 0 ≤ (cfR r w i).1.2 ∧ 0 ≤ (cfR r w i).2.1 ∧ 0 ≤ (cfR r w i).2.2) ∧ ((cfR r w i).1.1 < 2 ^ (5 * i + 1) ∧ (cfR r w i).1.2 < 2 ^ (5 * i + 1) ∧ (cfR r w i).2.1 < 2 ^ (5 * i + 1) ∧ (cfR r w i).2.2 < 2 ^ (5 * i + 1))
  | 0 => ⟨⟨show (0 : Int) ≤ 1 by decide, show (0 : Int) ≤ 0 by decide, show (0 : Int) ≤ 0 by decide, show (0 : Int) ≤ 1 by decide⟩, show (1 : Int) < 2 ^ 1 by decide, show (0 : Int) < 2 ^ 1 by decide, show (0 : Int) < 2 ^ 1 by decide, show (1 : Int) < 2 ^ 1 by decide⟩
  | i + 1 => by
    obtain ⟨⟨a, b, c, d⟩, a', b', c', d'⟩ := cf_bound h2 h99 hw i
    obtain ⟨_, _, _, _, k1, k2⟩ := cf_num h2 h99 hw i
    have e : (2 : Int) ^ (5 * (i + 1) + 1) = 2 ^ (5 * i + 1) * 32 := by
      rw [show 5 * (i + 1) + 1 = (5 * i + 1) + 5 by omega, Int.pow_add]
      rfl
    show (0 ≤ (cfR r w i).1.1 * (cfS r w i).2.2 + (cfR r w i).2.1 ∧ 0 ≤ (cfR r w i).1.2 * (cfS r w i).2.2 + (cfR r w i).2.2 ∧ 0 ≤ (cfR r w i).1.1 ∧ 0 ≤ (cfR r w i).1.2) ∧ ((cfR r w i).1.1 * (cfS r w i).2.2 + (cfR r w i).2.1 < _ ∧ (cfR r w i).1.2 * (cfS r w i).2.2 + (cfR r w i).2.2 < _ ∧ (cfR r w i).1.1 < _ ∧ (cfR r w i).1.2 < _)
    rw [e]
    generalize (2 : Int) ^ (5 * i + 1) = B at *
    generalize (cfS r w i).2.2 = k at *
    generalize (cfR r w i).1.1 = x at *
    generalize (cfR r w i).1.2 = y at *
    have u1 : x * k ≤ x * 18 := Int.mul_le_mul_of_nonneg_left k2 a
    have u2 : y * k ≤ y * 18 := Int.mul_le_mul_of_nonneg_left k2 b
    have l1 : 0 ≤ x * k := Int.mul_nonneg a (by omega)
    have l2 : 0 ≤ y * k := Int.mul_nonneg b (by omega)
    exact ⟨⟨by omega, by omega, a, b⟩, by omega, by omega, by omega, by omega⟩
end
/-! ### a generator that is walked within another one's turns: endless_fractions -/
/-- what whoever walks a generator may do while it sleeps -/
structure Between (base : Heap) (outer : List Env) (L : Addr) (s s' : Shared) : Prop where
  bare : AllBare s'.gens
  frame : ∀ o, s.heap.get? L = some o → s'.heap.get? L = some o
  pairs : ∀ x p q, PairIn s.heap x p q → PairIn s'.heap x p q
  bs : ∀ b o, base.get? b = some o → s'.heap.get? b = some o
  funs : s'.heap.FunFrames base outer
theorem Stays.refl {L : Addr} {fs : List Addr} {h : Heap} : Stays L fs h h := ⟨fun _ _ e _ _ => e, fun _ o e _ _ => ⟨o.slots, e⟩⟩
theorem Stays.trans {L : Addr} {fs : List Addr} {h h1 h2 : Heap} (a : Stays L fs h h1) (b : Stays L fs h1 h2) : Stays L fs h h2 := ⟨fun x o e n f => b.keep x o (a.keep x o e n f) n f, fun x o e n f => by
  obtain ⟨sl, e1⟩ := a.slot x o e n f
  obtain ⟨sl', e2⟩ := b.slot x _ e1 n f
  exact ⟨sl', e2⟩⟩
theorem Stays.pair {L : Addr} {fs : List Addr} {h h' : Heap} {x : Addr} {p q : Int} (a : Stays L fs h h') (n : x ≠ L) (e : PairIn h x p q) : PairIn h' x p q := by
  obtain ⟨its, r, o, ho, hc, m, hd⟩ := e
  by_cases f : x ∈ fs
  · obtain ⟨sl, e⟩ := a.slot x o ho n f
    exact ⟨its, r, _, e, hc, m, hd⟩
  · exact ⟨its, r, o, a.keep x o ho n f, hc, m, hd⟩
/-- the i-th of its items is handed out, n more may be asked for -/
def YPair (base : Heap) (outer : List Env) (L : Addr) (F : Nat → Int × Int) (N : Nat) : Protocol := fun n s₀ v s1 kap =>
  s1.os = s₀.os ∧ AllBare s1.gens ∧ Stays L (frs outer) s₀.heap s1.heap ∧ (∃ m, s1.heap.Ns L m) ∧ (∃ x, v = .ref x ∧ s₀.heap.get? x = none ∧ PairIn s1.heap x (F (N - n)).1 (F (N - n)).2) ∧ ∀ s', Between base outer L s1 s' → n = 0 ∨ kap (.send .none) s'
/-- it never ends -/
def RNever : GenEnd := fun _ _ _ _ => False
section
variable {base : Heap} {K : PySem.W.Frag} {mg : Str → Option Value} {P : Program} {w : World}
abbrev envE (L f : Addr) (cd : Value) : Env := envOfC "endless_fractions" (defScope s_endless_fractions) L f cd
theorem genv_e (L f : Addr) (cd : Value) : GEnv (envE L f cd) where
  kind := rfl
  glob := rfl
  blt := rfl
  frame := rfl
  cells := by kernel_rfl
  loc := fun x k e => (show ∀ y ∈ (defScope s_endless_fractions).names, y.2 ≠ .cell ∧ y.2 ≠ .free by decide +kernel) (x, k) (PySem.mem_of_lookup e)
def nthS (l : List Stmt) (i : Nat) : Stmt := l.getD i (.Pass ⟨0, 0, 0, 0⟩)
def wTest : Stmt → Expr
  | .While t _ _ _ => t
  | _ => .Name "" ⟨0, 0, 0, 0⟩
def wBody : Stmt → List Stmt
  | .While _ b _ _ => b
  | _ => []
def wPos : Stmt → Pos
  | .While _ _ _ p => p
  | _ => ⟨0, 0, 0, 0⟩
abbrev wE : Stmt := nthS (defBody s_endless_fractions) 3
abbrev tstE : Expr := wTest wE
abbrev bodE : List Stmt := wBody wE
theorem body_e : defBody s_endless_fractions = [nthS (defBody s_endless_fractions) 0, nthS (defBody s_endless_fractions) 1, nthS (defBody s_endless_fractions) 2, .While tstE bodE [] (wPos wE)] := rfl
def yExp : Stmt → Expr
  | .Expr (.Yield (some e) _) _ => e
  | _ => .Name "" ⟨0, 0, 0, 0⟩
def yPos : Stmt → Pos × Pos
  | .Expr (.Yield _ p) q => (p, q)
  | _ => (⟨0, 0, 0, 0⟩, ⟨0, 0, 0, 0⟩)
abbrev yE : Expr := yExp (nthS bodE 1)
theorem bod_e : bodE = [nthS bodE 0, .Expr (.Yield (some yE) (yPos (nthS bodE 1)).1) (yPos (nthS bodE 1)).2, nthS bodE 2, nthS bodE 3, nthS bodE 4] := rfl
abbrev nmE : List Str := ["root", "whole", "m", "t", "k", "last", "before"]
/-- the locals: root, whole, m, t, k, last, before -/
def sigE (r w m t k : Int) (lx bx : Addr) : L2.St := [some (.int r), some (.int w), some (.int m), some (.int t), some (.int k), some (.ref lx), some (.ref bx)]
theorem seg_cons_at {M : Model} {A : Around} {R : GenEnd} {Y : Protocol} {n : Nat} {s₀ s : Shared} {c : Code} {fs : List Frame} {env : Env} {KK : Flow → Sem PySem.Fin} {J : Value → Sem PySem.Fin} {g : Bool → Bool} {lv : List Value → List Value} {sts rest : List Stmt} {st : Stmt} (e : sts = st :: rest)
    (h : Seg M A R Y n s₀ c ((exec st env).wrap (fun f => match f with | .next => (execs rest env).wrap KK J g lv | f => KK f) J g lv) fs s) : Seg M A R Y n s₀ c ((execs sts env).wrap KK J g lv) fs s := by
  rw [e]
  exact seg_execs_cons h
theorem two5000 {x : Int} {i : Nat} (h0 : 0 ≤ x) (h : x < 2 ^ (5 * i + 1)) (hi : i ≤ 1000) : x.natAbs < 2 ^ 9000 := by
  have e : x.natAbs < 2 ^ (5 * i + 1) := by
    have : ((x.natAbs : Nat) : Int) < ((2 ^ (5 * i + 1) : Nat) : Int) := by
      rw [Int.natAbs_of_nonneg h0, Int.natCast_pow]
      exact h
    exact_mod_cast this
  exact Nat.lt_of_lt_of_le e (Nat.pow_le_pow_right (by decide) (by omega))
section
variable {A : Around} {outer : List Env} {L f : Addr} {cd : Value} {r v : Int} {N : Nat} {fs : List Frame}
abbrev SegE (P : Program) (w : World) (base : Heap) (A : Around) (outer : List Env) (L f : Addr) (cd : Value) (r v : Int) (N n : Nat) (fs : List Frame) (s₀ s : Shared) : Prop :=
  Seg (model P w) A RNever (YPair base outer L (cfF r v) N) n s₀ (.whileLoop tstE bodE [] (envE L f cd)) ((model P w).den (.whileLoop tstE bodE [] (envE L f cd))) fs s
/-- one turn: a fraction is made and handed out -/
theorem turn_one (T : Txt K mg) (M : Mod K mg base) (hr : Room 4 (A.deeper (envE L f cd))) (hd : A.handled = none) (fr : A.frames = some outer) (r2 : 2 ≤ r) (r99 : r ≤ 99) (hw : isW r v) (small : N ≤ 1000)
    (ov : A.over (.whileLoop tstE bodE [] (envE L f cd)) fs = A.deeper (envE L f cd)) (sp : splitAtGen fs = none) (gd : fs.any Frame.guarded = false) (n i : Nat) (hi : i + n = N)
    (next : ∀ (s₀ s : Shared) (lx bx : Addr), WakeOk K mg base (envE L f cd) outer [(lx, (cfR r v (i + 1)).1), (bx, (cfR r v (i + 1)).2)] s → LocIs (envE L f cd) nmE s.heap (sigE r v (cfS r v (i + 1)).1 (cfS r v (i + 1)).2.1 (cfS r v (i + 1)).2.2 lx bx) → s.os = s₀.os → Stays L (frs outer) s₀.heap s.heap → n = 0 ∨ SegE P w base A outer L f cd r v N n fs s₀ s)
    (s₀ s : Shared) (lx bx : Addr) (W : WakeOk K mg base (envE L f cd) outer [(lx, (cfR r v i).1), (bx, (cfR r v i).2)] s) (hl : LocIs (envE L f cd) nmE s.heap (sigE r v (cfS r v i).1 (cfS r v i).2.1 (cfS r v i).2.2 lx bx)) (os : s.os = s₀.os) (st : Stays L (frs outer) s₀.heap s.heap) :
    SegE P w base A outer L f cd r v N (n + 1) fs s₀ s := by
  have E := genv_e L f cd
  have hi1000 : i ≤ 1000 := by omega
  obtain ⟨⟨b1, b2, b3, b4⟩, c1, c2, c3, c4⟩ := cf_bound r2 r99 hw i
  obtain ⟨m1, m2, t1, t2, k1, k2⟩ := cf_num r2 r99 hw i
  obtain ⟨m1', m2', t1', t2', k1', k2'⟩ := cf_num r2 r99 hw (i + 1)
  obtain ⟨v0, v1, v2⟩ := id hw
  have v9 : v ≤ 9 := by
    rcases Int.lt_or_le 9 v with z | z
    · have := Int.mul_le_mul (show (10 : Int) ≤ v by omega) (show (10 : Int) ≤ v by omega) (by decide) (by omega)
      omega
    · exact z
  have I := awake (P := P) (w := w) (A := A) E M hd fr W hl
  have lt : L ≤ s.heap.objs.size := by
    obtain ⟨_, m, hn, _⟩ := hl
    exact Nat.le_of_lt hn.lt
  obtain ⟨ol, hol, wl⟩ := woken_pair (L := L) (p := (lx, (cfR r v i).1)) (List.mem_cons_self) (fun p hp => (W.pairs p hp).2.2)
  obtain ⟨ob, hob, wb⟩ := woken_pair (L := L) (p := (bx, (cfR r v i).2)) (List.mem_cons_of_mem _ List.mem_cons_self) (fun p hp => (W.pairs p hp).2.2)
  have lp := (W.pairs (lx, (cfR r v i).1) List.mem_cons_self).2.2
  have ln := (W.pairs (lx, (cfR r v i).1) List.mem_cons_self)
  generalize hT : [(lx, (cfR r v i).1), (bx, (cfR r v i).2)] = TT at *
  have hTT : ∀ p ∈ TT, PairIn s.heap p.1 p.2.1 p.2.2 := fun p hp => (W.pairs p hp).2.2
  refine seg_whileLoop ?_
  rw [ov]
  refine wpAny_mono ((show PT (gcx P w K mg base nmE (envE L f cd) A outer s TT) tstE _ from (pt_val pe_bl)).run [] s _ _ (fun b H' => b = true ∧ H' = wokenH L s.heap TT) I ⟨true, rfl, rfl, rfl⟩) ?_ fun _ _ z => z.elim
  rintro b s1 ⟨H1, I1, rfl, rfl⟩
  rw [if_pos rfl]
  refine seg_cons_at bod_e (seg_wrap ?_)
  rw [ov]
  refine wpAny_mono ((show PS (gcx P w K mg base nmE (envE L f cd) A outer s TT) (nthS bodE 0) _ from (ps_par (i := 5) (j := 6) (by rfl) sc_endless_fractions.nd rfl rfl (by decide) rfl rfl (pa_cons (pe_callR (ok_added T) (hr.mono (by decide)) (by rfl) T.g_added T.F_added.kp pass0 (pa_cons (pe_call (ok_scaled T) (hr.mono (by decide)) (by rfl) T.g_scaled T.F_scaled.kp T.b_scaled .nil pass0 (pa_cons (pv 5) (pa_cons (pv 4) pa_nil))) (pa_cons (pv 6) pa_nil))) (pa_cons (pv 5) pa_nil)) (by rfl))).run [] s1 _ _ { nx := fun σ' H' => ∃ x H1, σ' = sigE r v (cfS r v i).1 (cfS r v i).2.1 (cfS r v i).2.2 x lx ∧ Same (wokenH L s.heap TT) H1 ∧ H1 x = none ∧ Same (wokenH L s.heap TT) H' ∧ H' x = some (.tup [.int (cfF r v i).1, .int (cfF r v i).2]), rt := fun _ _ => False } I1 ?_) ?_ fun _ _ z => z.elim
  · refine ⟨_, rfl, _, rfl, .ref lx, (cfR r v i).1.1, (cfR r v i).1.2, (cfS r v i).2.2, rfl, ⟨lx, rfl, .inl (.inr ⟨ol, wl⟩)⟩, two5000 b1 c1 hi1000, two5000 b2 c2 hi1000, Nat.lt_of_le_of_lt (show (cfS r v i).2.2.natAbs ≤ 18 by omega) (Nat.lt_of_lt_of_le (show 18 < 2 ^ 5 by decide) (Nat.pow_le_pow_right (by decide) (by decide))), fun p1 G1 n1 e1 h1 => ?_⟩
    refine ⟨_, rfl, [((cfR r v i).1.1 * (cfS r v i).2.2, (cfR r v i).1.2 * (cfS r v i).2.2), (cfR r v i).2], .cons ⟨p1, rfl, SqT.of h1⟩ (.cons ⟨bx, rfl, .inl (.inr ⟨ob, e1 _ _ wb⟩)⟩ .nil), by simp, fun p2 G2 n2 e2 h2 => ?_⟩
    rw [show Gy.s1 [((cfR r v i).1.1 * (cfS r v i).2.2, (cfR r v i).1.2 * (cfS r v i).2.2), (cfR r v i).2] = (cfF r v i).1 by simp [Gy.s1, cfF, cfR], show Gy.s2 [((cfR r v i).1.1 * (cfS r v i).2.2, (cfR r v i).1.2 * (cfS r v i).2.2), (cfR r v i).2] = (cfF r v i).2 by simp [Gy.s2, cfF, cfR]] at h2
    exact ⟨_, rfl, _, _, rfl, p2, G1, rfl, e1, n2, e1.trans e2, h2⟩
  · intro fl s2 hs
    match fl, hs with
    | .ret _, hs => obtain ⟨_, _, _, _, _, q⟩ := hs; exact q.elim
    | .brk, hs => obtain ⟨_, _, _, q⟩ := hs; exact q.elim
    | .cont, hs => obtain ⟨_, _, _, q⟩ := hs; exact q.elim
    | .next, hs =>
      obtain ⟨σ2, H2, I2, x, G1, rfl, e1, nx, e2, hx⟩ := hs
      obtain ⟨fresh, made⟩ := made_new lt I2 e1 nx hx
      have st2 := st.trans (stays_of lt hTT I2 e2)
      dsimp only
      refine seg_execs_cons (seg_Expr_Yield sp rfl gd ?_)
      rw [ov]
      refine wpAny_mono ((show PE (gcx P w K mg base nmE (envE L f cd) A outer s TT) yE _ from (pv 5)).run [] s2 _ _ (fun y H' => y = .ref x ∧ H' = H2) I2 ⟨_, rfl, rfl, rfl⟩) ?_ fun _ _ z => z.elim
      rintro u s3 ⟨y, H3, I3, ry, rfl, rfl⟩
      obtain rfl : u = .ref x := ry
      have st3 := st.trans (stays_of lt hTT I3 e2)
      have made3 : PairIn s3.heap x (cfF r v i).1 (cfF r v i).2 := (I3.hok x _ hx).2
      have n0 : s₀.heap.get? x = none := by
        cases z : s₀.heap.get? x with
        | none => rfl
        | some o =>
          exfalso
          by_cases zL : x = L
          · obtain ⟨_, m, ⟨oL, _, _, hoL, _⟩, _⟩ := id hl
            rw [← zL] at hoL
            have hoL : s.heap.get? x = some oL := hoL
            rw [fresh] at hoL
            cases hoL
          · by_cases zf : x ∈ frs outer
            · obtain ⟨sl, e⟩ := st.slot x o z zL zf
              rw [fresh] at e
              cases e
            · have e := st.keep x o z zL zf
              rw [fresh] at e
              cases e
      intro kap hk
      refine ⟨I3.os.trans os, I3.bare, st3, (let ⟨m, hn, _⟩ := I3.loc; ⟨m, hn⟩), ⟨x, rfl, n0, by rw [show N - n = i by omega]; exact made3⟩, fun s4 B => ?_⟩
      rcases Nat.eq_zero_or_pos n with n0 | npos
      · exact .inl n0
      refine .inr (hk .none s4 ?_)
      obtain ⟨xf, xb⟩ := W.new fresh
      have lxL : lx ≠ L := by
        obtain ⟨_, m, hn, _⟩ := id hl
        exact pair_noL hn lp
      have lp3 : PairIn s3.heap lx (cfR r v i).1.1 (cfR r v i).1.2 := (stays_of lt hTT I3 e2).pair lxL lp
      obtain ⟨W3, hl3⟩ := after_run (T' := [(x, (cfR r v (i + 1)).1), (lx, (cfR r v (i + 1)).2)]) E W I3 (fun p hp => by
        rcases List.mem_cons.mp hp with rfl | hp
        · exact ⟨xf, xb, made3⟩
        · rw [List.mem_singleton.mp hp]
          exact ⟨ln.1, ln.2.1, lp3⟩)
      have W4 : WakeOk K mg base (envE L f cd) outer [(x, (cfR r v (i + 1)).1), (lx, (cfR r v (i + 1)).2)] s4 :=
        ⟨B.bare, B.bs, W3.bz, B.funs, W3.low, fun p hp => ⟨(W3.pairs p hp).1, (W3.pairs p hp).2.1, B.pairs _ _ _ (W3.pairs p hp).2.2⟩⟩
      have hl4 : LocIs (envE L f cd) nmE s4.heap (sigE r v (cfS r v i).1 (cfS r v i).2.1 (cfS r v i).2.2 x lx) := by
        obtain ⟨len, m, hn, look⟩ := hl3
        exact ⟨len, m, hn.at' fun o e => B.frame o e, look⟩
      have lt4 : L ≤ s4.heap.objs.size := by
        obtain ⟨_, m, hn, _⟩ := hl4
        exact Nat.le_of_lt hn.lt
      have I4 := awake (P := P) (w := w) (A := A) E M hd fr W4 hl4
      have h4T : ∀ p ∈ [(x, (cfR r v (i + 1)).1), (lx, (cfR r v (i + 1)).2)], PairIn s4.heap p.1 p.2.1 p.2.2 := fun p hp => (W4.pairs p hp).2.2
      generalize hT4 : [(x, (cfR r v (i + 1)).1), (lx, (cfR r v (i + 1)).2)] = T4 at *
      dsimp only
      refine seg_wrap ?_
      rw [ov]
      refine wpAny_mono ((show PSs (gcx P w K mg base nmE (envE L f cd) A outer s4 T4) [nthS bodE 2, nthS bodE 3, nthS bodE 4] _ from (pss_cons (ps_set (i := 2) sc_endless_fractions.nd rfl (Or.inl rfl) (pe_op op_sub (pe_op op_mul (pv 3) (pv 4)) (pv 2)))
      (pss_cons (ps_set (i := 3) sc_endless_fractions.nd rfl (Or.inl rfl) (pe_op op_fdiv (pe_op op_sub (pv 0) (pe_op op_mul (pv 2) (pv 2))) (pv 3)))
      (pss_one (ps_set (i := 4) sc_endless_fractions.nd rfl (Or.inl rfl) (pe_op op_fdiv (pe_op op_add (pv 1) (pv 2)) (pv 3))))))).run [] s4 _ _ { nx := fun σ' H' => σ' = sigE r v (cfS r v (i + 1)).1 (cfS r v (i + 1)).2.1 (cfS r v (i + 1)).2.2 x lx ∧ H' = wokenH L s4.heap T4, rt := fun _ _ => False } I4 ?_) ?_ fun _ _ z => z.elim
      · have f1 : 0 ≤ (cfS r v i).2.1 * (cfS r v i).2.2 - (cfS r v i).1 ∧ (cfS r v i).2.1 * (cfS r v i).2.2 - (cfS r v i).1 ≤ 9 := ⟨m1', m2'⟩
        have f2 : 1 ≤ (r - ((cfS r v i).2.1 * (cfS r v i).2.2 - (cfS r v i).1) * ((cfS r v i).2.1 * (cfS r v i).2.2 - (cfS r v i).1)) / (cfS r v i).2.1 ∧ (r - ((cfS r v i).2.1 * (cfS r v i).2.2 - (cfS r v i).1) * ((cfS r v i).2.1 * (cfS r v i).2.2 - (cfS r v i).1)) / (cfS r v i).2.1 ≤ 99 := ⟨t1', t2'⟩
        exact ⟨_, rfl, _, rfl, _, _, rfl, rfl, .inl ⟨by omega, by omega⟩, _, rfl, _, _, rfl, rfl, _, rfl, _, rfl, _, rfl, _, _, rfl, rfl, .inl ⟨by omega, by omega⟩, _, _, rfl, rfl, _, rfl, _, _, rfl, rfl, ⟨by omega, by omega⟩, _, rfl, _, rfl, _, _, rfl, rfl, _, rfl, _, _, rfl, rfl, ⟨by omega, by omega⟩, rfl, rfl⟩
      · intro fl s5 hs
        match fl, hs with
        | .ret _, hs => obtain ⟨_, _, _, _, _, q⟩ := hs; exact q.elim
        | .brk, hs => obtain ⟨_, _, _, q⟩ := hs; exact q.elim
        | .cont, hs => obtain ⟨_, _, _, q⟩ := hs; exact q.elim
        | .next, hs =>
          obtain ⟨σ5, H5, I5, rfl, rfl⟩ := hs
          have st5 := stays_of lt4 h4T I5 (fun _ _ e => e)
          obtain ⟨_, m4, hn4, _⟩ := id hl4
          obtain ⟨W5, hl5⟩ := after_run (T' := T4) E W4 I5 (fun p hp => ⟨(W4.pairs p hp).1, (W4.pairs p hp).2.1, st5.pair (pair_noL hn4 (h4T p hp)) (h4T p hp)⟩)
          rw [← hT4] at W5
          refine seg_again rfl ?_
          rcases next s4 s5 x lx W5 hl5 I5.os st5 with z | z
          · omega
          · exact z
theorem turn_e (T : Txt K mg) (M : Mod K mg base) (hr : Room 4 (A.deeper (envE L f cd))) (hd : A.handled = none) (fr : A.frames = some outer) (r2 : 2 ≤ r) (r99 : r ≤ 99) (hw : isW r v) (small : N ≤ 1000)
    (ov : A.over (.whileLoop tstE bodE [] (envE L f cd)) fs = A.deeper (envE L f cd)) (sp : splitAtGen fs = none) (gd : fs.any Frame.guarded = false) :
    ∀ (n i : Nat), i + n = N → ∀ (s₀ s : Shared) (lx bx : Addr), WakeOk K mg base (envE L f cd) outer [(lx, (cfR r v i).1), (bx, (cfR r v i).2)] s → LocIs (envE L f cd) nmE s.heap (sigE r v (cfS r v i).1 (cfS r v i).2.1 (cfS r v i).2.2 lx bx) → s.os = s₀.os → Stays L (frs outer) s₀.heap s.heap → SegE P w base A outer L f cd r v N (n + 1) fs s₀ s
  | 0, i, hi, s₀, s, lx, bx, W, hl, os, st => turn_one T M hr hd fr r2 r99 hw small ov sp gd 0 i hi (fun _ _ _ _ _ _ _ _ => .inl rfl) s₀ s lx bx W hl os st
  | n + 1, i, hi, s₀, s, lx, bx, W, hl, os, st => turn_one T M hr hd fr r2 r99 hw small ov sp gd (n + 1) i hi (fun s₀' s' lx' bx' W' hl' os' st' => .inr (turn_e T M hr hd fr r2 r99 hw small ov sp gd n (i + 1) (by omega) s₀' s' lx' bx' W' hl' os' st')) s₀ s lx bx W hl os st
theorem root_one {g v : Int} (hw : isW r v) (g0 : 0 ≤ g) (g1 : g * g ≤ r) (g2 : r < (g + 1) * (g + 1)) : g = v := by
  obtain ⟨v0, v1, v2⟩ := hw
  rcases Int.lt_trichotomy g v with z | z | z
  · have := Int.mul_le_mul (show g + 1 ≤ v by omega) (show g + 1 ≤ v by omega) (by omega) v0
    omega
  · exact z
  · have := Int.mul_le_mul (show v + 1 ≤ g by omega) (show v + 1 ≤ g by omega) (by omega) g0
    omega
/-- woken for the first time -/
theorem fresh_e (T : Txt K mg) (M : Mod K mg base) (hr : Room 4 (A.deeper (envE L f cd))) (hd : A.handled = none) (fr : A.frames = some outer) (r2 : 2 ≤ r) (r99 : r ≤ 99) (hw : isW r v) (small : N ≤ 1000)
    (s : Shared) (W : WakeOk K mg base (envE L f cd) outer [] s) (hl : LocIs (envE L f cd) nmE s.heap [some (.int r), none, none, none, none, none, none]) :
    Seg (model P w) A RNever (YPair base outer L (cfF r v) N) (N + 1) s (.func (defBody s_endless_fractions) (envE L f cd)) ((model P w).den (.func (defBody s_endless_fractions) (envE L f cd))) [] s := by
  have E := genv_e L f cd
  have I := awake (P := P) (w := w) (A := A) E M hd fr W hl
  have lt : L ≤ s.heap.objs.size := by
    obtain ⟨_, m, hn, _⟩ := hl
    exact Nat.le_of_lt hn.lt
  have hTT : ∀ p ∈ ([] : List (Addr × Int × Int)), PairIn s.heap p.1 p.2.1 p.2.2 := fun p hp => nomatch hp
  have dp : ∀ {fs : List Frame}, A.over (.func (defBody s_endless_fractions) (envE L f cd)) [] = A.deeper (envE L f cd) := GenW.over_func
  have noE : ∀ {X : Cx} {pins D fl s'}, SP X pins D fl s' → D.bk = (fun _ _ => False) → D.ct = (fun _ _ => False) → D.rt = (fun _ _ => False) → fl = .next ∧ ∃ σ' H', Inv X pins σ' H' s' ∧ D.nx σ' H' := fun {X pins D fl s'} h e1 e2 e3 => by
    match fl, h with
    | .ret _, h => obtain ⟨_, _, _, _, _, q⟩ := h; rw [e3] at q; exact q.elim
    | .brk, h => obtain ⟨_, _, _, q⟩ := h; rw [e1] at q; exact q.elim
    | .cont, h => obtain ⟨_, _, _, q⟩ := h; rw [e2] at q; exact q.elim
    | .next, h => exact ⟨rfl, h⟩
  refine seg_func (seg_cons_at body_e (seg_wrap ?_))
  rw [dp (fs := [])]
  refine wpAny_mono ((show PS (gcx P w K mg base nmE (envE L f cd) A outer s []) (nthS (defBody s_endless_fractions) 0) _ from (ps_set (i := 1) sc_endless_fractions.nd rfl (Or.inl rfl) (pe_call (ok_floor_of T) (hr.mono (by decide)) (by rfl) T.g_floor_of T.F_floor_of.kp T.b_floor_of .nil pass0 (pa_cons (pe_tup (pa_cons pe_int (pa_cons pe_int pa_nil))) (pa_cons (pv 0) pa_nil))))).run [] s _ _ { nx := fun σ' H' => σ' = [some (.int r), some (.int v), none, none, none, none, none] ∧ Same (wokenH L s.heap []) H', rt := fun _ _ => False } I ?_) ?_ fun _ _ z => z.elim
  · refine ⟨by show 2 ≤ sizeLine; decide, fun t nt => ⟨_, rfl, t, r, 0, 1, rfl, SqT.of upd_same, by omega, Nat.lt_of_le_of_lt (show r.natAbs ≤ 99 by omega) (by decide), by decide, fun g g0 g1 g2 => ⟨?_, same_new nt⟩⟩⟩
    rw [Int.mul_one, Int.mul_one] at g1 g2
    rw [root_one hw g0 g1 g2, if_neg (by decide), Int.zero_add]
    rfl
  intro fl s1 hs
  obtain ⟨rfl, σ1, H1, I1, rfl, sm1⟩ := noE hs rfl rfl rfl
  dsimp only
  refine seg_execs_cons (seg_wrap ?_)
  rw [dp (fs := [])]
  refine wpAny_mono ((show PS (gcx P w K mg base nmE (envE L f cd) A outer s []) (nthS (defBody s_endless_fractions) 1) _ from (ps_par3 (i := 2) (j := 3) (l := 4) (by rfl) sc_endless_fractions.nd rfl rfl rfl (by decide) (by decide) (by decide) rfl rfl rfl (pa_cons pe_int (pa_cons pe_int (pa_cons (pv 1) pa_nil))) (by rfl))).run [] s1 _ _ { nx := fun σ' H' => σ' = [some (.int r), some (.int v), some (.int 0), some (.int 1), some (.int v), none, none] ∧ H' = H1, rt := fun _ _ => False } I1 ⟨_, rfl, _, _, _, rfl, rfl, rfl⟩) ?_ fun _ _ z => z.elim
  intro fl s2 hs
  obtain ⟨rfl, σ2, H2, I2, rfl, rfl⟩ := noE hs rfl rfl rfl
  dsimp only
  refine seg_execs_cons (seg_wrap ?_)
  rw [dp (fs := [])]
  refine wpAny_mono ((show PS (gcx P w K mg base nmE (envE L f cd) A outer s []) (nthS (defBody s_endless_fractions) 2) _ from (ps_asg (pe_tup (pa_cons (pe_tup (pa_cons pe_int (pa_cons pe_int pa_nil))) (pa_cons (pe_tup (pa_cons pe_int (pa_cons pe_int pa_nil))) pa_nil))) (pg_tup (by rfl) (pgs_cons (pg_name (i := 5) sc_endless_fractions.nd rfl (Or.inl rfl)) (pgs_cons (pg_name (i := 6) sc_endless_fractions.nd rfl (Or.inl rfl)) pgs_nil))))).run [] s2 _ _ { nx := fun σ' H' => ∃ lx bx G, σ' = sigE r v 0 1 v lx bx ∧ Same (wokenH L s.heap []) H' ∧ H2 lx = none ∧ H' lx = some (.tup [.int 1, .int 0]) ∧ Same H2 G ∧ G bx = none ∧ H' bx = some (.tup [.int 0, .int 1]), rt := fun _ _ => False } I2 ?_) ?_ fun _ _ z => z.elim
  · refine ⟨by show 2 ≤ sizeLine; decide, fun lx n1 => ⟨by show 2 ≤ sizeLine; decide, fun bx n2 => ⟨by show 2 ≤ sizeLine; decide, fun t n3 => ?_⟩⟩⟩
    have d1 := same_new (o := .tup [.int 1, .int 0]) n1
    have d2 := same_new (o := .tup [.int 0, .int 1]) n2
    have d3 := same_new (o := .tup [.ref lx, .ref bx]) n3
    exact ⟨t, _, rfl, SqT.of upd_same, rfl, .ref lx, _, rfl, .ref bx, _, rfl, rfl, lx, bx, _, rfl, sm1.trans (d1.trans (d2.trans d3)), n1, (d2.trans d3) _ _ upd_same, d1, n2, d3 _ _ upd_same⟩
  intro fl s3 hs
  obtain ⟨rfl, σ3, H3, I3, lx, bx, G, rfl, sm3, n1, h1, sG, n2, h2⟩ := noE hs rfl rfl rfl
  obtain ⟨fr1, pr1⟩ := made_new lt I3 sm1 n1 h1
  obtain ⟨fr2, pr2⟩ := made_new lt I3 (sm1.trans sG) n2 h2
  obtain ⟨W3, hl3⟩ := after_run (T' := [(lx, (cfR r v 0).1), (bx, (cfR r v 0).2)]) E W I3 (fun p hp => by
    rcases List.mem_cons.mp hp with rfl | hp
    · exact ⟨(W.new fr1).1, (W.new fr1).2, pr1⟩
    · rw [List.mem_singleton.mp hp]
      exact ⟨(W.new fr2).1, (W.new fr2).2, pr2⟩)
  dsimp only
  refine seg_execs_cons (seg_While fun p => ?_)
  exact turn_e T M hr hd fr r2 r99 hw small ((GenW.over_loop rfl rfl).trans GenW.over_func) rfl rfl N 0 (Nat.zero_add _) s s3 lx bx W3 hl3 I3.os (stays_of lt hTT I3 sm3)
end
end
/-! ### a generator that walks zip(range(n), another generator) -/
/-- what an object of these kinds holds is changed by no turn -/
def Steady (o : Obj) : Prop := (∀ es ep, o.data ≠ .dict es ep) ∧ o.cls ≠ .type "zip" ∧ o.cls ≠ .type "tuple" ∧ o.cls ≠ .type "range_iterator"
/-- what one turn of the outer generator leaves as it was; L: its frame, fs: the frames below -/
structure Turn1 (L : Addr) (fs : List Addr) (h h' : Heap) : Prop where
  old : ∀ b o, b < L → b ∉ fs → h.get? b = some o → h'.get? b = some o
  oldF : ∀ b o, b ∈ fs → h.get? b = some o → ∃ sl, h'.get? b = some { o with slots := sl }
  same : ∀ b o, L < b → h.get? b = some o → Steady o → h'.get? b = some o
  pairs : ∀ x p q, PairIn h x p q → PairIn h' x p q
theorem Turn1.refl {L : Addr} {fs : List Addr} {h : Heap} : Turn1 L fs h h := ⟨fun _ _ _ _ e => e, fun _ o _ e => ⟨o.slots, e⟩, fun _ _ _ e _ => e, fun _ _ _ e => e⟩
theorem Turn1.trans {L : Addr} {fs : List Addr} {h h1 h2 : Heap} (a : Turn1 L fs h h1) (b : Turn1 L fs h1 h2) : Turn1 L fs h h2 :=
  ⟨fun x o l n e => b.old x o l n (a.old x o l n e), fun x o f e => by
    obtain ⟨sl, e1⟩ := a.oldF x o f e
    obtain ⟨sl', e2⟩ := b.oldF x _ f e1
    exact ⟨sl', e2⟩, fun x o l e st => b.same x o l (a.same x o l e st) st, fun x p q e => b.pairs x p q (a.pairs x p q e)⟩
/-- an object that a turn may change -/
def Loose (L : Addr) (h : Heap) (c : Addr) : Prop := L ≤ c ∧ (∃ o, h.get? c = some o ∧ ¬ Steady o) ∧ ∀ p q, ¬ PairIn h c p q
theorem Turn1.of {L : Addr} {fs : List Addr} {h h' : Heap} {C : List Addr} (hC : ∀ c ∈ C, Loose L h c) (low : ∀ b ∈ fs, b < L) (k : ∀ b o, b ∉ C → h.get? b = some o → h'.get? b = some o) : Turn1 L fs h h' := by
  have no : ∀ {b : Addr}, b < L → b ∉ C := fun {b} l hb => absurd (hC b hb).1 (Nat.not_le.mpr l)
  refine ⟨fun b o l _ e => k b o (no l) e, fun b o f e => ⟨o.slots, k b o (no (low b f)) e⟩, fun b o _ e st => k b o (fun hb => ?_) e, fun x p q e => ?_⟩
  · obtain ⟨_, ⟨o', e', n⟩, _⟩ := hC b hb
    rw [e] at e'
    cases e'
    exact n st
  · obtain ⟨its, r, o, ho, c⟩ := id e
    exact ⟨its, r, o, k x o (fun hx => (hC x hx).2.2 p q e) ho, c⟩
theorem Turn1.stays {L L2 : Addr} {fs fs2 : List Addr} {h h' : Heap} {m : Str → Option Value} (hf : fs2 = L :: fs) (hL : L < L2) (hn : h.Ns L2 m) (low : ∀ b ∈ fs, b < L) (st : Stays L2 fs2 h h') : Turn1 L fs h h' := by
  subst hf
  have ne : ∀ {b : Addr}, b ≤ L → b ≠ L2 := fun {b} l e => by
    rw [e] at l
    exact absurd (Nat.lt_of_lt_of_le hL l) (Nat.lt_irrefl _)
  refine ⟨fun b o l f e => st.keep b o e (ne (Nat.le_of_lt l)) (fun hb => ?_), fun b o f e => st.slot b o e (ne (Nat.le_of_lt (low b f))) (List.mem_cons_of_mem _ f), fun b o l e sd => st.keep b o e (fun z => ?_) (fun hb => ?_), fun x p q e => st.pair (pair_noL hn e) e⟩
  · rcases List.mem_cons.mp hb with z | z
    · rw [z] at l
      exact absurd l (Nat.lt_irrefl _)
    · exact f z
  · obtain ⟨o', es, ep, e', hd, _⟩ := hn
    rw [← z, e] at e'
    cases e'
    exact sd.1 es ep hd
  · rcases List.mem_cons.mp hb with z | z
    · rw [z] at l
      exact absurd l (Nat.lt_irrefl _)
    · exact absurd (Nat.lt_trans (low b z) l) (Nat.lt_irrefl _)
/-- what a sleeping generator does when it is woken, where n items may still be asked for -/
def GoOn (M : Model) (A : Around) (Y : Protocol) (gs : GenState) : Nat → Resume → Shared → Prop
  | 0 => fun _ _ => False
  | m + 1 => fun r s => gs.Goes M A RNever Y m r s
section
variable {P : Program} {w : World} {A : Around} {E : Value → Shared → Prop} {s : Shared}
/-- the next item of a generator that never ends, as another iterator asks for it -/
theorem nextOf_gen {a : Addr} {g n : Nat} {gs : GenState} {Y : Protocol} {Q : Value → Shared → Prop} (hl : s.heap.NoLimit) (room : A.depth < recursionLimit) (hg : s.heap.IsGen a g) (hgs : s.gens[g]? = some gs) (hgo : gs.Goes (model P w) A.in1 RNever Y n (.send .none) (s.setGen g .running))
    (hY : ∀ v s1 gs', gs'.bare = true → Y (n - 1) (s.setGen g .running) v s1 (GoOn (model P w) A.in1 Y gs' n) → Q v (s1.setGen g gs')) : wpAny (model P w) A (Builtin.SmallTypes.nextOf (.ref a)) Q E s := by
  have ty := hg.typeIs
  unfold Builtin.SmallTypes.nextOf
  refine wpAny_bind (wpAny_callSpecial?_slot (name := Str.ofString "__next__") ty slot_gen_next (wpAny_call_entry slot_gen_next ty entry_gen_next ?_ (args_gen_next _)))
  show wpAny (model P w) A.in1 (Builtin.Generator.genWake (.ref a) (.send .none)) _ _ s
  unfold Builtin.Generator.genWake
  refine wpAny_bind (wpAny_holding ?_)
  refine wpAny_genNumber hg (wpAny_bind ?_)
  refine wpAny_genState hgs ?_
  match gs, hgs, hgo with
  | .running, _, h => exact h.elim
  | .finished, _, h => exact h.elim
  | .fresh _, hgs, h | .suspended .., hgs, h =>
    refine wpAny_bind (wpAny_roomToWake hl room ?_)
    show wpAny _ A.in1 (.resume g (.send .none) [] _) _ _ s
    exact wpAny_resumeQ hgs h (fun _ _ z => z.elim) fun v s1 gs' hb hv => wpAny_pure ⟨v, rfl, wpAny_pure (hY v s1 gs' hb (by cases n <;> exact hv))⟩
end
section
variable {P : Program} {w : World} {A : Around} {E : Value → Shared → Prop} {s : Shared}
/-- a state but for its heap and its tokens -/
abbrev withHeap (s : Shared) (h : Heap) (t : Nat) : Shared := { s with heap := h, toks := t }
theorem get_ne {h : Heap} {a b : Addr} {o o' : Obj} (ha : h.get? a = some o) (hb : h.get? b = some o') (d : o.cls ≠ o'.cls) : a ≠ b := by
  rintro rfl
  rw [ha] at hb
  cases hb
  exact d rfl
theorem zipg_item {z TI TO i1 a2 : Addr} {g n : Nat} {gs : GenState} {Y : Protocol} {x left : Int} {c d : Value} {Q : Value → Shared → Prop}
    (hz : IsZip s.heap z TI TO .none) (hTI : IsPair s.heap TI (.ref i1) (.ref a2)) (hTO : IsPair s.heap TO c d) (hi : IsRangeIter s.heap i1 x left 1) (hleft : 0 < left) (room : A.depth < recursionLimit) (hg : s.heap.IsGen a2 g) (hgs : s.gens[g]? = some gs) (ne : TI ≠ TO)
    (lim : ∀ h3 : Heap, (∀ b o, b ≠ z → b ≠ TO → b ≠ i1 → s.heap.get? b = some o → h3.get? b = some o) → h3.NoLimit)
    (go : ∀ (h3 : Heap) (t3 : Nat), (∀ b o, b ≠ z → b ≠ TO → b ≠ i1 → s.heap.get? b = some o → h3.get? b = some o) → gs.Goes (model P w) A.in1 RNever Y n (.send .none) ((withHeap s h3 t3).setGen g .running))
    (fin : ∀ (h3 : Heap) (t3 : Nat) (v : Value) (sb : Shared) (gs' : GenState), (∀ b o, b ≠ z → b ≠ TO → b ≠ i1 → s.heap.get? b = some o → h3.get? b = some o) → IsZip h3 z TI TO .ellipsis → IsRangeIter h3 i1 (x + 1) (left - 1) 1 → IsPair h3 TO (.int x s.toks) d → gs'.bare = true →
      Y (n - 1) ((withHeap s h3 t3).setGen g .running) v sb (GoOn (model P w) A.in1 Y gs' n) →
      IsZip sb.heap z TI TO .ellipsis ∧ IsPair sb.heap TO (.int x s.toks) d ∧
      ∀ (h8 : Heap) (T : Addr), T = sb.heap.objs.size → IsZip h8 z TI TO (rawInt T) → IsPair h8 TO (.int x s.toks) v → IsPair h8 T (.int x s.toks) v → (∀ b o, b ≠ z → b ≠ TO → sb.heap.get? b = some o → h8.get? b = some o) → Q (.ref T) { sb.setGen g gs' with heap := h8 }) :
    wpAny (model P w) A (Builtin.«zip.__next__» ⟨[.ref z], []⟩) (fun f s' => ∃ v, f = .done (.ret v) ∧ Q v s') E s := by
  have zTI : TI ≠ z := get_ne hTI hz (by simp)
  have zTO : TO ≠ z := get_ne hTO hz (by simp)
  have zi : i1 ≠ z := get_ne hi hz (by simp)
  have TOi : TO ≠ i1 := get_ne hTO hi (by simp)
  have za : a2 ≠ z ∧ a2 ≠ TO ∧ a2 ≠ i1 := by
    obtain ⟨o, nm, qn, ho, hc, hd, _⟩ := hg
    exact ⟨get_ne ho hz (by rw [hc]; simp), get_ne ho hTO (by rw [hc]; simp), get_ne ho hi (by rw [hc]; simp)⟩
  show wpAny _ _ (field (.ref z) 2 >>= _) _ _ _
  refine wpAny_bind (wpAny_field hz rfl (x := .bool false) rfl ?_)
  show wpAny _ _ (field (.ref z) 3 >>= _) _ _ _
  refine wpAny_bind (wpAny_field hz rfl (x := .ref TI) rfl (wpAny_bind (wpAny_seqItems hTI rfl ?_)))
  show wpAny (model P w) A (Builtin.SmallTypes.ownedTupleIsFree (.ref z) >>= _) _ _ _
  unfold Builtin.SmallTypes.ownedTupleIsFree
  refine wpAny_bind (wpAny_bind (wpAny_field hz rfl (x := .none) rfl (wpAny_pure ?_)))
  simp only [if_true]
  refine wpAny_bind (wpAny_rule (wpAny_bind (wpAny_field hz rfl (x := .ref TO) rfl (wpAny_bind (wpAny_setField_rec hz (by simp) fun h1 z1 k1 => ?_)))))
  replace z1 : IsZip h1 z TI TO .ellipsis := z1
  have u1 : ∀ b o, b ≠ z → s.heap.get? b = some o → h1.get? b = some o := fun b o n e => k1.extBut b o n e
  refine wpAny_bind ?_
  simp only [List.forIn_nil, List.forIn_cons, List.zipIdx_nil, List.zipIdx_cons]
  refine wpAny_bind (wpAny_bind (wpAny_onRaise ?_))
  show wpAny _ _ (Builtin.SmallTypes.nextOf (.ref i1) >>= _) _ _ { s with heap := h1 }
  refine wpAny_bind ?_
  unfold Builtin.SmallTypes.nextOf
  refine wpAny_bind (CpRep.range_item (s := { s with heap := h1 }) (u1 _ _ zi hi) hleft fun h2 i2 k2 => wpAny_pure (wpAny_pure ?_))
  have u2 : ∀ b o, b ≠ i1 → h1.get? b = some o → h2.get? b = some o := fun b o n e => k2.extBut b o n e
  have TO2 : IsPair h2 TO c d := u2 _ _ TOi (u1 _ _ zTO hTO)
  refine wpAny_bind (wpAny_seqItems TO2 rfl (wpAny_bind (wpAny_updateSeq_pair TO2 fun h3 TO3 k3 => wpAny_bind (wpAny_letGo (wpAny_pure ?_)))))
  replace TO3 : IsPair h3 TO (.int x s.toks) d := TO3
  have u3 : ∀ b o, b ≠ TO → h2.get? b = some o → h3.get? b = some o := fun b o n e => k3.extBut b o n e
  have all3 : ∀ b o, b ≠ z → b ≠ TO → b ≠ i1 → s.heap.get? b = some o → h3.get? b = some o := fun b o n1 n2 n3 e => u3 b o n2 (u2 b o n3 (u1 b o n1 e))
  have z3 : IsZip h3 z TI TO .ellipsis := u3 _ _ zTO.symm (u2 _ _ zi.symm z1)
  have i3 : IsRangeIter h3 i1 (x + 1) (left - 1) 1 := u3 _ _ TOi.symm i2
  refine wpAny_bind (wpAny_bind (wpAny_onRaise ?_))
  show wpAny _ _ (Builtin.SmallTypes.nextOf (.ref a2) >>= _) _ _ (withHeap s h3 (s.toks + 1))
  have hg3 : h3.IsGen a2 g := by
    obtain ⟨o, nm, qn, ho, r⟩ := hg
    exact ⟨o, nm, qn, all3 _ _ za.1 za.2.1 za.2.2 ho, r⟩
  refine wpAny_bind (nextOf_gen (s := withHeap s h3 (s.toks + 1)) (lim h3 all3) room hg3 hgs (go h3 _ all3) fun v sb gs' hb hv => wpAny_pure ?_)
  obtain ⟨z4, TO4, out⟩ := fin h3 _ v sb gs' all3 z3 i3 TO3 hb hv
  refine wpAny_bind (wpAny_seqItems (s := sb.setGen g gs') TO4 rfl (wpAny_bind (wpAny_updateSeq_pair (s := sb.setGen g gs') TO4 fun h5 TO5 k5 => wpAny_bind (wpAny_letGo (wpAny_pure (wpAny_pure ?_))))))
  replace TO5 : IsPair h5 TO (.int x s.toks) v := TO5
  replace k5 : Heap.SameBut TO sb.heap h5 := k5
  have sz5 : h5.objs.size = sb.heap.objs.size := k5.1
  have z5 : IsZip h5 z TI TO .ellipsis := k5.extBut _ _ zTO.symm z4
  refine wpAny_bind (wpAny_seqItems (s := { sb.setGen g gs' with heap := h5 }) TO5 rfl (wpAny_bind (wpAny_newTuple ?_)))
  have zl : z < h5.objs.size := Heap.lt_size z5
  have TOl : TO < h5.objs.size := Heap.lt_size TO5
  show wpAny _ _ (Builtin.SmallTypes.ownedTupleHandOut (.ref z) (.ref h5.objs.size) >>= _) _ _ { sb.setGen g gs' with heap := h5.push { cls := .type "tuple", data := .seq #[.int x s.toks, v] } }
  unfold Builtin.SmallTypes.ownedTupleHandOut
  have z6 : IsZip (h5.push { cls := .type "tuple", data := .seq #[.int x s.toks, v] }) z TI TO .ellipsis := Heap.get?_push_of_some _ z5
  refine wpAny_bind (wpAny_bind (wpAny_setField_rec (s := { sb.setGen g gs' with heap := _ }) z6 (by simp) fun h7 z7 k7 => ?_))
  replace z7 : IsZip h7 z TI TO (rawInt h5.objs.size) := z7
  refine wpAny_setField_rec (s := { sb.setGen g gs' with heap := h7 }) z7 (by simp) fun h8 z8 k8 => ?_
  replace z8 : IsZip h8 z TI TO (rawInt h5.objs.size) := z8
  have u8 : ∀ b o, b ≠ z → (h5.push { cls := .type "tuple", data := .seq #[.int x s.toks, v] }).get? b = some o → h8.get? b = some o := fun b o n e => k8.extBut _ _ n (k7.extBut _ _ n e)
  refine wpAny_pure ⟨_, rfl, ?_⟩
  show Q (.ref h5.objs.size) _
  refine out h8 h5.objs.size sz5 z8 (u8 _ _ zTO (Heap.get?_push_of_some _ TO5)) (u8 _ _ (Nat.ne_of_gt zl) (Heap.get?_push_size _ rfl)) fun b o n1 n2 e => u8 _ _ n1 (Heap.get?_push_of_some _ (k5.extBut _ _ n2 e))
end
section
variable {P : Program} {w : World} {A : Around} {E : Value → Shared → Prop} {s : Shared}
theorem zipg_end {z TI TO i1 a2 : Addr} {x left : Int} {c d : Value} {Q : PySem.Fin → Shared → Prop} (hh : A.handled = none)
    (hz : IsZip s.heap z TI TO .none) (hTI : IsPair s.heap TI (.ref i1) (.ref a2)) (hTO : IsPair s.heap TO c d) (hi : IsRangeIter s.heap i1 x left 1) (hleft : left ≤ 0)
    (hE : ∀ (h' : Heap) (e : Addr), (∀ b o, b ≠ z → b ≠ TO → b ≠ i1 → s.heap.get? b = some o → h'.get? b = some o) → (∃ o, h'.get? e = some o ∧ o.cls = .type "StopIteration") → E (.ref e) { s with heap := h' }) :
    wpAny (model P w) A (Builtin.«zip.__next__» ⟨[.ref z], []⟩) Q E s := by
  have zi : i1 ≠ z := get_ne hi hz (by simp)
  show wpAny _ _ (field (.ref z) 2 >>= _) _ _ _
  refine wpAny_bind (wpAny_field hz rfl (x := .bool false) rfl ?_)
  show wpAny _ _ (field (.ref z) 3 >>= _) _ _ _
  refine wpAny_bind (wpAny_field hz rfl (x := .ref TI) rfl (wpAny_bind (wpAny_seqItems hTI rfl ?_)))
  show wpAny (model P w) A (Builtin.SmallTypes.ownedTupleIsFree (.ref z) >>= _) _ _ _
  unfold Builtin.SmallTypes.ownedTupleIsFree
  refine wpAny_bind (wpAny_bind (wpAny_field hz rfl (x := .none) rfl (wpAny_pure ?_)))
  simp only [if_true]
  refine wpAny_bind (wpAny_rule (wpAny_bind (wpAny_field hz rfl (x := .ref TO) rfl (wpAny_bind (wpAny_setField_rec hz (by simp) fun h1 z1 k1 => ?_)))))
  replace z1 : IsZip h1 z TI TO .ellipsis := z1
  have u1 : ∀ b o, b ≠ z → s.heap.get? b = some o → h1.get? b = some o := fun b o n e => k1.extBut b o n e
  refine wpAny_bind ?_
  simp only [List.forIn_nil, List.forIn_cons, List.zipIdx_nil, List.zipIdx_cons]
  refine wpAny_bind (wpAny_bind (wpAny_onRaise ?_))
  show wpAny _ _ (Builtin.SmallTypes.nextOf (.ref i1) >>= _) _ _ { s with heap := h1 }
  refine wpAny_bind ?_
  unfold Builtin.SmallTypes.nextOf
  refine wpAny_bind (CpRep.range_end (s := { s with heap := h1 }) hh (u1 _ _ zi hi) hleft fun e h2 st k2 => ?_)
  obtain ⟨ea, oe, vs, rfl, he, hc, _⟩ := st
  have z2 : IsZip h2 z TI TO .ellipsis := k2 _ _ zi.symm z1
  have ne : ea ≠ z := get_ne he z2 (by rw [hc]; simp)
  refine wpAny_setField_rec (s := { s with heap := h2 }) z2 (by simp) fun h3 _ k3 => ?_
  exact hE h3 ea (fun b o n1 _ n3 e => k3.extBut b o n1 (k2 b o n3 (u1 b o n1 e))) ⟨oe, k3.extBut _ _ ne he, hc⟩
theorem next_zipg_end {z TI TO i1 a2 : Addr} {x left : Int} {c d : Value} {Q : Option Value → Shared → Prop} (hh : A.handled = none)
    (hz : IsZip s.heap z TI TO .none) (hTI : IsPair s.heap TI (.ref i1) (.ref a2)) (hTO : IsPair s.heap TO c d) (hi : IsRangeIter s.heap i1 x left 1) (hleft : left ≤ 0)
    (hQ : ∀ (h' : Heap), (∀ b o, b ≠ z → b ≠ TO → b ≠ i1 → s.heap.get? b = some o → h'.get? b = some o) → Q none { s with heap := h' }) : wpAny (model P w) A (pyNext (.ref z)) Q E s := by
  have ty : s.TypeIs (.ref z) "zip" := ⟨_, hz, rfl⟩
  unfold pyNext
  refine wpAny_bind (wpAny_attempt (wpAny_callSpecial?_slot (name := Str.ofString "__next__") ty F.slot_zip_next (wpAny_call_entry F.slot_zip_next ty F.entry_zip_next (zipg_end hh hz hTI hTO hi hleft fun h' e k st => ?_) (F.args_zip_next_1 _))))
  obtain ⟨o, ho, hc⟩ := st
  exact wpAny_bind (wpAny_isInstance (T := "StopIteration") (b := true) ⟨o, ho, hc⟩ isSubtype_stop (wpAny_pure (hQ _ k)))
theorem next_zipg {z : Addr} {TI TO : Addr} {Q : Value → Shared → Prop} (hz : IsZip s.heap z TI TO .none) (h : wpAny (model P w) A.in1 (Builtin.«zip.__next__» ⟨[.ref z], []⟩) (fun f s' => ∃ v, f = .done (.ret v) ∧ Q v s') (fun _ _ => False) s) :
    wpAny (model P w) A (pyNext (.ref z)) (fun r s' => ∃ v, r = some v ∧ Q v s') E s := by
  have ty : s.TypeIs (.ref z) "zip" := ⟨_, hz, rfl⟩
  unfold pyNext
  refine wpAny_bind (wpAny_attempt (wpAny_callSpecial?_slot (name := Str.ofString "__next__") ty F.slot_zip_next (wpAny_call_entry F.slot_zip_next ty F.entry_zip_next (wpAny_mono h (fun f s' z => ?_) fun _ _ z => z.elim) (F.args_zip_next_1 _))))
  obtain ⟨v, rfl, q⟩ := z
  exact ⟨v, rfl, wpAny_pure ⟨v, rfl, q⟩⟩
end
/-! ### the loop of fractions -/
def fTarget : Stmt → Expr
  | .For t _ _ _ _ => t
  | _ => .Name "" ⟨0, 0, 0, 0⟩
def fIter : Stmt → Expr
  | .For _ i _ _ _ => i
  | _ => .Name "" ⟨0, 0, 0, 0⟩
def fBody : Stmt → List Stmt
  | .For _ _ b _ _ => b
  | _ => []
def fPos : Stmt → Pos
  | .For _ _ _ _ p => p
  | _ => ⟨0, 0, 0, 0⟩
abbrev envF (L f : Addr) (cd : Value) : Env := envOfC "fractions" (defScope s_fractions) L f cd
abbrev wF : Stmt := nthS (defBody s_fractions) 1
abbrev tgF : Expr := fTarget wF
abbrev itF : Expr := fIter wF
abbrev bodF : List Stmt := fBody wF
abbrev yF : Expr := yExp (nthS bodF 0)
abbrev nmF : List Str := ["root", "count", "number", "fraction"]
theorem body_f : defBody s_fractions = [nthS (defBody s_fractions) 0, .For tgF itF bodF [] (fPos wF)] := rfl
theorem bod_f : bodF = [.Expr (.Yield (some yF) (yPos (nthS bodF 0)).1) (yPos (nthS bodF 0)).2] := rfl
theorem tg_f : ∃ p1 p2 k p, tgF = .Tuple [.Name "number" p1, .Name "fraction" p2] k p := ⟨_, _, _, _, rfl⟩
theorem y_f : ∃ p, yF = .Name "fraction" p := ⟨_, rfl⟩
theorem genv_f (L f : Addr) (cd : Value) : GEnv (envF L f cd) where
  kind := rfl
  glob := rfl
  blt := rfl
  frame := rfl
  cells := by kernel_rfl
  loc := fun x k e => (show ∀ y ∈ (defScope s_fractions).names, y.2 ≠ .cell ∧ y.2 ≠ .free by decide +kernel) (x, k) (PySem.mem_of_lookup e)
theorem no_pair_cls {h : Heap} {c : Addr} {o : Obj} (e : h.get? c = some o) (d : o.cls ≠ .type "tuple") : ∀ p q, ¬ PairIn h c p q := fun p q z => by
  obtain ⟨_, _, o', e', hc, _⟩ := z
  rw [e] at e'
  cases e'
  exact d hc
theorem no_pair_two {h : Heap} {c : Addr} {a b : Value} (e : IsPair h c a b) (d : ∀ k t, b ≠ .int k t) : ∀ p q, ¬ PairIn h c p q := fun p q z => by
  obtain ⟨its, r, o', e', hc, n, hd⟩ := z
  have e : h.get? c = _ := e
  rw [e] at e'
  cases e'
  injection hd with e1 _
  have e2 : its = [a, b] := by simpa using (congrArg Array.toList e1).symm
  subst e2
  cases r with
  | cons _ t => cases t with
    | cons r2 _ =>
      obtain ⟨t, z⟩ := r2
      exact d _ _ z
theorem get_neD {h : Heap} {a b : Addr} {o : Obj} {m : Str → Option Value} (ha : h.get? a = some o) (hb : h.Ns b m) (d : ∀ es ep, o.data ≠ .dict es ep) : a ≠ b := by
  rintro rfl
  obtain ⟨o', es, ep, e, hd, _⟩ := hb
  rw [ha] at e
  cases e
  exact d es ep hd
/-- the addresses of the loop's things, apart -/
structure LoopC (base : Heap) (outer : List Env) (L z TI TO i1 a2 L2 : Addr) : Prop where
  tito : TI ≠ TO
  lz : L < z
  lTI : L < TI
  lTO : L < TO
  li : L < i1
  la : L < a2
  l2 : L < L2
  low : ∀ b ∈ frs outer, b < L
  bz : base.objs.size ≤ L
/-- ahead of the i-th turn -/
structure LoopSt (P : Program) (w : World) (base : Heap) (outer : List Env) (L f : Addr) (cd : Value) (A2 : Around) (r v : Int) (N rc : Nat) (z TI TO i1 a2 : Addr) (g2 : Nat) (L2 : Addr) (i : Nat) (s : Shared) : Prop where
  bare : AllBare s.gens
  bs : ∀ b o, base.get? b = some o → s.heap.get? b = some o
  funs : s.heap.FunFrames base outer
  zip : IsZip s.heap z TI TO .none
  ti : IsPair s.heap TI (.ref i1) (.ref a2)
  to : ∃ c d, IsPair s.heap TO c d ∧ ∀ k t, d ≠ .int k t
  it : IsRangeIter s.heap i1 i ((rc : Int) - i) 1
  gen : s.heap.IsGen a2 g2
  ns : ∃ m, s.heap.Ns L m
  ns2 : ∃ m, s.heap.Ns L2 m
  sleep : ∃ gs, s.gens[g2]? = some gs ∧ gs.bare = true ∧ ∀ s', Between base (envF L f cd :: outer) L2 s s' → gs.Goes (model P w) A2 RNever (YPair base (envF L f cd :: outer) L2 (cfF r v) N) (N + 1 - i) (.send .none) s'
/-- what whoever walks the outer generator may do while it sleeps -/
structure Between1 (base : Heap) (outer : List Env) (L : Addr) (g1 : Nat) (s s' : Shared) : Prop where
  bare : AllBare s'.gens
  gens : ∀ g, g ≠ g1 → g < s.gens.size → s'.gens[g]? = s.gens[g]?
  keep : ∀ b o, L ≤ b → s.heap.get? b = some o → (∀ xs n, o.cls = .type "list" → o.data ≠ .seq xs n) → s'.heap.get? b = some o
  pairs : ∀ x p q, PairIn s.heap x p q → PairIn s'.heap x p q
  bs : ∀ b o, base.get? b = some o → s'.heap.get? b = some o
  funs : s'.heap.FunFrames base outer
def YOuter (base : Heap) (outer : List Env) (L : Addr) (g1 : Nat) (F : Nat → Int × Int) (full : Bool) (cnt : Nat) : Protocol := fun n s₀ v s1 kap =>
  0 < n ∧ s1.os = s₀.os ∧ AllBare s1.gens ∧ (∀ b o, base.get? b = some o → s1.heap.get? b = some o) ∧ s1.heap.FunFrames base outer ∧ Turn1 L (frs outer) s₀.heap s1.heap ∧ (∃ x, v = .ref x ∧ s₀.heap.get? x = none ∧ PairIn s1.heap x (F (cnt - n)).1 (F (cnt - n)).2) ∧ ∀ s', Between1 base outer L g1 s1 s' → (full = false ∧ n = 1) ∨ kap (.send .none) s'
def FOuter (base : Heap) (outer : List Env) (L : Addr) (n : Nat) (s₀ s1 : Shared) : Prop :=
  n = 1 ∧ s1.os = s₀.os ∧ AllBare s1.gens ∧ (∀ b o, base.get? b = some o → s1.heap.get? b = some o) ∧ s1.heap.FunFrames base outer ∧ Turn1 L (frs outer) s₀.heap s1.heap
def ROuter (base : Heap) (outer : List Env) (L : Addr) : GenEnd := fun n s₀ r s1 => ((r = .ok (.ret .none) ∨ r = .ok .next) ∧ FOuter base outer L n s₀ s1) ∨ ∃ e, r = .error e ∧ (fun (_ : Value) (_ : Shared) => False) e s1
section
variable {base : Heap} {P : Program} {w : World} {outer : List Env} {L f : Addr} {cd : Value} {A1 A2 : Around} {r v : Int} {N rc : Nat} {z TI TO i1 a2 L2 : Addr} {g1 g2 i : Nat} {s s' : Shared}
/-- frames that are older than L stand where all that is older stands -/
theorem funs_old {h h' : Heap} (low : ∀ b ∈ frs outer, b < L) (k : ∀ b o, b ∈ frs outer → h.get? b = some o → ∃ sl, h'.get? b = some { o with slots := sl }) (hl : h.FunFrames base outer) : h'.FunFrames base outer := by
  have all : ∀ l : List Env, (∀ b ∈ frs l, b ∈ frs outer) → h.FunFrames base l → h'.FunFrames base l := by
    intro l
    induction l with
    | nil => exact fun _ _ => trivial
    | cons e q ih =>
      rintro sub ⟨hk, ⟨M, o, hf, hb, ho, hd⟩, hr⟩
      have cons : frs (e :: q) = M :: frs q := by
        show List.filterMap _ _ = _
        rw [List.filterMap_cons, hf]
        rfl
      rw [cons] at sub
      obtain ⟨sl, e1⟩ := k M o (sub M List.mem_cons_self) ho
      exact ⟨hk, ⟨M, _, hf, hb, e1, hd⟩, ih (fun b hb => sub b (List.mem_cons_of_mem _ hb)) hr⟩
  exact all outer (fun _ h => h) hl
theorem LoopSt.wake (C : LoopC base outer L z TI TO i1 a2 L2) (S : LoopSt P w base outer L f cd A2 r v N rc z TI TO i1 a2 g2 L2 i s) (ne : g2 ≠ g1) (B : Between1 base outer L g1 s s') : LoopSt P w base outer L f cd A2 r v N rc z TI TO i1 a2 g2 L2 i s' := by
  obtain ⟨c, d, hTO, hd⟩ := S.to
  obtain ⟨m, hn⟩ := S.ns
  obtain ⟨m2, hn2⟩ := S.ns2
  obtain ⟨gs, hgs, hb, go⟩ := S.sleep
  have dict : ∀ {b : Addr} {m : Str → Option Value}, L ≤ b → s.heap.Ns b m → ∀ o, s.heap.get? b = some o → s'.heap.get? b = some o := fun {b m} l h o e => by
    refine B.keep b o l e fun xs n _ q => ?_
    obtain ⟨o', es, ep, e', hd', _⟩ := h
    rw [e] at e'
    cases e'
    rw [q] at hd'
    cases hd'
  refine ⟨B.bare, B.bs, B.funs, B.keep _ _ (Nat.le_of_lt C.lz) S.zip (fun xs n q => by simp at q), B.keep _ _ (Nat.le_of_lt C.lTI) S.ti (fun xs n q => by simp at q), ⟨c, d, B.keep _ _ (Nat.le_of_lt C.lTO) hTO (fun xs n q => by simp at q), hd⟩, B.keep _ _ (Nat.le_of_lt C.li) S.it (fun xs n q => by simp at q), ?_, ⟨m, hn.at' (dict (Nat.le_refl _) hn)⟩, ⟨m2, hn2.at' (dict (Nat.le_of_lt C.l2) hn2)⟩, gs, ?_, hb, fun s2 b2 => go s2 ?_⟩
  · obtain ⟨o, nm, qn, ho, hc, hr⟩ := S.gen
    exact ⟨o, nm, qn, B.keep _ _ (Nat.le_of_lt C.la) ho (fun xs n q => by rw [hc] at q; simp at q), hc, hr⟩
  · rw [B.gens g2 ne (Array.getElem?_eq_some_iff.mp hgs).1]
    exact hgs
  · exact ⟨b2.bare, fun o e => b2.frame o (dict (Nat.le_of_lt C.l2) hn2 o e), fun x p q e => b2.pairs x p q (B.pairs x p q e), b2.bs, b2.funs⟩
end
/-! ### a turn of the outer generator -/
theorem seg_execs_then {M : Model} {A : Around} {R : GenEnd} {Y : Protocol} {n : Nat} {s₀ s : Shared} {c : Code} {fs : List Frame} {env : Env} {KK : PySem.Fin → Sem PySem.Fin} {J : Value → Sem PySem.Fin} {g : Bool → Bool} {lv : List Value → List Value} {sts : List Stmt} {k : Flow → Sem PySem.Fin}
    (h : Seg M A R Y n s₀ c ((execs sts env).wrap (fun f => (k f).wrap KK J g lv) J g lv) fs s) : Seg M A R Y n s₀ c ((execs sts env >>= k).wrap KK J g lv) fs s := by
  rw [Sem.bind_eq_wrap', Sem.wrap_wrap]
  exact h
section
variable {base : Heap} {K : PySem.W.Frag} {mg : Str → Option Value} {P : Program} {w : World} {outer : List Env} {L f : Addr} {cd : Value} {A1 : Around} {r v : Int} {N rc cnt : Nat} {full : Bool} {z TI TO i1 a2 L2 : Addr} {g1 g2 : Nat} {fs : List Frame}
abbrev around2 (A1 : Around) (L f : Addr) (cd : Value) : Around := (A1.deeper (envF L f cd)).in1.in1
abbrev SegF (P : Program) (w : World) (base : Heap) (A1 : Around) (outer : List Env) (L f : Addr) (cd : Value) (g1 : Nat) (r v : Int) (full : Bool) (cnt n : Nat) (z : Addr) (fs : List Frame) (s₀ s : Shared) : Prop :=
  Seg (model P w) A1 (ROuter base outer L) (YOuter base outer L g1 (cfF r v) full cnt) n s₀ (.forLoop tgF (.ref z) bodF [] (envF L f cd)) ((model P w).den (.forLoop tgF (.ref z) bodF [] (envF L f cd))) fs s
/-- the generator's end comes -/
theorem turn_last (C : LoopC base outer L z TI TO i1 a2 L2) (hd : A1.handled = none)
    (ov : A1.over (.forLoop tgF (.ref z) bodF [] (envF L f cd)) fs = A1.deeper (envF L f cd))
    (last : ∀ (s₀ s : Shared), s.os = s₀.os → AllBare s.gens → (∀ b o, base.get? b = some o → s.heap.get? b = some o) → s.heap.FunFrames base outer → Turn1 L (frs outer) s₀.heap s.heap →
      Seg (model P w) A1 (ROuter base outer L) (YOuter base outer L g1 (cfF r v) full cnt) 1 s₀ (.block [] (envF L f cd)) ((model P w).den (.block [] (envF L f cd))) fs s)
    (s₀ s : Shared) (S : LoopSt P w base outer L f cd (around2 A1 L f cd) r v N rc z TI TO i1 a2 g2 L2 rc s) (os : s.os = s₀.os) (t : Turn1 L (frs outer) s₀.heap s.heap) : SegF P w base A1 outer L f cd g1 r v full cnt 1 z fs s₀ s := by
  obtain ⟨c, d, hTO, hd2⟩ := S.to
  have hC : ∀ b ∈ [z, TO, i1], Loose L s.heap b := fun b hb => by
    have e : b = z ∨ b = TO ∨ b = i1 := by simpa using hb
    rcases e with rfl | rfl | rfl
    · exact ⟨Nat.le_of_lt C.lz, ⟨_, S.zip, fun st => st.2.1 rfl⟩, no_pair_cls S.zip (by simp)⟩
    · exact ⟨Nat.le_of_lt C.lTO, ⟨_, hTO, fun st => st.2.2.1 rfl⟩, no_pair_two hTO hd2⟩
    · exact ⟨Nat.le_of_lt C.li, ⟨_, S.it, fun st => st.2.2.2 rfl⟩, no_pair_cls S.it (by simp)⟩
  show Seg _ A1 _ _ 1 s₀ _ ((forTurn tgF (.ref z) bodF [] (envF L f cd)).onRaise (fun x => do noteFrame x (envF L f cd); theTreesLotGoes x)) fs s
  rw [Sem.onRaise_eq_wrap]
  unfold forTurn
  refine seg_bind_wrap (wpAny_standAt (seg_bind_wrap ?_))
  rw [ov]
  refine wpAny_onRaise (next_zipg_end hd S.zip S.ti hTO S.it (by omega) fun h' k => ?_)
  have t' : Turn1 L (frs outer) s.heap h' := Turn1.of hC C.low fun b o hb e => k b o (fun q => hb (by simp [q])) (fun q => hb (by simp [q])) (fun q => hb (by simp [q])) e
  have lb : ∀ b o, base.get? b = some o → h'.get? b = some o := fun b o e => by
    have l : b < L := Nat.lt_of_lt_of_le (Heap.lt_size e) C.bz
    exact k b o (Nat.ne_of_lt (Nat.lt_trans l C.lz)) (Nat.ne_of_lt (Nat.lt_trans l C.lTO)) (Nat.ne_of_lt (Nat.lt_trans l C.li)) (S.bs b o e)
  exact seg_again rfl (last s₀ { s with heap := h' } os S.bare lb (funs_old C.low t'.oldF S.funs) (t.trans t'))
theorem frames_more {h : Heap} {m : Str → Option Value} (hb : base.objs.size ≤ L) (hn : h.Ns L m) (hf : h.FunFrames base outer) : h.FunFrames base (envF L f cd :: outer) := by
  obtain ⟨o, es, ep, ho, hd, _⟩ := hn
  exact ⟨by show ScopeKind.function ≠ _; simp, ⟨L, o, rfl, Heap.get?_none_of_le hb, ho, fun vs q => by rw [hd] at q; cases q⟩, hf⟩
/-- behind the zip's next -/
structure MidSt (P : Program) (w : World) (base : Heap) (outer : List Env) (L f : Addr) (cd : Value) (A2 : Around) (r v : Int) (N rc : Nat) (z TI TO i1 a2 : Addr) (g2 : Nat) (L2 : Addr) (i : Nat) (s₀ : Shared) (T x : Addr) (tk : Tok) (s : Shared) : Prop where
  os : s.os = s₀.os
  turn : Turn1 L (frs outer) s₀.heap s.heap
  new : s₀.heap.get? x = none
  pair : PairIn s.heap x (cfF r v i).1 (cfF r v i).2
  young : L < T
  tup : IsPair s.heap T (.int i tk) (.ref x)
  bare : AllBare s.gens
  bs : ∀ b o, base.get? b = some o → s.heap.get? b = some o
  funs : s.heap.FunFrames base outer
  zip : IsZip s.heap z TI TO (rawInt T)
  ti : IsPair s.heap TI (.ref i1) (.ref a2)
  to : IsPair s.heap TO (.int i tk) (.ref x)
  it : IsRangeIter s.heap i1 (i + 1) ((rc : Int) - i - 1) 1
  gen : s.heap.IsGen a2 g2
  ns : ∃ m, s.heap.Ns L m
  ns2 : ∃ m, s.heap.Ns L2 m
  sleep : ∃ gs, s.gens[g2]? = some gs ∧ gs.bare = true ∧ ∀ s', Between base (envF L f cd :: outer) L2 s s' → gs.Goes (model P w) A2 RNever (YPair base (envF L f cd :: outer) L2 (cfF r v) N) (N - i) (.send .none) s'
theorem next_mid (M : Mod K mg base) (C : LoopC base outer L z TI TO i1 a2 L2) (dep : A1.depth + 1 < recursionLimit) (i : Nat) (hi : i < rc) (hN : i < N)
    (s₀ s : Shared) (S : LoopSt P w base outer L f cd (around2 A1 L f cd) r v N rc z TI TO i1 a2 g2 L2 i s) (os : s.os = s₀.os) (t : Turn1 L (frs outer) s₀.heap s.heap) (th : ∀ b, s.heap.get? b = none → s₀.heap.get? b = none) {E : Value → Shared → Prop} :
    wpAny (model P w) (A1.deeper (envF L f cd)) (pyNext (.ref z)) (fun u s4 => ∃ T x tk, u = some (.ref T) ∧ MidSt P w base outer L f cd (around2 A1 L f cd) r v N rc z TI TO i1 a2 g2 L2 i s₀ T x tk s4) E s := by
  obtain ⟨c, d, hTO, hd2⟩ := S.to
  obtain ⟨m1, hn1⟩ := S.ns
  obtain ⟨m2, hn2⟩ := S.ns2
  obtain ⟨gs, hgs, hbare, go⟩ := S.sleep
  have bl : ∀ {b : Addr} {o : Obj}, base.get? b = some o → b < L := fun {b o} e => Nat.lt_of_lt_of_le (Heap.lt_size e) C.bz
  have nz : ∀ {b : Addr}, b ≤ L → b ≠ z ∧ b ≠ TO ∧ b ≠ i1 ∧ b ≠ L2 := fun {b} l => ⟨Nat.ne_of_lt (Nat.lt_of_le_of_lt l C.lz), Nat.ne_of_lt (Nat.lt_of_le_of_lt l C.lTO), Nat.ne_of_lt (Nat.lt_of_le_of_lt l C.li), Nat.ne_of_lt (Nat.lt_of_le_of_lt l C.l2)⟩
  have hC : ∀ b ∈ [z, TO, i1], Loose L s.heap b := fun b hb => by
    have e : b = z ∨ b = TO ∨ b = i1 := by simpa using hb
    rcases e with rfl | rfl | rfl
    · exact ⟨Nat.le_of_lt C.lz, ⟨_, S.zip, fun st => st.2.1 rfl⟩, no_pair_cls S.zip (by simp)⟩
    · exact ⟨Nat.le_of_lt C.lTO, ⟨_, hTO, fun st => st.2.2.1 rfl⟩, no_pair_two hTO hd2⟩
    · exact ⟨Nat.le_of_lt C.li, ⟨_, S.it, fun st => st.2.2.2 rfl⟩, no_pair_cls S.it (by simp)⟩
  have zL2 : z ≠ L2 := get_neD S.zip hn2 (by simp)
  have TOL2 : TO ≠ L2 := get_neD hTO hn2 (by simp)
  have iL2 : i1 ≠ L2 := get_neD S.it hn2 (by simp)
  have TIL2 : TI ≠ L2 := get_neD S.ti hn2 (by simp)
  have TIz : TI ≠ z := get_ne S.ti S.zip (by simp)
  have TIi : TI ≠ i1 := get_ne S.ti S.it (by simp)
  have iz : i1 ≠ z := get_ne S.it S.zip (by simp)
  have iTO : i1 ≠ TO := get_ne S.it hTO (by simp)
  have cons : frs (envF L f cd :: outer) = L :: frs outer := rfl
  have nf : ∀ {b : Addr}, L < b → b ∉ frs (envF L f cd :: outer) := fun {b} l hb => by
    rw [cons] at hb
    rcases List.mem_cons.mp hb with q | q
    · rw [q] at l
      exact absurd l (Nat.lt_irrefl _)
    · exact absurd (Nat.lt_trans (C.low b q) l) (Nat.lt_irrefl _)
  have kt : ∀ {h3 : Heap}, (∀ b o, b ≠ z → b ≠ TO → b ≠ i1 → s.heap.get? b = some o → h3.get? b = some o) → Turn1 L (frs outer) s.heap h3 := fun {h3} k => Turn1.of hC C.low fun b o hb e => k b o (fun q => hb (by simp [q])) (fun q => hb (by simp [q])) (fun q => hb (by simp [q])) e
  refine GenW.wpAny_gsz (n := g2 + 1) (Array.getElem?_eq_some_iff.mp hgs).1 (wpAny_mono (next_zipg (E := fun _ _ => False) (Q := fun u s4 => g2 + 1 ≤ s4.gens.size → ∃ T x tk, u = .ref T ∧ MidSt P w base outer L f cd (around2 A1 L f cd) r v N rc z TI TO i1 a2 g2 L2 i s₀ T x tk s4) S.zip ?_) (fun u s4 h sz => ?_) fun _ _ z => z.elim)
  rotate_left
  · obtain ⟨y, rfl, q⟩ := h
    obtain ⟨T, x, tk, rfl, m⟩ := q sz
    exact ⟨T, x, tk, rfl, m⟩
  refine zipg_item (n := N + 1 - i) (Y := YPair base (envF L f cd :: outer) L2 (cfF r v) N) S.zip S.ti hTO S.it (by omega) (by show A1.depth + 1 < _; exact dep) S.gen hgs C.tito (fun h3 k => M.nolimit.keeps fun b o e => ?_) (fun h3 t3 k => go _ ⟨allBare_setGen (s := withHeap s h3 t3) S.bare rfl, fun o e => k L2 o zL2.symm TOL2.symm iL2.symm e, (kt k).pairs, fun b o e => ?_, ?_⟩) (fun h3 t3 u sb gs' k z3 i3 TO3 hb hv => ?_)
  · obtain ⟨q1, q2, q3, _⟩ := nz (Nat.le_of_lt (bl e))
    exact k b o q1 q2 q3 (S.bs b o e)
  · obtain ⟨q1, q2, q3, _⟩ := nz (Nat.le_of_lt (bl e))
    exact k b o q1 q2 q3 (S.bs b o e)
  · obtain ⟨q1, q2, q3, _⟩ := nz (Nat.le_refl L)
    exact frames_more C.bz (hn1.at' fun o e => k L o q1 q2 q3 e) (funs_old C.low (kt k).oldF S.funs)
  · obtain ⟨os2, bare2, st2, hn2b, ⟨x, rfl, xn, xp⟩, nxt⟩ := hv
    have st2 : Stays L2 (frs (envF L f cd :: outer)) h3 sb.heap := st2
    have zb := st2.keep z _ z3 zL2 (nf C.lz)
    have TOb := st2.keep TO _ TO3 TOL2 (nf C.lTO)
    refine ⟨zb, TOb, fun h8 T hT z8 TO8 T8 k8 sz => ?_⟩
    refine ⟨T, x, s.toks, rfl, ?_⟩
    have hn23 : h3.Ns L2 m2 := hn2.at' fun o e => k L2 o zL2.symm TOL2.symm iL2.symm e
    have C8 : ∀ b ∈ [z, TO], Loose L sb.heap b := fun b hb => by
      have e : b = z ∨ b = TO := by simpa using hb
      rcases e with rfl | rfl
      · exact ⟨Nat.le_of_lt C.lz, ⟨_, zb, fun st => st.2.1 rfl⟩, no_pair_cls zb (by simp)⟩
      · exact ⟨Nat.le_of_lt C.lTO, ⟨_, TOb, fun st => st.2.2.1 rfl⟩, no_pair_two TOb hd2⟩
    have t8 : Turn1 L (frs outer) sb.heap h8 := Turn1.of C8 C.low fun b o hb e => k8 b o (fun q => hb (by simp [q])) (fun q => hb (by simp [q])) e
    have tb : Turn1 L (frs outer) h3 sb.heap := Turn1.stays cons C.l2 hn23 C.low st2
    have tAll : Turn1 L (frs outer) s.heap h8 := (kt k).trans (tb.trans t8)
    have old : ∀ b o, L < b → b ≠ z → b ≠ TO → b ≠ i1 → b ≠ L2 → s.heap.get? b = some o → h8.get? b = some o := fun b o l n1 n2 n3 n4 e => k8 b o n1 n2 (st2.keep b o (k b o n1 n2 n3 e) n4 (nf l))
    have hnL : ∃ m, h8.Ns L m := by
      obtain ⟨q1, q2, q3, q4⟩ := nz (Nat.le_refl L)
      obtain ⟨o, es, ep, ho, hd, rr⟩ := hn1
      obtain ⟨sl, e⟩ := st2.slot L o (k L o q1 q2 q3 ho) q4 (by rw [cons]; exact List.mem_cons_self)
      exact ⟨m1, _, es, ep, k8 L _ q1 q2 e, hd, rr⟩
    have hn28 : ∀ o, sb.heap.get? L2 = some o → h8.get? L2 = some o := fun o e => k8 L2 o zL2.symm TOL2.symm e
    have gsz : g2 < sb.gens.size := by
      have q : (sb.setGen g2 gs').gens.size = sb.gens.size := GenW.setGen_size _ _ _
      have sz' : g2 + 1 ≤ (sb.setGen g2 gs').gens.size := sz
      omega
    have xs : s.heap.get? x = none := by
      have xn : h3.get? x = none := xn
      cases q : s.heap.get? x with
      | none => rfl
      | some o =>
        exfalso
        by_cases n1 : x = z
        · have z3 : h3.get? z = _ := z3
          rw [← n1, xn] at z3
          cases z3
        · by_cases n2 : x = TO
          · have TO3 : h3.get? TO = _ := TO3
            rw [← n2, xn] at TO3
            cases TO3
          · by_cases n3 : x = i1
            · have i3 : h3.get? i1 = _ := i3
              rw [← n3, xn] at i3
              cases i3
            · rw [k x o n1 n2 n3 q] at xn
              cases xn
    refine ⟨os2.trans os, t.trans tAll, th x xs, t8.pairs _ _ _ (by rw [show i = N - (N + 1 - i - 1) by omega]; exact xp), Nat.lt_of_lt_of_le (Nat.lt_trans C.lz (Heap.lt_size zb)) (Nat.le_of_eq hT.symm), T8, allBare_setGen (s := sb) bare2 hb, fun b o e => ?_, funs_old C.low tAll.oldF S.funs, z8, old TI _ C.lTI TIz C.tito TIi TIL2 S.ti, TO8, ?_, ?_, hnL, ?_, gs', setGen_at gsz, hb, fun s' B => ?_⟩
    · obtain ⟨q1, q2, q3, q4⟩ := nz (Nat.le_of_lt (bl e))
      have hs := k b o q1 q2 q3 (S.bs b o e)
      have nfb : b ∉ frs (envF L f cd :: outer) := fun hb' => by
        rw [cons] at hb'
        rcases List.mem_cons.mp hb' with q | q
        · have := bl e
          rw [q] at this
          exact absurd this (Nat.lt_irrefl _)
        · have := (S.funs.mem q).1
          rw [e] at this
          cases this
      exact k8 b o q1 q2 (st2.keep b o hs q4 nfb)
    · exact k8 i1 _ iz iTO (st2.keep i1 _ i3 iL2 (nf C.li))
    · obtain ⟨o, nm, qn, ho, hc, hd, hs⟩ := S.gen
      exact ⟨o, nm, qn, old a2 o C.la (get_ne ho S.zip (by rw [hc]; simp)) (get_ne ho hTO (by rw [hc]; simp)) (get_ne ho S.it (by rw [hc]; simp)) (get_neD ho hn2 (by rw [hd]; simp)) ho, hc, hd, hs⟩
    · obtain ⟨m, hm⟩ := hn2b
      exact ⟨m, hm.at' hn28⟩
    · rw [show N + 1 - i = (N - i) + 1 by omega] at nxt
      rcases nxt s' ⟨B.bare, fun o e => B.frame o (hn28 o e), fun y p q e => B.pairs y p q (t8.pairs y p q e), B.bs, B.funs⟩ with q | q
      · omega
      · exact q
theorem letgo_at {P : Program} {w : World} {A : Around} {E : Value → Shared → Prop} {s : Shared} {tg : Expr} {elts : List Expr} {k pp} {z TI TO T : Addr} {Q : Unit → Shared → Prop} (e : tg = .Tuple elts k pp) (hz : IsZip s.heap z TI TO (rawInt T))
    (hQ : ∀ h', IsZip h' z TI TO .none → Heap.SameBut z s.heap h' → Q () { s with heap := h' }) : wpAny (model P w) A (letOwnedTupleGo tg (.ref z) (.ref T)) Q E s := by
  subst e
  exact wpAny_letOwnedTupleGo_zip hz hQ
theorem assign_at {P : Program} {w : World} {A : Around} {E : Value → Shared → Prop} {s : Shared} {tg : Expr} {a b : Str} {p1 p2 : Pos} {k pp} {T : Addr} {va vb : Value} {env : Env} {Q : Unit → Shared → Prop} (e : tg = .Tuple [.Name a p1, .Name b p2] k pp) (hh : A.handled = none) (ht : s.heap.IsTuple T #[va, vb])
    (h : ∀ h', Heap.ExtBut s.heap.objs.size s.heap h' → wpAny (model P w) A (do holding [vb] (assign (.Name a p1) env va); holding [] (assign (.Name b p2) env vb); pure ()) Q E { s with heap := h' }) : wpAny (model P w) A (assign tg env (.ref T)) Q E s := by
  subst e
  exact wpAny_assign_Tuple hh ht rfl rfl h
/-- a turn that hands out an item -/
theorem turn_item (M : Mod K mg base) (C : LoopC base outer L z TI TO i1 a2 L2) (hd : A1.handled = none) (dep : A1.depth + 1 < recursionLimit) (hN : cnt ≤ N) (hrc : cnt ≤ rc)
    (ov : A1.over (.forLoop tgF (.ref z) bodF [] (envF L f cd)) fs = A1.deeper (envF L f cd)) (sp : splitAtGen fs = none) (gd : fs.any Frame.guarded = false) (ne : g2 ≠ g1) (i j : Nat) (hij : i + (j + 1) = cnt)
    (next : ¬ (full = false ∧ j = 0) → ∀ s : Shared, LoopSt P w base outer L f cd (around2 A1 L f cd) r v N rc z TI TO i1 a2 g2 L2 (i + 1) s → SegF P w base A1 outer L f cd g1 r v full cnt (j + 1) z fs s s)
    (s₀ s : Shared) (S : LoopSt P w base outer L f cd (around2 A1 L f cd) r v N rc z TI TO i1 a2 g2 L2 i s) (os : s.os = s₀.os) (t : Turn1 L (frs outer) s₀.heap s.heap) (th : ∀ b, s.heap.get? b = none → s₀.heap.get? b = none) : SegF P w base A1 outer L f cd g1 r v full cnt (j + 1 + 1) z fs s₀ s := by
  show Seg _ A1 _ _ (j + 1 + 1) s₀ _ ((forTurn tgF (.ref z) bodF [] (envF L f cd)).onRaise (fun x => do noteFrame x (envF L f cd); theTreesLotGoes x)) fs s
  rw [Sem.onRaise_eq_wrap]
  unfold forTurn
  refine seg_bind_wrap (wpAny_standAt (seg_bind_wrap ?_))
  rw [ov]
  refine wpAny_onRaise (wpAny_mono (next_mid M C dep i (by omega) (by omega) s₀ s S os t th (E := fun _ _ => False)) ?_ fun _ _ q => q.elim)
  rintro u s4 ⟨T, x, tk, rfl, S4⟩
  have nz : ∀ {b : Addr}, b ≤ L → b ≠ z ∧ b ≠ TO ∧ b ≠ i1 ∧ b ≠ L2 := fun {b} l => ⟨Nat.ne_of_lt (Nat.lt_of_le_of_lt l C.lz), Nat.ne_of_lt (Nat.lt_of_le_of_lt l C.lTO), Nat.ne_of_lt (Nat.lt_of_le_of_lt l C.li), Nat.ne_of_lt (Nat.lt_of_le_of_lt l C.l2)⟩
  obtain ⟨p1, p2, kk, pp, etg⟩ := tg_f
  obtain ⟨py, ey⟩ := y_f
  obtain ⟨m4, hn4⟩ := S4.ns
  obtain ⟨m42, hn42⟩ := S4.ns2
  have zL2 : z ≠ L2 := get_neD S4.zip hn42 (by simp)
  have TOz : TO ≠ z := get_ne S4.to S4.zip (by simp)
  have TIz : TI ≠ z := get_ne S4.ti S4.zip (by simp)
  have iz : i1 ≠ z := get_ne S4.it S4.zip (by simp)
  have Tz : T ≠ z := get_ne S4.tup S4.zip (by simp)
  dsimp only
  refine seg_bind_wrap (letgo_at etg S4.zip fun h5 z5 k5 => seg_bind_wrap ?_)
  rw [ov]
  have u5 : ∀ b o, b ≠ z → s4.heap.get? b = some o → h5.get? b = some o := fun b o n e => k5.extBut b o n e
  refine assign_at etg (s := { s4 with heap := h5 }) hd ⟨_, u5 _ _ Tz S4.tup, rfl, _, rfl⟩ fun h6 k6 => ?_
  have u6 : ∀ b o, h5.get? b = some o → h6.get? b = some o := fun b o e => k6 b o (Nat.ne_of_lt (Heap.lt_size e)) e
  have hn6 : h6.Ns L m4 := hn4.at' fun o e => u6 _ _ (u5 _ _ (nz (Nat.le_refl _)).1 e)
  refine wpAny_bind (wpAny_holding (wpAny_assign_Name (wpAny_storeName_local (env := envF L f cd) (s := { s4 with heap := h6 }) (show (defScope s_fractions).names.lookup (Str.ofString "number") = some NameKind.local by decide +kernel) hn6 (fun h7 hn7 k7 => ?_))))
  refine wpAny_bind (wpAny_holding (wpAny_assign_Name (wpAny_storeName_local (env := envF L f cd) (show (defScope s_fractions).names.lookup (Str.ofString "fraction") = some NameKind.local by decide +kernel) hn7 (fun h8 hn8 k8 => wpAny_pure ?_))))
  have k7 : Heap.SameBut L h6 h7 := k7
  have k8 : Heap.SameBut L h7 h8 := k8
  refine seg_execs_then (seg_cons_at bod_f (seg_Expr_Yield sp rfl gd ?_))
  rw [ov, ey]
  refine wpAny_Name (wpAny_loadName_local (env := envF L f cd) (v := .ref x) rfl (show (defScope s_fractions).names.lookup (Str.ofString "fraction") = some NameKind.local by decide +kernel) hn8 (if_pos rfl) ?_)
  intro kap hk
  have u8 : ∀ b o, b ≠ z → b ≠ L → s4.heap.get? b = some o → h8.get? b = some o := fun b o n1 n2 e => k8.extBut b o n2 (k7.extBut b o n2 (u6 b o (u5 b o n1 e)))
  have C8 : ∀ b ∈ [z, L], Loose L s4.heap b := fun b hb => by
    have e : b = z ∨ b = L := by simpa using hb
    rcases e with rfl | rfl
    · exact ⟨Nat.le_of_lt C.lz, ⟨_, S4.zip, fun st => st.2.1 rfl⟩, no_pair_cls S4.zip (by simp)⟩
    · obtain ⟨o, es, ep, ho, hdd, _⟩ := id hn4
      exact ⟨Nat.le_refl _, ⟨o, ho, fun st => st.1 es ep hdd⟩, fun p q hp => pair_noL hn4 hp rfl⟩
  have t8 : Turn1 L (frs outer) s4.heap h8 := Turn1.of C8 C.low fun b o hb e => u8 b o (fun q => hb (by simp [q])) (fun q => hb (by simp [q])) e
  have bs8 : ∀ b o, base.get? b = some o → h8.get? b = some o := fun b o e => by
    have l : b < L := Nat.lt_of_lt_of_le (Heap.lt_size e) C.bz
    exact u8 b o (nz (Nat.le_of_lt l)).1 (Nat.ne_of_lt l) (S4.bs b o e)
  have up8 : ∀ b o, L < b → b ≠ z → s4.heap.get? b = some o → h8.get? b = some o := fun b o l n e => u8 b o n (Nat.ne_of_gt l) e
  have fu8 : h8.FunFrames base outer := funs_old C.low t8.oldF S4.funs
  have L2k : ∀ o, s4.heap.get? L2 = some o → h8.get? L2 = some o := fun o e => up8 L2 o C.l2 zL2.symm e
  have St8 : ∀ sy : Shared, sy.heap = h8 → sy.gens = s4.gens → LoopSt P w base outer L f cd (around2 A1 L f cd) r v N rc z TI TO i1 a2 g2 L2 (i + 1) sy := fun sy e1 e2 => by
    obtain ⟨gs, hgs, hb, go⟩ := S4.sleep
    refine ⟨by rw [e2]; exact S4.bare, by rw [e1]; exact bs8, by rw [e1]; exact fu8, ?_, by rw [e1]; exact up8 _ _ C.lTI TIz S4.ti, ⟨_, _, by rw [e1]; exact up8 _ _ C.lTO TOz S4.to, fun k t q => by cases q⟩, ?_, ?_, ⟨_, by rw [e1]; exact hn8⟩, ⟨m42, by rw [e1]; exact hn42.at' L2k⟩, gs, by rw [e2]; exact hgs, hb, fun s' B => ?_⟩
    · rw [e1]
      exact k8.extBut _ _ (Nat.ne_of_gt C.lz) (k7.extBut _ _ (Nat.ne_of_gt C.lz) (u6 _ _ z5))
    · rw [e1, show (((i + 1 : Nat) : Int)) = (i : Int) + 1 by omega, show (rc : Int) - ((i : Int) + 1) = (rc : Int) - i - 1 by omega]
      exact up8 _ _ C.li iz S4.it
    · obtain ⟨o, nm, qn, ho, hc, hr⟩ := S4.gen
      rw [e1]
      exact ⟨o, nm, qn, up8 _ _ C.la (get_ne ho S4.zip (by rw [hc]; simp)) ho, hc, hr⟩
    · rw [show N + 1 - (i + 1) = N - i by omega]
      exact go s' ⟨B.bare, fun o e => B.frame o (by rw [e1]; exact L2k o e), fun y p q e => B.pairs y p q (by rw [e1]; exact t8.pairs y p q e), B.bs, B.funs⟩
  refine ⟨Nat.succ_pos j, S4.os, S4.bare, bs8, fu8, S4.turn.trans t8, ⟨x, rfl, S4.new, by rw [show cnt - (j + 1) = i by omega]; exact t8.pairs _ _ _ S4.pair⟩, fun s9 B => ?_⟩
  by_cases hfj : full = false ∧ j = 0
  · exact .inl ⟨hfj.1, by rw [hfj.2]⟩
  refine .inr (hk .none s9 ?_)
  dsimp only
  refine seg_execs_nil ?_
  exact seg_again rfl (next hfj s9 (LoopSt.wake C (St8 { s4 with heap := h8, toks := s4.toks + 1 + 1 } rfl rfl) ne B))
/-- all its turns -/
theorem loop_f (M : Mod K mg base) (C : LoopC base outer L z TI TO i1 a2 L2) (hd : A1.handled = none) (dep : A1.depth + 1 < recursionLimit) (hN : cnt ≤ N) (hrc : cnt ≤ rc)
    (ov : A1.over (.forLoop tgF (.ref z) bodF [] (envF L f cd)) fs = A1.deeper (envF L f cd)) (sp : splitAtGen fs = none) (gd : fs.any Frame.guarded = false) (ne : g2 ≠ g1)
    (last : ∀ (s₀ s : Shared), s.os = s₀.os → AllBare s.gens → (∀ b o, base.get? b = some o → s.heap.get? b = some o) → s.heap.FunFrames base outer → Turn1 L (frs outer) s₀.heap s.heap →
      Seg (model P w) A1 (ROuter base outer L) (YOuter base outer L g1 (cfF r v) full cnt) 1 s₀ (.block [] (envF L f cd)) ((model P w).den (.block [] (envF L f cd))) fs s) :
    (full = true → rc = cnt) → ∀ (j i : Nat), i + j = cnt → (full = false → 0 < j) → ∀ (s₀ s : Shared), LoopSt P w base outer L f cd (around2 A1 L f cd) r v N rc z TI TO i1 a2 g2 L2 i s → s.os = s₀.os → Turn1 L (frs outer) s₀.heap s.heap → (∀ b, s.heap.get? b = none → s₀.heap.get? b = none) → SegF P w base A1 outer L f cd g1 r v full cnt (j + 1) z fs s₀ s
  | hf, 0, i, hi, h0, s₀, s, S, os, t, _ => by
    have ft : full = true := by
      cases e : full with
      | true => rfl
      | false => exact absurd (h0 e) (Nat.lt_irrefl 0)
    have e : i = rc := by rw [hf ft]; omega
    rw [e] at S
    exact turn_last C hd ov last s₀ s S os t
  | hf, j + 1, i, hi, h0, s₀, s, S, os, t, th => turn_item M C hd dep hN hrc ov sp gd ne i j hi (fun nj s' S' => loop_f M C hd dep hN hrc ov sp gd ne last hf j (i + 1) (by omega) (fun e => by
      rcases Nat.eq_zero_or_pos j with z | z
      · exact absurd ⟨e, z⟩ nj
      · exact z) s' s' S' rfl Turn1.refl (fun _ e => e)) s₀ s S os t th
end
/-! ### generators and zips are made -/
theorem gen_madeB {P : Program} {w : World} {K : PySem.W.Frag} {A : Around} {s : Shared} {x qual : Str} {st : Stmt} {f : Addr} {fd : FuncData} {N ps : List Str} {us : List Value} {vs : List V} {R : Result → Shared → Prop} {args : Args} (F : Fun K x qual st f fd) (S : GScope N ps (defScope st)) (nc : ∀ y ∈ (defScope st).names, y.2 ≠ .cell ∧ y.2 ≠ .free)
    (room : A.depth < recursionLimit) (KX : K.In s.heap) (lim : s.heap.NoLimit) (b : BindsTo s fd args (ps.zip us)) (rv : Vals vs us) (hl : vs.length = ps.length)
    (h : ∀ (cd : Value) (a : Addr) (h' : Heap) (tk : Nat), s.heap.objs.size < a → h'.IsGen a s.gens.size → (∀ b o, s.heap.get? b = some o → h'.get? b = some o) → LocIs (envOfC qual (defScope st) s.heap.objs.size f cd) N h' (L2.start N vs) →
      R (.ok (.ret (.ref a))) { s with gens := s.gens.push (.fresh (.func (defBody st) (envOfC qual (defScope st) s.heap.objs.size f cd))), heap := h', toks := tk }) : codeAny (model P w) A (.call (.ref f) args) R s := by
  obtain ⟨oc, od, kV, doc, pm, an, cdv, ct, osl, rfl, lk, hcd⟩ := F.ex
  have hul : us.length = ps.length := rv.length.symm.trans hl
  have locs : ∀ y ∈ ps, (defScope st).names.lookup y = some .local := fun y hy => by
    rcases S.par y hy with q | q
    · exact q
    · exact absurd rfl (nc _ (PySem.mem_of_lookup q)).1
  refine codeAny_call_generator room (KX _ _ lk) rfl S.co S.gen rfl (PySem.W.codeRec_of KX hcd) ?_
  refine b _ _ _ _ (wpAny_newFunctionEnv_cells S.kind (fun ⟨n, u⟩ hy => .inl (locs n (List.of_mem_zip hy).1)) fun env he s1 y => ?_)
  subst he
  obtain ⟨h1, tk, rfl, hk⟩ := y.done
  have ns := y.toInCall.ns
  refine ⟨lim.keeps y.toInCall.keep, h cdv _ _ _ ns.lt ⟨_, _, _, Heap.get?_push_size _ rfl, rfl, rfl, rfl⟩ (fun b o e => Heap.get?_push_of_some _ (y.toInCall.keep b o e)) ⟨?_, _, ns.push _, fun i n v e1 e2 _ => ?_⟩⟩
  · have hpl : ps.length ≤ N.length := by
      have := congrArg List.length S.pre
      rw [List.length_take] at this
      omega
    unfold L2.start
    rw [List.length_append, List.length_map, List.length_replicate]
    omega
  · have hi : i < vs.length := by
      rcases Nat.lt_or_ge i vs.length with z | z
      · exact z
      · unfold L2.start at e2
        rw [List.getElem?_append_right (by simpa using z), List.getElem?_replicate] at e2
        split at e2 <;> cases e2
    have ha : vs[i]? = some v := by
      unfold L2.start at e2
      rw [List.getElem?_append_left (by simpa using hi), List.getElem?_map] at e2
      cases e : vs[i]? with
      | none => rw [e] at e2; cases e2
      | some a => rw [e] at e2; cases e2; rfl
    obtain ⟨u, hu, ru⟩ := rv.get ha
    have hp : ps[i]? = some n := by
      rw [← S.pre, List.getElem?_take_of_lt (by omega)]
      exact e1
    have nd : ps.Nodup := by
      rw [← S.pre]
      exact S.nd.sublist (List.take_sublist _ _)
    have kn := locs n (List.mem_of_getElem? hp)
    exact ⟨u, ru, kn, bindL_get nd hp hu kn⟩
theorem gen_made {P : Program} {w : World} {K : PySem.W.Frag} {A : Around} {s : Shared} {x qual : Str} {st : Stmt} {f : Addr} {fd : FuncData} {N ps : List Str} {us : List Value} {vs : List V} {R : Result → Shared → Prop} (F : Fun K x qual st f fd) (S : GScope N ps (defScope st)) (nc : ∀ y ∈ (defScope st).names, y.2 ≠ .cell ∧ y.2 ≠ .free)
    (room : A.depth < recursionLimit) (KX : K.In s.heap) (lim : s.heap.NoLimit) (hb : Binds K fd ps []) (rv : Vals vs us) (hl : vs.length = ps.length)
    (h : ∀ (cd : Value) (a : Addr) (h' : Heap) (tk : Nat), s.heap.objs.size < a → h'.IsGen a s.gens.size → (∀ b o, s.heap.get? b = some o → h'.get? b = some o) → LocIs (envOfC qual (defScope st) s.heap.objs.size f cd) N h' (L2.start N vs) →
      R (.ok (.ret (.ref a))) { s with gens := s.gens.push (.fresh (.func (defBody st) (envOfC qual (defScope st) s.heap.objs.size f cd))), heap := h', toks := tk }) : codeAny (model P w) A (.call (.ref f) ⟨us, []⟩) R s := by
  have b := hb s us KX (by rw [List.append_nil]; exact rv.length.symm.trans hl)
  rw [List.append_nil] at b
  exact gen_madeB F S nc room KX lim b rv hl h
section
variable {P : Program} {w : World} {A : Around} {E : Value → Shared → Prop} {s : Shared}
theorem meets_zip_rg (ra a2 : Addr) (g : Nat) (n : Int) (t u v : Tok) (small : Builtin.Range.small 0 n 1 = true) :
    Meets (Builtin.«zip.__new__» ⟨[.type "zip", .ref ra, .ref a2], []⟩) (fun _ R s => IsRange s.heap ra 0 n 1 t u v ∧ s.heap.IsGen a2 g ∧
      R (.ok (.ret (.ref (s.heap.objs.size + 3)))) { s with heap := (((s.heap.push { cls := .type "range_iterator", data := .fields #[rawInt 0, rawInt (Builtin.Range.rangeSize 0 n 1), rawInt 1] }).push { cls := .type "tuple", data := .seq #[.ref s.heap.objs.size, .ref a2] }).push { cls := .type "tuple", data := .seq #[.none, .none] }).push { cls := .type "zip", data := .fields #[.none, .bool false, .bool false, .ref (s.heap.objs.size + 1), .ref (s.heap.objs.size + 2)] } }) :=
  .of_wp fun prog w A R s h => by
    obtain ⟨hp, gn, d, tk, os⟩ := s
    obtain ⟨h1, h2, h⟩ := h
    have hsub := sub_zip
    have e1 : IsRange (Shared.heap ⟨hp, gn, d, tk, os⟩) ra 0 n 1 t u v := h1
    have e2 : Heap.IsGen (Shared.heap ⟨hp.push { cls := .type "range_iterator", data := .fields #[rawInt 0, rawInt (Builtin.Range.rangeSize 0 n 1), rawInt 1] }, gn, d, tk, os⟩) a2 g := Heap.IsGen.push h2 _
    wp_walk using wpAny_pyIter_range e1 small, wpAny_pyIter_gen e2
    refine ⟨_, rfl, ?_⟩
    simp only [Heap.size_push] at h ⊢
    exact h
theorem call_zip_rg {ra a2 : Addr} {g : Nat} {n : Nat} {t u v : Tok} {Q : Value → Shared → Prop} (h1 : IsRange s.heap ra 0 n 1 t u v) (h2 : s.heap.IsGen a2 g) (hn : n < 2 ^ 62)
    (h : ∀ h' : Heap, IsRangeIter h' s.heap.objs.size 0 n 1 → IsPair h' (s.heap.objs.size + 1) (.ref s.heap.objs.size) (.ref a2) → IsPair h' (s.heap.objs.size + 2) .none .none → IsZip h' (s.heap.objs.size + 3) (s.heap.objs.size + 1) (s.heap.objs.size + 2) .none →
      (∀ c o, s.heap.get? c = some o → h'.get? c = some o) → Q (.ref (s.heap.objs.size + 3)) { s with heap := h' }) :
    wpAny (model P w) A (call (.type "zip") [.ref ra, .ref a2]) Q E s := by
  have small : Builtin.Range.small 0 n 1 = true := small_one (by decide) (by decide) (by omega) (by omega)
  refine callType_new F.called_zip (by decide) (F.typeCall_zip_2 _ _) (F.newCall_zip_2 _ _) (fun obj => F.args_object_init_3 obj _ _) F.entry_zip_new (meets_zip_rg ra a2 g n t u v small) ⟨h1, h2, ?_⟩
  have e : Builtin.Range.rangeSize 0 (n : Int) 1 = n := by
    rw [rangeSize_one]
    split <;> omega
  have p1 : ∀ (h : Heap) (o : Obj) (m : Nat), h.objs.size = m → Obj.isFreed o = false → (h.push o).get? m = some o := fun h o m e f => by
    subst e
    exact Heap.get?_push_size _ f
  rw [e]
  refine ⟨⟨_, p1 _ _ _ (by simp only [Heap.size_push]) rfl, rfl⟩, h _ ?_ ?_ ?_ (p1 _ _ _ (by simp only [Heap.size_push]) rfl) fun c o q => Heap.get?_push_of_some _ (Heap.get?_push_of_some _ (Heap.get?_push_of_some _ (Heap.get?_push_of_some _ q)))⟩
  · exact Heap.get?_push_of_some _ (Heap.get?_push_of_some _ (Heap.get?_push_of_some _ (p1 _ _ _ rfl rfl)))
  · exact Heap.get?_push_of_some _ (Heap.get?_push_of_some _ (p1 _ _ _ (by simp only [Heap.size_push]) rfl))
  · exact Heap.get?_push_of_some _ (p1 _ _ _ (by simp only [Heap.size_push]) rfl)
end
/-! ### the first turn of the outer generator -/
theorem seg_for {M : Model} {A : Around} {R : GenEnd} {Y : Protocol} {n : Nat} {s₀ s : Shared} {c : Code} {fs : List Frame} {env : Env} {KK : Flow → Sem PySem.Fin} {J : Value → Sem PySem.Fin} {g : Bool → Bool} {lv : List Value → List Value} {target iter : Expr} {body : List Stmt} {pos : Pos}
    (hs : ∀ x, foldedSetIterable iter env x = pure x)
    (h : wpAny M (A.over c fs) (eval iter env) (fun x s1 => wpAny M (A.over c fs) (pyIter x) (fun it s2 => ∀ p, Seg M A R Y n s₀ (.forLoop target it body [] env) (M.den (.forLoop target it body [] env))
      (.ret (fun r => ((match r with | .ok f => (Sem.pure f : Sem Flow) | .error e => Sem.raise e).onRaise (cameBack env)).wrap KK J g lv) none (g false) (lv []) c p [] :: fs) s2) (fun x s' => Seg M A R Y n s₀ c (J x) fs s') s1) (fun x s' => Seg M A R Y n s₀ c (J x) fs s') s) :
    Seg M A R Y n s₀ c ((exec (.For target iter body [] pos) env).wrap KK J g lv) fs s := by
  show Seg M A R Y n s₀ c (.at pos fun _ => (eval iter env >>= fun v => foldedSetIterable iter env v >>= fun x => standAt iter.pos >>= fun _ => holding [x] (pyIter x) >>= fun it => runOwn (.forLoop target it body [] env) env).wrap KK J g lv) fs s
  refine seg_at (seg_bind_wrap (wpAny_mono h (fun x s1 h1 => ?_) fun _ _ q => q))
  rw [hs x]
  refine seg_bind_wrap (wpAny_pure (seg_bind_wrap (wpAny_standAt (seg_bind_wrap (wpAny_holding (wpAny_mono h1 (fun it s2 h2 => ?_) fun _ _ q => q))))))
  exact seg_call h2
section
variable {base : Heap} {K : PySem.W.Frag} {mg : Str → Option Value} {P : Program} {w : World} {outer : List Env} {L f : Addr} {cd : Value} {A1 : Around} {r v : Int} {N rc cnt : Nat} {full : Bool} {g1 : Nat}
theorem Turn1.plain {L : Addr} {fs : List Addr} {h h' : Heap} {m : Str → Option Value} (hn : h.Ns L m) (low : ∀ b ∈ fs, b < L) (st : Stays L fs h h') : Turn1 L fs h h' :=
  ⟨fun b o l n e => st.keep b o e (Nat.ne_of_lt l) n, fun b o n e => st.slot b o e (Nat.ne_of_lt (low b n)) n, fun b o l e _ => st.keep b o e (Nat.ne_of_gt l) (fun q => absurd (Nat.lt_trans (low b q) l) (Nat.lt_irrefl _)), fun x p q e => st.pair (pair_noL hn e) e⟩
def cArgs : Expr → List Expr
  | .Call _ a _ _ => a
  | _ => []
def cPos : Expr → Pos × Pos
  | .Call (.Name _ p) _ _ q => (p, q)
  | _ => (⟨0, 0, 0, 0⟩, ⟨0, 0, 0, 0⟩)
abbrev rgF : Expr := (cArgs itF).getD 0 (.Name "" ⟨0, 0, 0, 0⟩)
abbrev efF : Expr := (cArgs itF).getD 1 (.Name "" ⟨0, 0, 0, 0⟩)
abbrev cnF : Expr := (cArgs rgF).getD 0 (.Name "" ⟨0, 0, 0, 0⟩)
abbrev rtF : Expr := (cArgs efF).getD 0 (.Name "" ⟨0, 0, 0, 0⟩)
theorem it_f : itF = .Call (.Name "zip" (cPos itF).1) [rgF, efF] [] (cPos itF).2 := rfl
theorem rg_f : rgF = .Call (.Name "range" (cPos rgF).1) [cnF] [] (cPos rgF).2 := rfl
theorem ef_f : efF = .Call (.Name "endless_fractions" (cPos efF).1) [rtF] [] (cPos efF).2 := rfl
/-- the zip is made: all that stood stays -/
theorem zip_made (T : Txt K mg) (M : Mod K mg base) {s : Shared} {TT : List (Addr × Int × Int)} {pins : List (Addr × Obj)} {H : Hp} {s1 : Shared} (hd : A1.depth + 1 < recursionLimit) (hc : rc < 2 ^ 62)
    (I : Inv (gcx P w K mg base nmF (envF L f cd) A1 outer s TT) pins [some (.int r), some (.int rc), none, none] H s1)
    {Q : Value → Shared → Prop} {E : Value → Shared → Prop}
    (q : ∀ (s2 : Shared) (i1 a2 L2 : Addr) (cd2 : Value), s1.heap.objs.size ≤ L2 → L2 < a2 → a2 < i1 → s2.os = s1.os → s2.gens = s1.gens.push (.fresh (.func (defBody s_endless_fractions) (envE L2 T.f_endless_fractions cd2))) → (∀ b o, s1.heap.get? b = some o → s2.heap.get? b = some o) → s2.heap.IsGen a2 s1.gens.size →
      LocIs (envE L2 T.f_endless_fractions cd2) nmE s2.heap [some (.int r), none, none, none, none, none, none] → IsRangeIter s2.heap i1 0 rc 1 → IsPair s2.heap (i1 + 1) (.ref i1) (.ref a2) → IsPair s2.heap (i1 + 2) .none .none → IsZip s2.heap (i1 + 3) (i1 + 1) (i1 + 2) .none → Q (.ref (i1 + 3)) s2) :
    wpAny (model P w) (A1.deeper (envF L f cd)) (eval itF (envF L f cd)) Q E s1 := by
  rw [it_f]
  refine wpAny_Call_Name_kw (ld_blt I (by rfl) T.n_zip PyProof.Rows.boot_zip ?_ (by decide) (by decide))
  have hst : starEach [rgF, efF] (envF L f cd) = [(false, eval rgF (envF L f cd)), (false, eval efF (envF L f cd))] := by rfl
  refine PyProof.Rows.callWith_type1 ?_ hst rfl
  rw [hst]
  show wpAny _ _ (spliced [(false, eval rgF (envF L f cd)), (false, eval efF (envF L f cd))]) _ _ _
  refine Calls.spliced_cons ?_
  rw [rg_f]
  refine wpAny_Call_Name_kw (ld_blt I (by rfl) T.n_range PyProof.Rows.boot_range ?_ (by decide) (by decide))
  have hst1 : starEach [cnF] (envF L f cd) = [(false, eval cnF (envF L f cd))] := by rfl
  refine PyProof.Rows.callWith_type1 ?_ hst1 rfl
  rw [hst1]
  show wpAny _ _ (spliced [(false, eval cnF (envF L f cd))]) _ _ _
  obtain ⟨pc, ec⟩ : ∃ p, cnF = .Name "count" p := ⟨_, rfl⟩
  obtain ⟨pr, er⟩ : ∃ p, rtF = .Name "root" p := ⟨_, rfl⟩
  have G := genv_f L f cd
  obtain ⟨m, hn, look⟩ := I.loc
  have lk : ∀ (j : Nat) (x : Str) (v : V), nmF[j]? = some x → ([some (.int r), some (.int rc), none, none] : L2.St)[j]? = some (some v) → (defScope s_fractions).names.lookup x = some .local → ∃ u, RelV v u ∧ m x = some u := fun j x v e1 e2 e3 => by
    obtain ⟨u, ru, z⟩ := look j x v e1 e2 (.inl e3)
    refine ⟨u, ru, ?_⟩
    rcases z with z | ⟨z, _⟩
    · exact z.2
    · rcases z with z | z
      · exact absurd rfl (G.loc x _ z).1
      · exact absurd rfl (G.loc x _ z).2
  have kc : (defScope s_fractions).names.lookup (Str.ofString "count") = some NameKind.local := by decide +kernel
  have kr : (defScope s_fractions).names.lookup (Str.ofString "root") = some NameKind.local := by decide +kernel
  obtain ⟨uc, rc, mc⟩ := lk 1 _ _ rfl rfl kc
  obtain ⟨ur, rr, mr⟩ := lk 0 _ _ rfl rfl kr
  obtain ⟨tu, rfl⟩ := rc
  have hn : s1.heap.Ns L m := hn
  refine Calls.spliced_cons ?_
  rw [ec]
  refine wpAny_Name (wpAny_loadName_local (env := envF L f cd) rfl kc hn mc (Calls.spliced_nil (call_range_1 ?_)))
  have I3 : Inv (gcx P w K mg base nmF (envF L f cd) A1 outer s TT) pins [some (.int r), some (.int rc), none, none] H { s1 with heap := s1.heap.push { cls := .type "range", data := .fields #[.int 0 s1.toks, .int rc tu, .int 1 (s1.toks + 1)] }, toks := s1.toks + 1 + 1 } := I.kept fun b o e => Heap.get?_push_of_some _ e
  have k3 : ∀ b o, s1.heap.get? b = some o → (s1.heap.push { cls := .type "range", data := .fields #[.int 0 s1.toks, .int rc tu, .int 1 (s1.toks + 1)] }).get? b = some o := fun b o e => Heap.get?_push_of_some _ e
  have r3 : IsRange (s1.heap.push { cls := .type "range", data := .fields #[.int 0 s1.toks, .int rc tu, .int 1 (s1.toks + 1)] }) s1.heap.objs.size 0 rc 1 s1.toks tu (s1.toks + 1) := Heap.get?_push_size _ rfl
  have z3 : (s1.heap.push { cls := .type "range", data := .fields #[.int 0 s1.toks, .int rc tu, .int 1 (s1.toks + 1)] }).objs.size = s1.heap.objs.size + 1 := Heap.size_push ..
  have hn3 := hn.keeps k3
  generalize s1.heap.push { cls := .type "range", data := .fields #[.int 0 s1.toks, .int rc tu, .int 1 (s1.toks + 1)] } = h3 at I3 k3 r3 z3 hn3 ⊢
  refine Calls.spliced_cons ?_
  rw [ef_f]
  have hst2 : starEach [rtF] (envF L f cd) = (false, eval rtF (envF L f cd)) :: starEach [] (envF L f cd) := by rfl
  refine wpAny_Call_Name_kw (ld_glob I3 (by rfl) T.g_endless_fractions (PySem.W.callWith_K (h₀ := base) M.kin T.F_endless_fractions.kp ?_ hst2 rfl) (by decide))
  rw [hst2]
  show wpAny _ _ (spliced [(false, eval rtF (envF L f cd))]) _ _ _
  refine Calls.spliced_cons ?_
  rw [er]
  refine wpAny_Name (wpAny_loadName_local (env := envF L f cd) rfl kr hn3 mr (Calls.spliced_nil ⟨I3.kIn, ?_⟩))
  refine wpAny_call (gen_made (vs := [.int r]) T.F_endless_fractions sc_endless_fractions (by decide +kernel) (by show A1.depth + 1 < _; exact hd) I3.kIn I3.nolimit T.b_endless_fractions (.cons rr .nil) rfl fun cd2 a2 h4 t4 la ga k4 hl4 => ?_)
  refine Calls.spliced_nil ?_
  have la : h3.objs.size < a2 := la
  have lt4 : a2 < h4.objs.size := by
    obtain ⟨o, _, _, ho, _⟩ := ga
    exact Heap.lt_size ho
  refine call_zip_rg (s := { s1 with gens := _, heap := h4, toks := t4 }) (k4 _ _ r3) ga (by omega) fun h5 it TI TO zz k5 => ?_
  refine q { s1 with gens := _, heap := h5, toks := t4 } h4.objs.size a2 h3.objs.size cd2 (by omega) la lt4 rfl rfl (fun b o e => k5 b o (k4 b o (k3 b o e))) ?_ ?_ it TI TO zz
  · obtain ⟨o, nm, qn, ho, rest⟩ := ga
    exact ⟨o, nm, qn, k5 _ _ ho, rest⟩
  · obtain ⟨len, m', hm', lk'⟩ := hl4
    exact ⟨len, m', hm'.keeps k5, lk'⟩
theorem stays_there {m : Str → Option Value} {fs : List Addr} {h h' : Heap} (hn : h'.Ns L m) (st : Stays L fs h h') (b : Addr) (e : h'.get? b = none) : h.get? b = none := by
  cases q : h.get? b with
  | none => rfl
  | some o =>
    exfalso
    by_cases z : b = L
    · obtain ⟨o', _, _, ho, _⟩ := hn
      rw [← z, e] at ho
      cases ho
    · by_cases f : b ∈ fs
      · obtain ⟨sl, z2⟩ := st.slot b o q z f
        rw [e] at z2
        cases z2
      · rw [st.keep b o q z f] at e
        cases e
/-- woken for the first time: it tests, makes its zip, and walks it -/
theorem fresh_f (T : Txt K mg) (M : Mod K mg base) (hr : Room 7 (A1.deeper (envF L f cd))) (hd : A1.handled = none) (dep : A1.depth + 1 < recursionLimit) (fr : A1.frames = some outer) (r2 : 2 ≤ r) (r99 : r ≤ 99) (hw : isW r v) (small : cnt ≤ 1000) (h62 : rc < 2 ^ 62) (hrc : cnt ≤ rc) (hfull : full = true → rc = cnt) (hpos : full = false → 0 < cnt)
    (s : Shared) (W : WakeOk K mg base (envF L f cd) outer [] s) (hl : LocIs (envF L f cd) nmF s.heap [some (.int r), some (.int rc), none, none]) (hg : g1 < s.gens.size) :
    Seg (model P w) A1 (ROuter base outer L) (YOuter base outer L g1 (cfF r v) full cnt) (cnt + 1) s (.func (defBody s_fractions) (envF L f cd)) ((model P w).den (.func (defBody s_fractions) (envF L f cd))) [] s := by
  have E := genv_f L f cd
  have I := awake (P := P) (w := w) (A := A1) E M hd fr W hl
  obtain ⟨_, m0, hn0, _⟩ := id hl
  have hn0 : s.heap.Ns L m0 := hn0
  have lt : L ≤ s.heap.objs.size := Nat.le_of_lt hn0.lt
  have hTT : ∀ p ∈ ([] : List (Addr × Int × Int)), PairIn s.heap p.1 p.2.1 p.2.2 := fun p hp => nomatch hp
  refine seg_func (seg_cons_at body_f (seg_wrap ?_))
  rw [GenW.over_func]
  refine wpAny_mono (GenW.wpAny_gsz (n := g1 + 1) hg (wpAny_mono ((show PS (gcx P w K mg base nmF (envF L f cd) A1 outer s []) (nthS (defBody s_fractions) 0) _ from (ps_if (pt_cmpR op_lt (pv 1) pe_int (nomark _)) (pss_one ps_dead) pss_nil)).run [] s _ _ { nx := fun σ' H' => σ' = [some (.int r), some (.int rc), none, none] ∧ H' = wokenH L s.heap [], rt := fun _ _ => False } I ?_) (Q' := fun fl s1 => g1 + 1 ≤ s1.gens.size → fl = .next ∧ g1 + 1 ≤ s1.gens.size ∧ Inv (gcx P w K mg base nmF (envF L f cd) A1 outer s []) [] [some (.int r), some (.int rc), none, none] (wokenH L s.heap []) s1) (fun fl s1 hs sz => ?_) fun _ _ z => z.elim)) ?_ fun _ _ z => z
  · exact ⟨_, rfl, _, _, rfl, rfl, _, rfl, ite2 (fun e => absurd (of_decide_eq_true e) (by omega)) (fun _ => ⟨rfl, rfl⟩)⟩
  · match fl, hs with
    | .ret _, h => obtain ⟨_, _, _, _, _, q⟩ := h; exact q.elim
    | .brk, h => obtain ⟨_, _, _, q⟩ := h; exact q.elim
    | .cont, h => obtain ⟨_, _, _, q⟩ := h; exact q.elim
    | .next, h =>
      obtain ⟨σ1, H1, I1, rfl, rfl⟩ := h
      exact ⟨rfl, sz, I1⟩
  rintro fl s1 ⟨rfl, gz, I1⟩
  have st1 := stays_of lt hTT I1 (fun _ _ e => e)
  obtain ⟨W1, hl1⟩ := after_run (T' := []) E W I1 (fun p hp => nomatch hp)
  obtain ⟨_, m1, hn1, _⟩ := id hl1
  have hn1 : s1.heap.Ns L m1 := hn1
  dsimp only
  refine seg_execs_cons (seg_for (by intro _; rfl) ?_)
  rw [GenW.over_func]
  refine zip_made T M dep h62 I1 fun s2 i1 a2 L2 cd2 l2 la li os2 g2 k2 ga hl2 it TI TO zz => wpAny_pyIter_zip zz fun p => ?_
  have lL : L < L2 := Nat.lt_of_lt_of_le hn1.lt l2
  have ll : L < i1 := Nat.lt_trans lL (Nat.lt_trans la li)
  have C : LoopC base outer L (i1 + 3) (i1 + 1) (i1 + 2) i1 a2 L2 := ⟨Nat.ne_of_lt (Nat.lt_succ_self _), Nat.lt_of_lt_of_le ll (Nat.le_add_right _ _), Nat.lt_of_lt_of_le ll (Nat.le_add_right _ _), Nat.lt_of_lt_of_le ll (Nat.le_add_right _ _), ll, Nat.lt_trans lL la, lL, W.low, W.bz⟩
  have gs : s2.gens[s1.gens.size]? = some (.fresh (.func (defBody s_endless_fractions) (envE L2 T.f_endless_fractions cd2))) := by
    rw [g2]
    exact Array.getElem?_push_size ..
  have bare2 : AllBare s2.gens := by
    rw [g2]
    exact AllBare.push W1.bare rfl
  have fu2 : s2.heap.FunFrames base outer := funs_old W.low (fun b o _ e => ⟨o.slots, k2 b o e⟩) W1.funs
  have S : LoopSt P w base outer L f cd (around2 A1 L f cd) r v cnt rc (i1 + 3) (i1 + 1) (i1 + 2) i1 a2 s1.gens.size L2 0 s2 := by
    refine ⟨bare2, fun b o e => k2 b o (W1.bs b o e), fu2, zz, TI, ⟨_, _, TO, fun k t q => by cases q⟩, by simpa using it, ga, ⟨m1, hn1.keeps k2⟩, (let ⟨_, m, h, _⟩ := hl2; ⟨m, h⟩), _, gs, rfl, fun s' B => ⟨rfl, ?_⟩⟩
    refine fresh_e (A := around2 A1 L f cd) (outer := envF L f cd :: outer) T M ?_ hd (Around.frames_deeper fr) r2 r99 hw small s' ⟨B.bare, B.bs, ?_, B.funs, fun b hb => ?_, fun p hp => nomatch hp⟩ ?_
    · exact (show Room 6 (A1.deeper (envF L f cd)).in1 from Room.in1 hr).in1.deeper _
    · exact Nat.le_trans W.bz (Nat.le_of_lt lL)
    · have cons : frs (envF L f cd :: outer) = L :: frs outer := rfl
      rw [cons] at hb
      rcases List.mem_cons.mp hb with q | q
      · rw [q]
        exact lL
      · exact Nat.lt_trans (W.low b q) lL
    · obtain ⟨len, m, hm, look⟩ := hl2
      exact ⟨len, m, hm.at' fun o e => B.frame o e, look⟩
  refine loop_f M C hd dep (Nat.le_refl _) hrc ((GenW.over_loop rfl rfl).trans GenW.over_func) rfl rfl (by omega) ?_ hfull cnt 0 (Nat.zero_add _) hpos s s2 S (os2.trans I1.os) ?_ ?_
  · intro s₀ s' os b bs fu t
    show Seg _ _ _ _ 1 s₀ _ (.pure (.done .next)) _ s'
    exact seg_leaf (.ok .next) (seg_end (.ok (.ret .none)) (.inl ⟨.inl rfl, rfl, os, b, bs, fu, t⟩))
  · refine (Turn1.plain hn0 W.low st1).trans ⟨fun b o _ _ e => k2 b o e, fun b o _ e => ⟨o.slots, k2 b o e⟩, fun b o _ e _ => k2 b o e, fun x p q e => ?_⟩
    obtain ⟨its, rv, o, ho, hrest⟩ := e
    exact ⟨its, rv, o, k2 x o ho, hrest⟩
  · intro b e
    refine stays_there hn1 st1 b ?_
    cases q : s1.heap.get? b with
    | none => rfl
    | some o =>
      rw [k2 b o q] at e
      cases e
end
/-! ### list(fractions(root, count)) -/
/-- what a walk through the generator leaves as it was, all in all -/
structure Turn0 (L : Addr) (fs : List Addr) (h h' : Heap) : Prop where
  old : ∀ b o, b < L → b ∉ fs → h.get? b = some o → h'.get? b = some o
  oldF : ∀ b o, b ∈ fs → h.get? b = some o → ∃ sl, h'.get? b = some { o with slots := sl }
  pairs : ∀ x p q, PairIn h x p q → PairIn h' x p q
theorem Turn1.less {L : Addr} {fs : List Addr} {h h' : Heap} (t : Turn1 L fs h h') : Turn0 L fs h h' := ⟨t.old, t.oldF, t.pairs⟩
theorem Turn0.trans {L : Addr} {fs : List Addr} {h h1 h2 : Heap} (a : Turn0 L fs h h1) (b : Turn0 L fs h1 h2) : Turn0 L fs h h2 :=
  ⟨fun x o l n e => b.old x o l n (a.old x o l n e), fun x o f e => by
    obtain ⟨sl, e1⟩ := a.oldF x o f e
    obtain ⟨sl', e2⟩ := b.oldF x _ f e1
    exact ⟨sl', e2⟩, fun x p q e => b.pairs x p q (a.pairs x p q e)⟩
section
variable {base : Heap} {K : PySem.W.Frag} {mg : Str → Option Value} {P : Program} {w : World} {outer : List Env} {L : Addr} {r v : Int} {cnt : Nat} {g1 : Nat}
/-- pairs, one after the other, are those of F -/
def PairsOf (h : Heap) (F : Nat → Int × Int) (xs : List Addr) : Prop := ∀ i x, xs[i]? = some x → PairIn h x (F i).1 (F i).2
theorem PairsOf.more {h h' : Heap} {F : Nat → Int × Int} {xs : List Addr} (p : PairsOf h F xs) (k : ∀ x p q, PairIn h x p q → PairIn h' x p q) : PairsOf h' F xs := fun i x e => k _ _ _ (p i x e)
theorem PairsOf.snoc {h : Heap} {F : Nat → Int × Int} {xs : List Addr} {x : Addr} (p : PairsOf h F xs) (e : PairIn h x (F xs.length).1 (F xs.length).2) : PairsOf h F (xs ++ [x]) := fun i y q => by
  rw [List.getElem?_append] at q
  split at q
  · exact p i y q
  · rename_i z
    have : i - xs.length = 0 := by
      cases k : i - xs.length with
      | zero => rfl
      | succ k' => rw [k] at q; cases q
    rw [this] at q
    cases q
    rw [show i = xs.length by omega]
    exact e
/-- the list at S while it is filled -/
abbrev lstR (xs : List Addr) (c : Nat) : Obj := lstObj (xs.map Value.ref).toArray c
/-- the generator at a is drained into the list at S -/
theorem drain_f (M : Mod K mg base) {A : Around} {S a : Addr} {res : Value} {R : Result → Shared → Prop} (hh : A.handled = none) (dep : A.depth < recursionLimit) (low : ∀ b ∈ frs outer, b < L) (bz : base.objs.size ≤ L) (lS : L < S) (la : L < a) (small : cnt ≤ 1000) {h0 : Heap} {os0 : OsState}
    (fin : ∀ s' xs c, s'.heap.get? S = some (lstR xs c) → xs.length = cnt → PairsOf s'.heap (cfF r v) xs → (∀ x ∈ xs, x < L → h0.get? x = none) → s'.os = os0 → AllBare s'.gens → Turn0 L (frs outer) h0 s'.heap → R (.ok (.ret res)) s') :
    ∀ (j i : Nat), i + j = cnt → ∀ (s : Shared) (xs : List Addr) (c : Nat), xs.length = i → s.heap.get? S = some (lstR xs c) → PairsOf s.heap (cfF r v) xs → (∀ x ∈ xs, x < L → h0.get? x = none) → s.os = os0 → Turn0 L (frs outer) h0 s.heap → s.heap.IsGen a g1 → (∀ b o, base.get? b = some o → s.heap.get? b = some o) → s.heap.FunFrames base outer →
      (∃ gs, s.gens[g1]? = some gs ∧ gs.Goes (model P w) A.in1.in1 (ROuter base outer L) (YOuter base outer L g1 (cfF r v) true cnt) (j + 1) (.send .none) (s.setGen g1 .running)) →
      codeAny (model P w) A (.builtin "list.extend.loop" ⟨[.ref S, .ref a, res], []⟩) R s := by
  have steady : ∀ xs c, Steady (lstR xs c) := fun xs c => ⟨fun es ep q => (by cases q), by simp [lstR, lstObj], by simp [lstR, lstObj], by simp [lstR, lstObj]⟩
  have gen : ∀ {h h' : Heap}, Turn1 L (frs outer) h h' → h.IsGen a g1 → h'.IsGen a g1 := fun {h h'} t1 hg => by
    obtain ⟨o, nm, qn, ho, hc, hd, hs⟩ := hg
    exact ⟨o, nm, qn, t1.same a o la ho ⟨fun es ep q => (by rw [hd] at q; cases q), by rw [hc]; simp, by rw [hc]; simp, by rw [hc]; simp⟩, hc, hd, hs⟩
  intro j
  induction j with
  | zero =>
    intro i hi s xs c hx hS hp nw os t hg bs fu ⟨gs, hgs, go⟩
    refine codeAny_builtin F.entry_extend_loop ?_
    rw [Around.under_plainId F.plain_extend_loop _]
    show wpAny _ A.in1 (pyNext (.ref a) >>= _) _ _ s
    refine wpAny_bind (next_genG (A := A.in1) hh (M.nolimit.keeps bs) dep hg hgs go (fun u s1 gs' hb hv => ?_) (fun s1 hp1 h' hk => ?_) fun e s1 he => he.elim)
    · exact absurd hv.1 (Nat.lt_irrefl _)
    · obtain ⟨_, os1, b1, _, _, t1⟩ := hp1
      have t1 : Turn1 L (frs outer) s.heap s1.heap := t1
      have tk : Turn1 L (frs outer) s1.heap h' := ⟨fun b o _ _ e => hk b o e, fun b o _ e => ⟨o.slots, hk b o e⟩, fun b o _ e _ => hk b o e, fun x p q e => by
        obtain ⟨its, rv, o, ho, hrest⟩ := e
        exact ⟨its, rv, o, hk x o ho, hrest⟩⟩
      have t2 := t1.trans tk
      exact wpAny_pure (fin _ xs c (t2.same S _ lS hS (steady xs c)) (by omega) (hp.more t2.pairs) nw (os1.trans os) (allBare_setGen (s := s1) b1 rfl) (t.trans t2.less))
  | succ j ih =>
    intro i hi s xs c hx hS hp nw os t hg bs fu ⟨gs, hgs, go⟩
    have hgl : g1 < s.gens.size := (Array.getElem?_eq_some_iff.mp hgs).1
    refine codeAny_builtin F.entry_extend_loop ?_
    rw [Around.under_plainId F.plain_extend_loop _]
    show wpAny _ A.in1 (pyNext (.ref a) >>= _) _ _ s
    refine wpAny_bind (GenW.wpAny_gsz (n := g1 + 1) hgl (next_genG (A := A.in1) hh (M.nolimit.keeps bs) dep hg hgs go (fun u s1 gs' hb hv => ?_) (fun s1 hp1 h' hk => ?_) fun e s1 he => he.elim))
    · intro hsz
      obtain ⟨_, os1, b1, bs1, fu1, t1, ⟨x, rfl, xn, xp⟩, nxt⟩ := hv
      have t1 : Turn1 L (frs outer) s.heap s1.heap := t1
      have hS1 : s1.heap.get? S = some (lstR xs c) := t1.same S _ lS hS (steady xs c)
      show wpAny _ A.in1 (updateSeq S (·.push (.ref x)) >>= _) _ _ _
      refine wpAny_bind (wpAny_updateSeq hS1 rfl (wpAny_pure ⟨plainId_quiet F.plain_extend_loop _, ?_⟩) ?_ ?_)
      · have oth : ∀ b o, b ≠ S → s1.heap.get? b = some o → (s1.heap.update S (Obj.mapSeq (·.push (.ref x)))).get? b = some o := fun b o n e => (Heap.get?_update_other _ _ (Ne.symm n)).trans e
        have nS : ∀ {b : Addr}, b ≤ L → b ≠ S := fun {b} l e => by
          rw [e] at l
          exact absurd (Nat.lt_of_lt_of_le lS l) (Nat.lt_irrefl _)
        have pS : ∀ y p q, PairIn s1.heap y p q → y ≠ S := fun y p q e z => by
          rw [z] at e
          exact no_pair_cls hS1 (by simp [lstR, lstObj]) p q e
        have prs : ∀ y p q, PairIn s1.heap y p q → PairIn (s1.heap.update S (Obj.mapSeq (·.push (.ref x)))) y p q := fun y p q e => by
          have n := pS y p q e
          obtain ⟨its, rv, o, ho, hrest⟩ := e
          exact ⟨its, rv, o, oth y o n ho, hrest⟩
        have gsz : g1 < s1.gens.size := by
          have q : (s1.setGen g1 gs').gens.size = s1.gens.size := GenW.setGen_size _ _ _
          have hsz' : g1 + 1 ≤ (s1.setGen g1 gs').gens.size := hsz
          omega
        have bsl : ∀ b o, base.get? b = some o → b ≤ L := fun b o e => Nat.le_of_lt (Nat.lt_of_lt_of_le (Heap.lt_size e) bz)
        have fu2 : (s1.heap.update S (Obj.mapSeq (·.push (.ref x)))).FunFrames base outer := funs_old low (fun b o hb e => ⟨o.slots, oth b o (nS (Nat.le_of_lt (low b hb))) e⟩) fu1
        have bs2 : ∀ b o, base.get? b = some o → (s1.heap.update S (Obj.mapSeq (·.push (.ref x)))).get? b = some o := fun b o e => oth b o (nS (bsl b o e)) (bs1 b o e)
        have tS : Turn0 L (frs outer) h0 (s1.heap.update S (Obj.mapSeq (·.push (.ref x)))) := by
          have t2 := t.trans t1.less
          refine ⟨fun b o l n e => oth b o (nS (Nat.le_of_lt l)) (t2.old b o l n e), fun b o hb e => ?_, fun y p q e => prs y p q (t2.pairs y p q e)⟩
          obtain ⟨sl, z⟩ := t2.oldF b o hb e
          exact ⟨sl, oth b _ (nS (Nat.le_of_lt (low b hb))) z⟩
        obtain ⟨c', hS2⟩ : ∃ c', (s1.heap.update S (Obj.mapSeq (·.push (.ref x)))).get? S = some (lstR (xs ++ [x]) c') := by
          have e1 := Heap.get?_update_self (Obj.mapSeq (·.push (.ref x))) hS1 rfl
          have e2 : ∃ c', Obj.mapSeq (·.push (.ref x)) (lstR xs c) = lstR (xs ++ [x]) c' := by
            have e3 : ((xs.map Value.ref).toArray.push (.ref x)) = ((xs ++ [x]).map Value.ref).toArray := by simp
            unfold lstR lstObj
            rw [← e3]
            exact ⟨_, rfl⟩
          obtain ⟨c', e2⟩ := e2
          exact ⟨c', by rw [e1, e2]⟩
        refine ih (i + 1) (by omega) { s1.setGen g1 gs' with heap := s1.heap.update S (Obj.mapSeq (·.push (.ref x))) } (xs ++ [x]) c' (by rw [List.length_append, hx]; rfl) hS2 ?_ (fun y hy ly => ?_) (os1.trans os) tS ?_ bs2 fu2 ⟨gs', setGen_at gsz, ?_⟩
        · refine ((hp.more t1.pairs).more prs).snoc (prs _ _ _ ?_)
          rw [hx, show i = cnt - (j + 1 + 1 - 1) by omega]
          exact xp
        · rcases List.mem_append.mp hy with q | q
          · exact nw y q ly
          · rw [List.mem_singleton.mp q] at ly ⊢
            cases e : h0.get? x with
            | none => rfl
            | some o =>
              exfalso
              have xn : s.heap.get? x = none := xn
              by_cases f : x ∈ frs outer
              · obtain ⟨sl, z⟩ := t.oldF x o f e
                rw [xn] at z
                cases z
              · have z := t.old x o ly f e
                rw [xn] at z
                cases z
        · obtain ⟨o, nm, qn, ho, hc, hd, hs⟩ := gen t1 hg
          exact ⟨o, nm, qn, oth a o (fun z => by rw [z, hS1] at ho; cases ho; simp [lstR, lstObj] at hc) ho, hc, hd, hs⟩
        · refine (fun q => (nxt _ q).resolve_left fun z => nomatch z.1) ⟨allBare_setGen (s := s1.setGen g1 gs') (allBare_setGen (s := s1) b1 hb) rfl, fun g n l => ?_, fun b o l e hne => oth b o (fun z => ?_) e, prs, bs2, fu2⟩
          · show ((s1.gens.setIfInBounds g1 gs').setIfInBounds g1 .running)[g]? = s1.gens[g]?
            rw [Array.getElem?_setIfInBounds_ne (Ne.symm n), Array.getElem?_setIfInBounds_ne (Ne.symm n)]
          · rw [z, hS1] at e
            cases e
            exact hne _ _ rfl rfl
      · show (xs.map Value.ref).toArray.size ≤ sizeLine
        rw [List.size_toArray, List.length_map]
        exact Nat.le_of_lt (small1000 (by omega))
      · show ((xs.map Value.ref).toArray.push (.ref x)).size ≤ sizeLine + 1
        rw [Array.size_push, List.size_toArray, List.length_map]
        have := small1000 (show xs.length ≤ 1000 by omega)
        omega
    · intro hsz
      have := hp1.1
      omega
end
section
variable {base : Heap} {K : PySem.W.Frag} {mg : Str → Option Value} {P : Program} {w : World} {outer : List Env} {L f : Addr} {cd : Value} {r v : Int} {cnt : Nat} {g1 : Nat} {A : Around} {E : Value → Shared → Prop} {s : Shared}
theorem Turn0.kept {L : Addr} {fs : List Addr} {h h' : Heap} (k : ∀ b o, h.get? b = some o → h'.get? b = some o) : Turn0 L fs h h' := ⟨fun b o _ _ e => k b o e, fun b o _ e => ⟨o.slots, k b o e⟩, fun x p q e => by
  obtain ⟨its, rv, o, ho, hrest⟩ := e
  exact ⟨its, rv, o, k x o ho, hrest⟩⟩
/-- list(g): up to its loop -/
theorem list_pre {a : Addr} (hg : s.heap.IsGen a g1) {Q : Value → Shared → Prop}
    (q : ∀ S h4 c4, s.heap.objs.size = S → h4.get? S = some (lstR [] c4) → (∀ b o, s.heap.get? b = some o → h4.get? b = some o) → codeAny (model P w) A.in1 (.builtin "list.extend.loop" ⟨[.ref S, .ref a, .none], []⟩) (wants (fun r s₂ => r = .none ∧ Q (.ref S) s₂) E) { s with heap := h4 }) :
    wpAny (model P w) A (call (.type "list") [.ref a]) Q E s := by
  have al : a < s.heap.objs.size := by
    obtain ⟨o, _, _, ho, _⟩ := hg
    exact Heap.lt_size ho
  refine callType_codes (Q₁ := fun obj s1 => obj = .ref s.heap.objs.size ∧ s1 = { s with heap := s.heap.push { cls := .type "list", data := .seq #[] } }) F.called_list (F.typeCall_list_1 _) F.entry_list_init (code_list_new _ ⟨rfl, rfl⟩) fun obj s1 h1 => ?_
  obtain ⟨rfl, rfl⟩ := h1
  have hS : (s.heap.push { cls := .type "list", data := .seq #[] }).get? s.heap.objs.size = some { cls := .type "list", data := .seq #[] } := Heap.get?_push_size _ rfl
  have k1 : ∀ b o, s.heap.get? b = some o → (s.heap.push { cls := .type "list", data := .seq #[] }).get? b = some o := fun b o e => Heap.get?_push_of_some _ e
  refine ⟨⟨_, hS, rfl⟩, F.args_list_init_2 _ _, ?_⟩
  generalize hSS : s.heap.objs.size = S at hS
  have ne : ∀ {b : Addr} {o : Obj}, s.heap.get? b = some o → b ≠ S := fun {b o} e => by
    rw [← hSS]
    exact Nat.ne_of_lt (Heap.lt_size e)
  have up : ∀ {h : Heap} (g : Obj → Obj), (∀ b o, s.heap.get? b = some o → h.get? b = some o) → ∀ b o, s.heap.get? b = some o → (h.update S g).get? b = some o := fun {h} g k b o e => (Heap.get?_update_other _ _ (Ne.symm (ne e))).trans (k b o e)
  have ty : ∀ {h : Heap}, (∀ b o, s.heap.get? b = some o → h.get? b = some o) → h.IsGen a g1 := fun {h} k => hg.keeps k
  generalize s.heap.push { cls := .type "list", data := .seq #[] } = h1 at hS k1
  show wpAny (model P w) A.in1.in1 (do let old ← Builtin.List.listItems (.ref S); Builtin.List.listUpdate (.ref S) (fun _ => #[]); letGo old.toList.reverse; Builtin.List.listExtendWith (.ref S) (.ref a) .none) _ _ { s with heap := h1 }
  refine wpAny_bind ?_
  unfold Builtin.List.listItems
  refine wpAny_bind (wpAny_seqItems (s := { s with heap := h1 }) hS rfl (wpAny_pure ?_))
  show wpAny (model P w) A.in1.in1 (updateSeq S (fun _ => #[]) >>= fun _ => letGo (#[] : Array Value).toList.reverse >>= fun _ => Builtin.List.listExtendWith (.ref S) (.ref a) .none) _ _ { s with heap := h1 }
  refine wpAny_bind (wpAny_updateSeq (s := { s with heap := h1 }) hS rfl ?_)
  have S2 := Heap.get?_update_self (Obj.mapSeq (fun _ => (#[] : Array Value))) hS rfl
  have k2 := up (Obj.mapSeq (fun _ => (#[] : Array Value))) k1
  generalize h1.update S (Obj.mapSeq (fun _ => (#[] : Array Value))) = h2 at S2 k2
  refine wpAny_bind (wpAny_letGo ?_)
  unfold Builtin.List.listExtendWith
  refine wpAny_bind (wpAny_typeOf (Heap.IsGen.typeIs (s := { s with heap := h2 }) (ty k2)) ?_)
  have aS : S ≠ a := fun e => by
    rw [← hSS] at e
    rw [e] at al
    exact Nat.lt_irrefl _ al
  simp only [show Builtin.List.listSameRef (.ref S) (.ref a) = false by simp [Builtin.List.listSameRef, aS], show (Value.type "generator" == Value.type "list") = false by decide, show (Value.type "generator" == Value.type "tuple") = false by decide, Bool.or_false, Bool.false_eq_true, if_false]
  refine wpAny_bind (wpAny_pyIter_gen (s := { s with heap := h2 }) (ty k2) (wpAny_bind (wpAny_holding ?_)))
  unfold Builtin.List.listLengthHint
  refine wpAny_bind (wpAny_specialOf (Heap.IsGen.typeIs (s := { s with heap := h2 }) (ty k2)) F.gen_no_len ?_)
  show wpAny (model P w) A.in1.in1 (specialOf (Value.ref a) (Str.ofString "__length_hint__") >>= _) _ _ _
  refine wpAny_bind (wpAny_specialOf (Heap.IsGen.typeIs (s := { s with heap := h2 }) (ty k2)) F.gen_no_hint (wpAny_pure ?_))
  show wpAny (model P w) A.in1.in1 (rule "list.extend.makes-room" >>= fun _ => Builtin.List.listTouch (.ref S) >>= fun _ => again (.builtin "list.extend.loop" ⟨[.ref S, .ref a, .none], []⟩)) _ _ _
  refine wpAny_bind (wpAny_rule (wpAny_bind ?_))
  show wpAny (model P w) A.in1.in1 (updateSeq S (·.push .none) >>= fun _ => updateSeq S (·.pop)) _ _ { s with heap := h2 }
  refine wpAny_bind (wpAny_updateSeq (s := { s with heap := h2 }) S2 rfl ?_)
  have S3 := Heap.get?_update_self (Obj.mapSeq (·.push Value.none)) S2 rfl
  have k3 := up (Obj.mapSeq (·.push Value.none)) k2
  refine wpAny_updateSeq (s := { s with heap := h2.update S (Obj.mapSeq (·.push Value.none)) }) (hz := by seq_fits) S3 rfl ?_
  have S4 := Heap.get?_update_self (Obj.mapSeq (·.pop)) S3 rfl
  have k4 := up (Obj.mapSeq (·.pop)) k3
  obtain ⟨c4, S4⟩ : ∃ c, ((h2.update S (Obj.mapSeq (·.push Value.none))).update S (Obj.mapSeq (·.pop))).get? S = some (lstR [] c) := ⟨_, S4⟩
  generalize (h2.update S (Obj.mapSeq (·.push Value.none))).update S (Obj.mapSeq (·.pop)) = h4 at S4 k4
  exact wpAny_pure ⟨plainId_quiet F.plain_extend_loop _, q S h4 c4 hSS S4 k4⟩
/-- list(g) of such a generator -/
theorem call_list_f (T : Txt K mg) (M : Mod K mg base) (hr : Room 11 A) (fr : A.frames = some outer) {a : Addr} (r2 : 2 ≤ r) (r99 : r ≤ 99) (hw : isW r v) (small : cnt ≤ 1000) (la : L < a) (hg : s.heap.IsGen a g1) (hgs : s.gens[g1]? = some (.fresh (.func (defBody s_fractions) (envF L f cd))))
    (W : WakeOk K mg base (envF L f cd) outer [] s) (hl : LocIs (envF L f cd) nmF s.heap [some (.int r), some (.int cnt), none, none]) {Q : Value → Shared → Prop}
    (q : ∀ S xs c s', S = s.heap.objs.size → s'.heap.get? S = some (lstR xs c) → xs.length = cnt → PairsOf s'.heap (cfF r v) xs → (∀ x ∈ xs, x < L → s.heap.get? x = none) → s'.os = s.os → AllBare s'.gens → Turn0 L (frs outer) s.heap s'.heap → Q (.ref S) s') :
    wpAny (model P w) A (call (.type "list") [.ref a]) Q E s := by
  obtain ⟨_, mL, hnL, _⟩ := id hl
  have hnL : s.heap.Ns L mL := hnL
  refine list_pre hg fun S h4 c4 hSS S4 k4 => ?_
  have ty : ∀ {h : Heap}, (∀ b o, s.heap.get? b = some o → h.get? b = some o) → h.IsGen a g1 := fun {h} k => hg.keeps k
  have lS : L < S := by
    rw [← hSS]
    exact hnL.lt
  have fu4 : h4.FunFrames base outer := funs_old W.low (fun b o _ e => ⟨o.slots, k4 b o e⟩) W.funs
  have bare4 : AllBare (({ s with heap := h4 } : Shared).setGen g1 .running).gens := allBare_setGen (s := { s with heap := h4 }) W.bare rfl
  refine drain_f (A := A.in1) (h0 := h4) (os0 := s.os) M hr.hd (by have := hr.dp; show A.depth < _; omega) W.low W.bz lS la small (fun s' xs c q1 q2 q3 q4 q5 q6 q7 => ⟨rfl, q S xs c s' hSS.symm q1 q2 q3 (fun x hx lx => ?_) q5 q6 ((Turn0.kept k4).trans q7)⟩) cnt 0 (Nat.zero_add _) { s with heap := h4 } [] c4 rfl S4 (fun i x e => by simp at e) (fun x hx => nomatch hx) rfl (Turn0.kept fun _ _ e => e) (ty k4) (fun b o e => k4 b o (W.bs b o e)) fu4 ⟨_, hgs, rfl, ?_⟩
  · cases e : s.heap.get? x with
    | none => rfl
    | some o =>
      have z := q4 x hx lx
      rw [k4 x o e] at z
      cases z
  · refine fresh_f (A1 := A.in1.in1.in1) (outer := outer) T M ?_ hr.hd (by have := hr.dp; show A.depth + 1 < _; omega) fr r2 r99 hw small (rc := cnt) (full := true) (by omega) (Nat.le_refl _) (fun _ => rfl) (fun z => nomatch z) _ ⟨bare4, fun b o e => k4 b o (W.bs b o e), W.bz, fu4, W.low, fun p hp => nomatch hp⟩ ?_ ?_
    · exact ((show Room 10 A.in1 from Room.in1 hr).in1).in1.deeper _
    · obtain ⟨len, m, hm, look⟩ := hl
      exact ⟨len, m, hm.keeps k4, look⟩
    · show g1 < (s.gens.setIfInBounds g1 .running).size
      rw [Array.size_setIfInBounds]
      exact (Array.getElem?_eq_some_iff.mp hgs).1
end
/-! ### the rule for list(fractions(root, count)) -/
/-- the pairs F 0, F 1, .. at xs, in a heap -/
def Rows (H : Hp) (F : Nat → Int × Int) (xs : List Addr) : Prop := ∀ (i : Nat) (x : Addr), xs[i]? = some x → H x = some (.tup [.int (F i).1, .int (F i).2])
def tListF (r0 : Nat) (ta : TA) : TE := fun σ H Q => ta σ H fun vs H1 => ∃ (r v : Int) (cnt : Nat), vs = [.int r, .int cnt] ∧ 2 ≤ r ∧ r ≤ 99 ∧ isW r v ∧ cnt ≤ 1000 ∧
  ∀ (S : Addr) (xs : List Addr) (H' : Hp), H1 S = none → Same H1 H' → H' S = some (.lst (xs.map V.ref)) → xs.length = cnt → Rows H' (cfF r v) xs → Q (.ref S) H'
section
variable {X : Cx}
def filled (H : Hp) (S : Addr) (xs : List Addr) (F : Nat → Int × Int) : Hp := fun b => if b = S then some (.lst (xs.map V.ref)) else match xs.idxOf? b with
  | some i => some (.tup [.int (F i).1, .int (F i).2])
  | none => H b
theorem idx_some {xs : List Addr} {b : Addr} {i : Nat} (h : xs.idxOf? b = some i) : xs[i]? = some b := by
  obtain ⟨l, e, _⟩ := List.idxOf?_eq_some_iff.mp h
  rw [List.getElem?_eq_getElem l]
  simpa using e
theorem idx_none {xs : List Addr} {b : Addr} (h : xs.idxOf? b = none) : b ∉ xs := by
  simpa using h
theorem objok_there {P : Program} {w : World} {H : Hp} {h : Heap} {a : Addr} {o : HO} (x : ObjOk P w H h a o) : ∃ ob, h.get? a = some ob := by
  cases o with
  | lst xs => obtain ⟨_, _, _, _, e⟩ := x; exact ⟨_, e⟩
  | tup xs => obtain ⟨_, _, _, o, e, _⟩ := x; exact ⟨_, e⟩
  | dK kvs => obtain ⟨_, _, _, _, o, _, _, e, _⟩ := x; exact ⟨_, e⟩
  | dT kvs => obtain ⟨_, _, _, _, o, _, _, e, _⟩ := x; exact ⟨_, e⟩
  | set S n => obtain ⟨o, _, _, _, e, _⟩ := x; exact ⟨_, e⟩
  | ins C dx fs => obtain ⟨_, _, _, e, _⟩ := x; exact ⟨_, e⟩
  | own y => exact x
  | xd fs => obtain ⟨_, ⟨_, _, _, e, _⟩, _⟩ := x; exact ⟨_, e⟩
  | rng lo hi => obtain ⟨_, _, _, e⟩ := x; exact ⟨_, e⟩
  | frz ob u => exact ⟨_, x.1⟩
  | tbl ps => exact ⟨_, x⟩
  | met f y => exact ⟨_, x⟩
  | ext φ => exact x.2.1
theorem pe_listF {P : Program} {w : World} {K : PySem.W.Frag} {mg : Str → Option Value} {base : Heap} (T : Txt K mg) (hP : X.prog = P) (hw : X.w = w) (hK : X.K = K) (hm : X.mg = mg) (hB : X.base = base) {pl pf pos pos' : Pos} {e1 e2 : Expr} {ta : TA} (hr : Room 11 X.A) (gl : Gl X "list") (gf : Gl X "fractions") (nl : mg "list" = none) (ha : PA X [e1, e2] ta)
    (hst : starEach [e1, e2] X.env = (false, eval e1 X.env) :: starEach [e2] X.env := by rfl) (hpl : (backTo pos' (starEach [e2] X.env)).any (·.1) = false := by rfl)
    (hs1 : starEach [.Call (.Name "fractions" pf) [e1, e2] [] pos'] X.env = (false, eval (.Call (.Name "fractions" pf) [e1, e2] [] pos') X.env) :: starEach [] X.env := by rfl) :
    PE X (.Call (.Name "list" pl) [.Call (.Name "fractions" pf) [e1, e2] [] pos'] [] pos) (tListF 0 ta) := by
  subst hP hw hK hm hB
  refine ⟨fun pins s σ H Q I hq => ?_⟩
  refine wpAny_Call_Name_kw (ld_blt I gl nl (by decide +kernel : bootBuiltins "list" = some (.type "list")) (PyProof.Rows.callWith_type1 ?_ hs1 rfl) (by decide) (by decide))
  rw [hs1]
  show wpAny _ _ (spliced [(false, eval (.Call (.Name "fractions" pf) [e1, e2] [] pos') X.env)]) _ _ s
  refine Calls.spliced_cons (wpAny_Call_Name_kw (ld_glob I gf T.g_fractions (PySem.W.callWith_K (h₀ := X.base) I.ok.mod.kin T.F_fractions.kp (thn (ha.run pos' pins s σ H _ I hq) fun us s1 ⟨vs, H1, I1, rv, q⟩ => ⟨I1.kIn, ?_⟩) hst hpl) (by decide)))
  obtain ⟨r, v, cnt, rfl, r2, r99, hw, small, q⟩ := q
  refine wpAny_call (gen_made (vs := [.int r, .int cnt]) T.F_fractions sc_fractions (by decide +kernel) (by have := hr.dp; omega) I1.kIn I1.nolimit T.b_fractions rv rfl fun cd a h' tk la ga k hl => ?_)
  refine Calls.spliced_nil ?_
  have low : ∀ b ∈ frs X.stack, b < s1.heap.objs.size := fun b hb => by
    obtain ⟨_, o, ho, _⟩ := I1.stack.mem hb
    exact Heap.lt_size ho
  have W : WakeOk X.K X.mg X.base (envF s1.heap.objs.size T.f_fractions cd) X.stack [] { s1 with gens := s1.gens.push (.fresh (.func (defBody s_fractions) (envF s1.heap.objs.size T.f_fractions cd))), heap := h', toks := tk } :=
    ⟨AllBare.push I1.bare rfl, fun b o e => k b o (I1.bk b o e), Nat.le_trans I1.ok.bsz I1.sz, funs_old low (fun b o _ e => ⟨o.slots, k b o e⟩) I1.stack, low, fun p hp => nomatch hp⟩
  refine call_list_f (g1 := s1.gens.size) T I1.ok.mod hr I1.ok.frames r2 r99 hw small la ga (Array.getElem?_push_size ..) W hl fun S xs c s' hS eS lx px nx os bare t0 => ?_
  have szl : s1.heap.objs.size ≤ h'.objs.size := by
    obtain ⟨o, _, _, ho, _⟩ := ga
    exact Nat.le_of_lt (Nat.lt_trans la (Heap.lt_size ho))
  have fS : H1 S = none := I1.hok.fresh (by rw [hS]; exact szl)
  have fx : ∀ x ∈ xs, H1 x = none := fun x hx => by
    cases e : H1 x with
    | none => rfl
    | some u =>
      exfalso
      have ok := I1.hok x u e
      obtain ⟨o, ho⟩ := objok_there ok
      have z := nx x hx ok.lt
      have z : h'.get? x = none := z
      rw [k x o ho] at z
      cases z
  have nSx : S ∉ xs := fun hm => by
    obtain ⟨i, hi, ei⟩ := List.mem_iff_getElem.mp hm
    have p := px i S (by rw [List.getElem?_eq_getElem hi, ei])
    exact no_pair_cls eS (by simp [lstR, lstObj]) _ _ p
  have same : Same H1 (filled H1 S xs (cfF r v)) := fun b u e => by
    unfold filled
    rw [if_neg (fun z => by rw [z, fS] at e; cases e)]
    cases q2 : xs.idxOf? b with
    | none => exact e
    | some i =>
      exfalso
      have hm := List.mem_of_getElem? (idx_some q2)
      rw [fx b hm] at e
      cases e
  have atS : filled H1 S xs (cfF r v) S = some (.lst (xs.map V.ref)) := if_pos rfl
  have atX : Rows (filled H1 S xs (cfF r v)) (cfF r v) xs := fun i x e => by
    have hm := List.mem_of_getElem? e
    unfold filled
    rw [if_neg (fun (z : x = S) => nSx (z ▸ hm))]
    cases q2 : xs.idxOf? x with
    | none => exact absurd hm (idx_none q2)
    | some j =>
      obtain ⟨a1, a2⟩ := pair_inj (px j x (idx_some q2)) (px i x e)
      dsimp only
      rw [a1, a2]
  have t0 : Turn0 s1.heap.objs.size (frs X.stack) h' s'.heap := t0
  have old : ∀ b o, s1.heap.get? b = some o → b ∉ frs X.stack → s'.heap.get? b = some o := fun b o e nf => t0.old b o (Heap.lt_size e) nf (k b o e)
  have trk : ∀ b u, H1 b = some u → b ∉ frs X.stack := fun b u e hb => by
    rw [I1.stkFree b hb] at e
    cases e
  refine ⟨.ref S, filled H1 S xs (cfF r v), I1.call' (ch := []) os ⟨fun b o e _ nf _ => old b o e nf, fun b o e _ hb _ => t0.oldF b o hb (k b o e), fun b o e n _ => ?_, fun b o e _ => ?_, fun b ys e => same _ _ e, fun b o u e => same _ _ e, fun b ps e => ⟨#[], by rw [same _ _ e]; simp⟩⟩ (fun b u e => ?_) bare (fun b hb => nomatch hb), rfl, q S xs _ fS same atS lx atX⟩
  · unfold filled
    have l := Heap.lt_size e
    rw [if_neg (fun z => by rw [z, hS] at l; exact absurd (Nat.lt_of_lt_of_le l szl) (Nat.lt_irrefl _))]
    cases q2 : xs.idxOf? b with
    | none => exact n
    | some i =>
      exfalso
      have z := nx b (List.mem_of_getElem? (idx_some q2)) l
      have z : h'.get? b = none := z
      rw [k b o e] at z
      cases z
  · by_cases hb : b ∈ frs X.stack
    · obtain ⟨sl, z⟩ := t0.oldF b o hb (k b o e)
      exact ⟨_, z⟩
    · exact ⟨o, old b o e hb⟩
  · unfold filled at e
    split at e
    · rename_i z
      subst z
      cases e
      refine ⟨by rw [List.length_map, lx]; exact Nat.le_of_lt (small1000 small), xs.map Value.ref, c, ?_, eS⟩
      clear eS px nx lx q t0 old atX atS same nSx fx
      induction xs with
      | nil => exact .nil
      | cons x ys ih => exact .cons rfl ih
    · split at e
      · rename_i i q2
        cases e
        obtain ⟨its, rvs, it⟩ := px i b (idx_some q2)
        exact ⟨by show 2 ≤ sizeLine; decide, its, rvs, it⟩
      · refine (I1.hok b u e).stay (fun c o hc eo => old c o eo ?_) (fun c eo => same _ _ eo) fun c ys eo => same _ _ eo
        rcases hc with rfl | hc
        · exact trk _ _ e
        · exact trk _ _ hc
end
/-! ### BadCount -/
def Throws (C : Addr) (fs : List (Str × V)) (H : Hp) (E : XK) : Prop := ∀ x Hf, H x = none → Same H Hf → Hf x = some (.xd fs) → E (.ref C) (some x) Hf
def badCount (n : V) : List (Str × V) := [("number", n), ("word", .str "BadCount")]
/-! ### a walk by a loop that may stop: its body, with the table of generators in sight -/
section
variable {X : Cx} {pins : List (Addr × Obj)} {σ : L2.St} {H : Hp}
theorem local_read {s : Shared} {m : Str → Option Value} {x : Str} {v : Value} {p : Pos} {Q : Value → Shared → Prop} {E : Value → Shared → Prop} (kf : X.env.scope.kind = .function) (kx : X.env.kindOf x = some .local) (hn : s.heap.Ns X.env.locals m) (hv : m x = some v) (nd : (x == ("__debug__" : Str)) = false) (q : Q v s) :
    wpAny (model X.prog X.w) X.A (eval (.Name x p) X.env) Q E s := wpAny_Name (wpAny_loadName_local kf kx hn hv q) nd
/-- len(seen) >= most, read with nothing else touched -/
theorem full_test {s : Shared} {m : Str → Option Value} {seen most : Str} {S : Addr} {its : Array Value} {k : Int} {t : Tok} {p1 p2 p3 p4 p5 : Pos} {whole : Sem Value} {Q : Bool → Shared → Prop} {E : Value → Shared → Prop}
    (I : Inv X pins σ H s) (gl : Gl X "len") (nl : X.mg "len" = none) (kf : X.env.scope.kind = .function) (ks : X.env.kindOf seen = some .local) (km : X.env.kindOf most = some .local) (hn : s.heap.Ns X.env.locals m) (vs : m seen = some (.ref S)) (vm : m most = some (.int k t))
    (nds : (seen == ("__debug__" : Str)) = false) (ndm : (most == ("__debug__" : Str)) = false)
    (hS : s.heap.PlainList S its) (fit : (its.size : Int) < 2 ^ 63) (he : starEach [.Name seen p2] X.env = (false, eval (.Name seen p2) X.env) :: starEach [] X.env) (q : Q (decide (k ≤ (its.size : Int))) { s with toks := s.toks + 1 + 1 }) :
    wpAny (model X.prog X.w) X.A (isTrue (.Compare (.Call (.Name "len" p1) [.Name seen p2] [] p3) [.GtE] [.Name most p4] p5) X.env whole) Q E s := by
  refine wpAny_isTrue_Compare1 ?_ rfl
  have one : backTo p3 (starEach ([] : List Expr) X.env) = [] := by rfl
  refine wpAny_Call_Name_kw (ld_blt I gl nl (by decide +kernel : bootBuiltins "len" = some (.builtin "len")) (PyProof.Rows.callWith_builtin1 ?_ he (by rw [one]; rfl)) (by decide) (by decide))
  rw [he]
  refine Calls.spliced_cons ?_
  refine local_read kf ks hn vs nds (Calls.spliced_nil ?_)
  obtain ⟨n, ho⟩ := hS
  refine Calls.call_len_list ⟨_, ho, rfl, n, rfl⟩ fit ?_
  refine local_read kf km hn vm ndm ?_
  exact PyProof.Rows.ge_int (wpAny_truthy_bool q)
/-- seen.append(row) -/
theorem one_more {s : Shared} {m : Str → Option Value} {seen row : Str} {S x : Addr} {its : Array Value} {p1 p2 p3 p4 p5 : Pos} {Q : Flow → Shared → Prop} {E : Value → Shared → Prop}
    (kf : X.env.scope.kind = .function) (ks : X.env.kindOf seen = some .local) (kr : X.env.kindOf row = some .local) (hn : s.heap.Ns X.env.locals m) (vs : m seen = some (.ref S)) (vr : m row = some (.ref x)) (nds : (seen == ("__debug__" : Str)) = false) (ndr : (row == ("__debug__" : Str)) = false)
    (hS : s.heap.PlainList S its) (fit : its.size ≤ sizeLine) (hb : attributeBase (.Name seen p1) "append" X.env (eval (.Name seen p1) X.env) = eval (.Name seen p1) X.env)
    (he : starEach [.Name row p3] X.env = [(false, eval (.Name row p3) X.env)]) (few : ((backTo p4 (starEach [.Name row p3] X.env)).all (fun y => !y.1) && (backToKw p4 (keywordEach [] X.env)).all (fun y => y.1.isSome) && decide ([Expr.Name row p3].length + ([] : List Keyword).length + (if ([] : List Keyword).isEmpty then 0 else 1) < 30)) = true)
    (line : (p2.endLine == p4.line) = true) (hi : interactive X.env = false) (hw : swapsWith (.Call (.Attribute (.Name seen p1) "append" p2) [.Name row p3] [] p4) none p5.line X.env = pure false)
    (q : ∀ h', h'.PlainList S (its.push (.ref x)) → Heap.SameBut S s.heap h' → Q .next { s with heap := h' }) :
    wpAny (model X.prog X.w) X.A (exec (.Expr (.Call (.Attribute (.Name seen p1) "append" p2) [.Name row p3] [] p4) p5) X.env) Q E s := by
  refine wpAny_Expr ?_ hi hw
  refine PySem.wpAny_Call_method hb few line F.plainAttrs_list F.slot_list_append F.type_list_append ?_
  refine local_read kf ks hn vs nds ?_
  obtain ⟨n, ho⟩ := id hS
  refine ⟨⟨_, ho, rfl⟩, fun a e => ?_, ?_⟩
  · cases e
    exact ⟨_, ho, rfl⟩
  rw [he]
  refine Calls.callWith_builtin rfl (Calls.evalArgs_plain (Calls.spliced_cons ?_))
  refine local_read kf kr hn vr ndr (Calls.spliced_nil ?_)
  exact wpAny_list_append_plain hS (fun h' hp hs => q h' hp hs) fit
end
/-! ### behind some turns of a walk that may stop -/
/-- what stands, of what stood at h0, where the list at S holds xs and the name row was set -/
structure WalkK (X : Cx) (L S a : Addr) (g1 : Nat) (F : Nat → Int × Int) (m0 : Str → Option Value) (row : Str) (h0 : Heap) (os0 : OsState) (xs : List Addr) (s : Shared) : Prop where
  os : s.os = os0
  bare : AllBare s.gens
  bs : ∀ b o, X.base.get? b = some o → s.heap.get? b = some o
  funs : s.heap.FunFrames X.base X.stack
  ns : ∃ m, s.heap.Ns X.env.locals m ∧ ∀ y, y ≠ row → m y = m0 y
  list : s.heap.PlainList S (xs.map Value.ref).toArray
  pairs : PairsOf s.heap F xs
  new : ∀ x ∈ xs, x < L → h0.get? x = none
  old : ∀ b o, b ∉ frs X.stack → b ≠ S → h0.get? b = some o → s.heap.get? b = some o
  oldF : ∀ b o, b ∈ frs X.stack → b ≠ X.env.locals → h0.get? b = some o → ∃ sl, s.heap.get? b = some { o with slots := sl }
  gen : s.heap.IsGen a g1
section
variable {X : Cx} {pins : List (Addr × Obj)} {σ : L2.St} {H : Hp} {L S a : Addr} {g1 : Nat} {F : Nat → Int × Int} {m0 : Str → Option Value} {row : Str} {xs : List Addr} {s0 s : Shared} {i : Nat}
theorem inv_of_walk (hs : X.stack = X.env :: X.outer) (hfs : frs X.stack = X.env.locals :: X.fs) (I0 : Inv X pins σ H s0) (nd : X.N.Nodup) (hSl : H S = some (.lst [])) (small : xs.length ≤ 1000) (irow : X.N[i]? = some row) (krow : X.env.cells.lookup row = none)
    (hm : s0.heap.Ns X.env.locals m0) (hl : ∀ (i : Nat) (x : Str) (v : V), X.N[i]? = some x → σ[i]? = some (some v) → Vis X.env.scope x → ∃ u, RelV v u ∧ Look X.env s0.heap m0 x u) (hL : L = s0.heap.objs.size)
    (W : WalkK X L S a g1 F m0 row s0.heap s0.os xs s) : Inv X pins (σ.set i none) (filled H S xs F) s := by
  subst hL
  have nx : ∀ {b : Addr} {o : Obj}, s0.heap.get? b = some o → b ∉ xs := fun {b o} e hb => by
    have z := W.new b hb (Heap.lt_size e)
    rw [e] at z
    cases z
  have keepH : ∀ {b : Addr} {u : HO}, H b = some u → b ≠ S → filled H S xs F b = some u := fun {b u} e n => by
    unfold filled
    rw [if_neg n]
    cases q : xs.idxOf? b with
    | none => exact e
    | some j =>
      exfalso
      obtain ⟨o, ho⟩ := objok_there (I0.hok b u e)
      exact nx ho (List.mem_of_getElem? (idx_some q))
  have noneH : ∀ {b : Addr} {o : Obj}, s0.heap.get? b = some o → H b = none → filled H S xs F b = none := fun {b o} e n => by
    unfold filled
    rw [if_neg (fun z => by rw [z, hSl] at n; cases n)]
    cases q : xs.idxOf? b with
    | none => exact n
    | some j => exact absurd (List.mem_of_getElem? (idx_some q)) (nx e)
  have nS : ∀ {b : Addr}, H b = none → b ≠ S := fun {b} n z => by rw [z, hSl] at n; cases n
  have trk : ∀ {b : Addr} {u : HO}, H b = some u → b ∉ frs X.stack := fun {b u} e hb => by
    rw [I0.stkFree b hb] at e
    cases e
  have upto : ∀ {b : Addr} {o : Obj}, s0.heap.get? b = some o → b ≠ S → b ≠ X.env.locals → ∃ sl, s.heap.get? b = some { o with slots := sl } := fun {b o} e n1 n2 => by
    by_cases hb : b ∈ frs X.stack
    · exact W.oldF b o hb n2 e
    · exact ⟨o.slots, W.old b o hb n1 e⟩
  have lo : ∀ {b : Addr} {o : Obj}, X.s_0.heap.get? b = some o → b ≠ X.env.locals := fun {b o} e => Nat.ne_of_lt (Nat.lt_of_lt_of_le (Heap.lt_size e) I0.ok.above)
  have cellat : ∀ {c : Addr} {v : Option Value}, c ≠ S → c ≠ X.env.locals → s0.heap.IsCell c v → s.heap.IsCell c v := fun {c v} n1 n2 z => by
    obtain ⟨o, ho, hd⟩ := z
    obtain ⟨sl, e⟩ := upto ho n1 n2
    exact ⟨_, e, hd⟩
  obtain ⟨m, hn, agree⟩ := W.ns
  refine ⟨I0.ok, W.os.trans I0.os, W.bare, ⟨fun b o e n nf nex => ?_, fun b o e n hb nex => ?_, fun b o e n nex => ?_, fun b o e nex => ?_, fun b ys e => ?_, fun b o u e => ?_, fun b ps e => ?_⟩, ⟨m, hn, fun j y v e1 e2 e3 => ?_⟩, fun y c e => ?_, ?_, fun y c e => ?_, fun p hp => ?_, fun b u e => ?_, by simpa using I0.len⟩
  · refine W.old b o ?_ (nS (I0.base.free b o e n nex)) (I0.base.keep b o e n nf nex)
    rw [hfs]
    exact fun q => (List.mem_cons.mp q).elim (lo e) nf
  · obtain ⟨sl, e1⟩ := I0.base.slot b o e n hb nex
    obtain ⟨sl', e2⟩ := upto e1 (nS (I0.base.free b o e n nex)) (lo e)
    exact ⟨sl', e2⟩
  · obtain ⟨o', e1⟩ := I0.base.there b o e nex
    exact noneH e1 (I0.base.free b o e n nex)
  · obtain ⟨o', e1⟩ := I0.base.there b o e nex
    by_cases z : b = S
    · obtain ⟨c, ho⟩ := W.list
      rw [z]
      exact ⟨_, ho⟩
    · obtain ⟨sl, e2⟩ := upto e1 z (lo e)
      exact ⟨_, e2⟩
  · have q := I0.base.tups b ys e
    exact keepH q fun z => by rw [z, hSl] at q; cases q
  · have q := I0.base.frzs b o u e
    exact keepH q fun z => by rw [z, hSl] at q; cases q
  · obtain ⟨more, q⟩ := I0.base.tbls b ps e
    exact ⟨more, keepH q fun z => by rw [z, hSl] at q; cases q⟩
  · have nj : j ≠ i := fun z => by
      rw [z] at e2
      rcases Nat.lt_or_ge i σ.length with q | q
      · rw [List.getElem?_set_self q] at e2
        cases e2
      · rw [List.getElem?_eq_none (by simpa using q)] at e2
        cases e2
    rw [List.getElem?_set_ne (Ne.symm nj)] at e2
    obtain ⟨u, ru, look⟩ := hl j y v e1 e2 e3
    refine ⟨u, ru, ?_⟩
    have ny : y ≠ row := fun z => nj (nodup_ix nd e1 (z ▸ irow))
    rcases look with ⟨k, z⟩ | ⟨k, c, z, hc⟩
    · exact .inl ⟨k, (agree y ny).trans z⟩
    · exact .inr ⟨k, c, z, cellat (nS (I0.freeC y c z)) (I0.cne y c z) hc⟩
  · obtain ⟨v, hc⟩ := I0.cell y c e
    exact ⟨v, cellat (nS (I0.freeC y c e)) (I0.cne y c e) hc⟩
  · obtain ⟨o, _, _, ho, _⟩ := id hm
    exact noneH ho I0.free
  · obtain ⟨v, o, ho, _⟩ := I0.cell y c e
    exact noneH ho (I0.freeC y c e)
  · obtain ⟨e, n, ne, nf, d⟩ := I0.pin p hp
    refine ⟨W.old p.1 p.2 ?_ (nS n) e, noneH e n, ne, nf, d⟩
    rw [hfs]
    exact fun q => (List.mem_cons.mp q).elim ne nf
  · unfold filled at e
    split at e
    · rename_i z
      subst z
      cases e
      obtain ⟨c, ho⟩ := W.list
      refine ⟨by rw [List.length_map]; exact Nat.le_of_lt (small1000 small), xs.map Value.ref, c, ?_, ho⟩
      clear W ho keepH noneH nx small
      induction xs with
      | nil => exact .nil
      | cons x ys ih => exact .cons rfl ih
    · rename_i nb
      split at e
      · rename_i j q2
        cases e
        obtain ⟨its, rvs, it⟩ := W.pairs j b (idx_some q2)
        exact ⟨by show 2 ≤ sizeLine; decide, its, rvs, it⟩
      · refine (I0.hok b u e).stay (fun c o hc eo => ?_) (fun c eo => keepH eo fun z => ?_) fun c ys eo => keepH eo fun z => ?_
        · rcases hc with rfl | hc
          · exact W.old _ _ (trk e) nb eo
          · exact W.old _ _ (trk hc) (fun z => by rw [z, hSl] at hc; cases hc) eo
        · rw [z, hSl] at eo
          cases eo
        · rw [z, hSl] at eo
          cases eo
end
/-! ### a for over the generator that stops where enough is taken -/
section
variable {X : Cx} {pins : List (Addr × Obj)} {σ : L2.St} {H : Hp} {L S a : Addr} {g1 : Nat} {r v : Int} {m0 : Str → Option Value} {row seen most : Str} {s0 : Shared} {i k : Nat} {t : Tok}
theorem WalkK.toks {F : Nat → Int × Int} {h0 : Heap} {os0 : OsState} {xs : List Addr} {s : Shared} {n : Nat} (W : WalkK X L S a g1 F m0 row h0 os0 xs s) : WalkK X L S a g1 F m0 row h0 os0 xs { s with toks := n } :=
  ⟨W.os, W.bare, W.bs, W.funs, W.ns, W.list, W.pairs, W.new, W.old, W.oldF, W.gen⟩
/-- behind a turn of the generator -/
theorem WalkK.turned {F : Nat → Int × Int} {xs : List Addr} {s1 s2 : Shared} {gs' : GenState} (hfs : frs X.stack = X.env.locals :: X.fs) (Sl : S < L) (la : L < a) (nfS : S ∉ frs X.stack) (hL : L = s0.heap.objs.size)
    (W : WalkK X L S a g1 F m0 row s0.heap s0.os xs s1) (os1 : s2.os = s1.os) (b1 : AllBare s2.gens) (hb : gs'.bare = true) (bs1 : ∀ b o, X.base.get? b = some o → s2.heap.get? b = some o) (fu1 : s2.heap.FunFrames X.base X.stack) (t1 : Turn1 L (frs X.stack) s1.heap s2.heap) :
    WalkK X L S a g1 F m0 row s0.heap s0.os xs (s2.setGen g1 gs') := by
  obtain ⟨m, ⟨o, es, ep, ho, hd, rr⟩, ag⟩ := W.ns
  obtain ⟨sl, e⟩ := t1.oldF X.env.locals o (by rw [hfs]; exact List.mem_cons_self) ho
  obtain ⟨c, hS⟩ := W.list
  obtain ⟨og, nm, qn, hg, hc, hdg, hsg⟩ := W.gen
  refine ⟨os1.trans W.os, allBare_setGen (s := s2) b1 hb, bs1, fu1, ⟨m, ⟨_, es, ep, e, hd, rr⟩, ag⟩, ⟨c, t1.old S _ Sl nfS hS⟩, W.pairs.more t1.pairs, W.new, fun b o nf n e => t1.old b o (by rw [hL]; exact Heap.lt_size e) nf (W.old b o nf n e), fun b o hb' n e => ?_, ⟨og, nm, qn, ?_, hc, hdg, hsg⟩⟩
  · obtain ⟨sl1, e1⟩ := W.oldF b o hb' n e
    obtain ⟨sl2, e2⟩ := t1.oldF b _ hb' e1
    exact ⟨sl2, e2⟩
  · exact t1.same a og la hg ⟨fun es ep q => (by rw [hdg] at q; cases q), by rw [hc]; simp, by rw [hc]; simp, by rw [hc]; simp⟩
/-- behind the target's store -/
theorem WalkK.stored {F : Nat → Int × Int} {xs : List Addr} {s2 : Shared} {h7 : Heap} {n : Nat} {u : Value} {m : Str → Option Value} (hs : X.stack = X.env :: X.outer) (hfr : X.env.frame = some X.env.locals) (hfs : frs X.stack = X.env.locals :: X.fs) (low : ∀ b ∈ frs X.stack, b < L) (nl : X.env.locals ∉ X.fs) (nS : S ≠ X.env.locals)
    (W : WalkK X L S a g1 F m0 row s0.heap s0.os xs s2) (hn : s2.heap.Ns X.env.locals m) (ag : ∀ y, y ≠ row → m y = m0 y) (hn7 : h7.Ns X.env.locals (fun y => if y = row then some u else m y)) (k7 : Heap.SameBut X.env.locals s2.heap h7) : WalkK X L S a g1 F m0 row s0.heap s0.os xs { s2 with heap := h7, toks := n } := by
  have up : ∀ b o, b ≠ X.env.locals → s2.heap.get? b = some o → h7.get? b = some o := fun b o n e => k7.extBut b o n e
  have prs : ∀ y p q, PairIn s2.heap y p q → PairIn h7 y p q := fun y p q e => by
    have n1 : y ≠ X.env.locals := pair_noL hn e
    obtain ⟨its, rv, o, ho, hrest⟩ := e
    exact ⟨its, rv, o, up y o n1 ho, hrest⟩
  have fu : s2.heap.FunFrames X.base (X.env :: X.outer) := hs ▸ W.funs
  obtain ⟨hk, ⟨M, o, hf, hb, ho, hd⟩, hr⟩ := fu
  have hM : M = X.env.locals := by
    rw [hfr] at hf
    exact (Option.some.inj hf).symm
  subst hM
  obtain ⟨o7, es, ep, ho7, hd7, rr7⟩ := id hn7
  obtain ⟨og, nm, qn, hg, hc, hdg, hsg⟩ := W.gen
  obtain ⟨c, hS⟩ := W.list
  have cons : frs X.stack = X.env.locals :: frs X.outer := by
    rw [hs]
    show List.filterMap _ _ = _
    rw [List.filterMap_cons, hfr]
    rfl
  have tl : frs X.outer = X.fs := (List.cons.inj (cons.symm.trans hfs)).2
  refine ⟨W.os, W.bare, fun b o e => up b o (fun z => by rw [z, hb] at e; cases e) (W.bs b o e), ?_, ⟨_, hn7, fun y ny => by rw [if_neg ny]; exact ag y ny⟩, ⟨c, up S _ nS hS⟩, W.pairs.more prs, W.new, fun b o nf n e => up b o (fun z => nf (by rw [z, hfs]; exact List.mem_cons_self)) (W.old b o nf n e), fun b o hb' n e => ?_, ⟨og, nm, qn, up a og (get_neD hg hn (by rw [hdg]; simp)) hg, hc, hdg, hsg⟩⟩
  · rw [hs]
    refine ⟨hk, ⟨_, o7, hfr, hb, ho7, fun vs q => by rw [hd7] at q; cases q⟩, funs_old (L := L) (fun b hb' => low b (by rw [cons]; exact List.mem_cons_of_mem _ hb')) (fun b o hb' e => ⟨o.slots, up b o (fun z => nl (by rw [← tl, ← z]; exact hb')) e⟩) hr⟩
  · obtain ⟨sl, e1⟩ := W.oldF b o hb' n e
    exact ⟨sl, up b _ n e1⟩
/-- behind one more item -/
theorem WalkK.more {F : Nat → Int × Int} {xs : List Addr} {x : Addr} {s3 : Shared} {h9 : Heap} (hfs : frs X.stack = X.env.locals :: X.fs) (low : ∀ b ∈ frs X.stack, b < L) (nfS : S ∉ frs X.stack) (bS : X.base.get? S = none)
    (W : WalkK X L S a g1 F m0 row s0.heap s0.os xs s3) (hx : PairIn s3.heap x (F xs.length).1 (F xs.length).2) (xn : x < L → s0.heap.get? x = none) (h9S : h9.PlainList S ((xs.map Value.ref).toArray.push (.ref x))) (k9 : Heap.SameBut S s3.heap h9) : WalkK X L S a g1 F m0 row s0.heap s0.os (xs ++ [x]) { s3 with heap := h9 } := by
  have up : ∀ b o, b ≠ S → s3.heap.get? b = some o → h9.get? b = some o := fun b o n e => k9.extBut b o n e
  obtain ⟨c, hS⟩ := W.list
  have prs : ∀ y p q, PairIn s3.heap y p q → PairIn h9 y p q := fun y p q e => by
    have n1 : y ≠ S := fun z => by
      rw [z] at e
      exact no_pair_cls hS (by simp) p q e
    obtain ⟨its, rv, o, ho, hrest⟩ := e
    exact ⟨its, rv, o, up y o n1 ho, hrest⟩
  have nL : X.env.locals ≠ S := fun z => nfS (by rw [← z, hfs]; exact List.mem_cons_self)
  obtain ⟨m, ⟨o, es, ep, ho, hd, rr⟩, ag⟩ := W.ns
  obtain ⟨og, nm, qn, hg, hc, hdg, hsg⟩ := W.gen
  refine ⟨W.os, W.bare, fun b o e => up b o (fun z => by rw [z, bS] at e; cases e) (W.bs b o e), ?_, ⟨m, ⟨o, es, ep, up _ _ nL ho, hd, rr⟩, ag⟩, ?_, ?_, fun y hy ly => ?_, fun b o nf n e => up b o n (W.old b o nf n e), fun b o hb n e => ?_, ⟨og, nm, qn, up a og (get_ne hg hS (by rw [hc]; simp)) hg, hc, hdg, hsg⟩⟩
  · exact funs_old low (fun b o hb e => ⟨o.slots, up b o (fun z => nfS (z ▸ hb)) e⟩) W.funs
  · have e3 : ((xs.map Value.ref).toArray.push (.ref x)) = ((xs ++ [x]).map Value.ref).toArray := by simp
    rw [← e3]
    exact h9S
  · exact (W.pairs.more prs).snoc (prs _ _ _ hx)
  · rcases List.mem_append.mp hy with q | q
    · exact W.new y q ly
    · rw [List.mem_singleton.mp q] at ly ⊢
      exact xn ly
  · obtain ⟨sl, e1⟩ := W.oldF b o hb n e
    exact ⟨sl, up b _ (fun z => nfS (z ▸ hb)) e1⟩
theorem walk_some {R : Result → Shared → Prop} {s : Shared} {p1 p2 p3 p4 p5 pb pi pr q1 q2 q3 q4 q5 : Pos} (hs : X.stack = X.env :: X.outer) (hfr : X.env.frame = some X.env.locals) (hfs : frs X.stack = X.env.locals :: X.fs) (nlf : X.env.locals ∉ X.fs) (I0 : Inv X pins σ H s0) (nd : X.N.Nodup) (hSl : H S = some (.lst [])) (irow : X.N[i]? = some row) (krow : X.env.cells.lookup row = none)
    (hm : s0.heap.Ns X.env.locals m0) (hl : ∀ (i : Nat) (x : Str) (v : V), X.N[i]? = some x → σ[i]? = some (some v) → Vis X.env.scope x → ∃ u, RelV v u ∧ Look X.env s0.heap m0 x u) (hL : L = s0.heap.objs.size) (la : L < a)
    (hd : X.A.handled = none) (dep : X.A.depth < recursionLimit) (gl : Gl X "len") (nl : X.mg "len" = none) (kf : X.env.scope.kind = .function) (cls : (X.env.scope.kind == .class || (X.env.scope.kind == .module && X.env.locals != X.env.globals)) = false)
    (ks : X.env.kindOf seen = some .local) (km : X.env.kindOf most = some .local) (kr : X.env.kindOf row = some .local) (n1 : seen ≠ row) (n2 : most ≠ row) (vs : m0 seen = some (.ref S)) (vm : m0 most = some (.int k t))
    (nds : (seen == ("__debug__" : Str)) = false) (ndm : (most == ("__debug__" : Str)) = false) (ndr : (row == ("__debug__" : Str)) = false) (k9 : k ≤ 900)
    (he : starEach [.Name seen p2] X.env = (false, eval (.Name seen p2) X.env) :: starEach [] X.env) (hb : attributeBase (.Name seen q1) "append" X.env (eval (.Name seen q1) X.env) = eval (.Name seen q1) X.env) (he2 : starEach [.Name row q3] X.env = [(false, eval (.Name row q3) X.env)])
    (few : ((backTo q4 (starEach [.Name row q3] X.env)).all (fun y => !y.1) && (backToKw q4 (keywordEach [] X.env)).all (fun y => y.1.isSome) && decide ([Expr.Name row q3].length + ([] : List Keyword).length + (if ([] : List Keyword).isEmpty then 0 else 1) < 30)) = true)
    (line : (q2.endLine == q4.line) = true) (hi : interactive X.env = false) (hw : swapsWith (.Call (.Attribute (.Name seen q1) "append" q2) [.Name row q3] [] q4) none q5.line X.env = pure false)
    (W0 : WalkK X L S a g1 (cfF r v) m0 row s0.heap s0.os [] s) (go0 : ∃ gs, s.gens[g1]? = some gs ∧ gs.Goes (model X.prog X.w) X.A.in1 (ROuter X.base X.stack L) (YOuter X.base X.stack L g1 (cfF r v) false (k + 1)) (k + 2) (.send .none) (s.setGen g1 .running))
    (fin : ∀ s' xs, xs.length = k → WalkK X L S a g1 (cfF r v) m0 row s0.heap s0.os xs s' → R (.ok .next) s') :
    codeAny (model X.prog X.w) X.A (.forLoop (.Name row pr) (.ref a) [.If (.Compare (.Call (.Name "len" p1) [.Name seen p2] [] p3) [.GtE] [.Name most p4] p5) [.Break pb] [] pi, .Expr (.Call (.Attribute (.Name seen q1) "append" q2) [.Name row q3] [] q4) q5] [] X.env) R s := by
  have Sl : S < L := by
    obtain ⟨o, ho⟩ := objok_there (I0.hok S _ hSl)
    rw [hL]
    exact Heap.lt_size ho
  have nfS : S ∉ frs X.stack := fun hb => by
    rw [I0.stkFree S hb] at hSl
    cases hSl
  have nSL : S ≠ X.env.locals := fun z => nfS (by rw [z, hfs]; exact List.mem_cons_self)
  have bS : X.base.get? S = none := by
    cases q : X.base.get? S with
    | none => rfl
    | some o =>
      have := (I0.bs S o q).2
      rw [hSl] at this
      cases this
  have low : ∀ b ∈ frs X.stack, b < L := fun b hb => by
    obtain ⟨_, o, ho, _⟩ := I0.stack.mem hb
    rw [hL]
    exact Heap.lt_size ho
  refine codeAny_forLoop_any (fun n s' => ∃ (j : Nat) (xs : List Addr), n = j + 1 ∧ xs.length + j = k ∧ WalkK X L S a g1 (cfF r v) m0 row s0.heap s0.os xs s' ∧ ∃ gs, s'.gens[g1]? = some gs ∧ gs.Goes (model X.prog X.w) X.A.in1 (ROuter X.base X.stack L) (YOuter X.base X.stack L g1 (cfF r v) false (k + 1)) (j + 2) (.send .none) (s'.setGen g1 .running)) ?_ (k + 1) ⟨k, [], rfl, Nat.zero_add _, W0, go0⟩
  rintro n s1 ⟨j, xs, rfl, hj, W, gs, hgs, go⟩
  have hgl : g1 < s1.gens.size := (Array.getElem?_eq_some_iff.mp hgs).1
  refine GenW.wpAny_gsz (n := g1 + 1) hgl (next_genG hd (I0.mod.nolimit.keeps W.bs) dep W.gen hgs go (fun u s2 gs' hbr hv => ?_) (fun s2 hp h' hk => ?_) fun e s2 he => he.elim)
  · intro hsz
    obtain ⟨_, os1, b1, bs1, fu1, t1, ⟨x, rfl, xn, xp⟩, nxt⟩ := hv
    have t1 : Turn1 L (frs X.stack) s1.heap s2.heap := t1
    have W2 := W.turned (gs' := gs') hfs Sl la nfS hL os1 b1 hbr bs1 fu1 t1
    have xp : PairIn s2.heap x (cfF r v xs.length).1 (cfF r v xs.length).2 := by
      rw [show xs.length = k + 1 - (j + 2 - 1) by omega]
      exact xp
    have xn : s1.heap.get? x = none := xn
    have gsz : g1 < s2.gens.size := by
      have q : (s2.setGen g1 gs').gens.size = s2.gens.size := GenW.setGen_size _ _ _
      have hsz' : g1 + 1 ≤ (s2.setGen g1 gs').gens.size := hsz
      omega
    obtain ⟨m, hn, ag⟩ := W2.ns
    dsimp only
    show wpAny _ _ (pure ()) _ _ _
    refine wpAny_pure (wpAny_assign_Name (wpAny_storeName_local (env := X.env) kr hn (fun h7 hn7 k7 => ?_) cls))
    have k7 : Heap.SameBut X.env.locals s2.heap h7 := k7
    have W3 := W2.stored (n := (s2.setGen g1 gs').toks + 1) hs hfr hfs low nlf nSL hn ag hn7 k7
    have xp7 : PairIn h7 x (cfF r v xs.length).1 (cfF r v xs.length).2 := by
      have n1 : x ≠ X.env.locals := pair_noL hn xp
      obtain ⟨its, rv, o, ho, hrest⟩ := xp
      exact ⟨its, rv, o, k7.extBut x o n1 ho, hrest⟩
    have I3 := inv_of_walk hs hfs I0 nd hSl (by omega) irow krow hm hl hL W3
    have sz : (xs.map Value.ref).toArray.size = xs.length := by simp
    refine wpAny_execs_cons (wpAny_If (full_test I3 gl nl kf ks km hn7 (by rw [if_neg n1]; exact (ag _ n1).trans vs) (by rw [if_neg n2]; exact (ag _ n2).trans vm) nds ndm W3.list (by rw [sz]; omega) he ?_))
    rw [sz]
    by_cases hk : (k : Int) ≤ (xs.length : Int)
    · rw [decide_eq_true hk, if_pos rfl]
      refine wpAny_execs_cons (wpAny_Break ?_)
      exact fin _ xs (by omega) W3.toks
    · rw [decide_eq_false hk, if_neg (by decide)]
      refine wpAny_execs_nil ?_
      obtain ⟨j', rfl⟩ : ∃ j', j = j' + 1 := ⟨j - 1, by omega⟩
      refine wpAny_execs_cons (one_more kf ks kr hn7 (by rw [if_neg n1]; exact (ag _ n1).trans vs) (by rw [if_pos rfl]) nds ndr W3.list (by rw [sz]; exact Nat.le_of_lt (small1000 (by omega))) hb he2 few line hi hw fun h9 h9S k9 => wpAny_execs_nil ?_)
      have k9 : Heap.SameBut S h7 h9 := k9
      have x0 : x < L → s0.heap.get? x = none := fun _ => by
        cases e : s0.heap.get? x with
        | none => rfl
        | some o =>
          exfalso
          by_cases f : x ∈ frs X.stack
          · by_cases z : x = X.env.locals
            · obtain ⟨_, ⟨o', _, _, ho', _⟩, _⟩ := W.ns
              rw [← z, xn] at ho'
              cases ho'
            · obtain ⟨sl, e1⟩ := W.oldF x o f z e
              rw [xn] at e1
              cases e1
          · by_cases z : x = S
            · obtain ⟨c, hS⟩ := W.list
              rw [← z, xn] at hS
              cases hS
            · have e1 := W.old x o f z e
              rw [xn] at e1
              cases e1
      have W5 := (W3.toks (n := s2.toks + 1 + 1 + 1)).more hfs low nfS bS xp7 x0 h9S k9
      have lL : X.env.locals < L := low _ (by rw [hfs]; exact List.mem_cons_self)
      refine ⟨j' + 1, by omega, j', xs ++ [x], rfl, by rw [List.length_append]; show xs.length + 1 + j' = k; omega, W5, gs', setGen_at gsz, ?_⟩
      refine (nxt _ ⟨allBare_setGen W5.bare rfl, fun g ng l => ?_, fun b o l e _ => k9.extBut b o (Nat.ne_of_gt (Nat.lt_of_lt_of_le Sl l)) (k7.extBut b o (Nat.ne_of_gt (Nat.lt_of_lt_of_le lL l)) e), fun y p q e => ?_, W5.bs, W5.funs⟩).resolve_left fun z => by have := z.2; omega
      · show ((s2.gens.setIfInBounds g1 gs').setIfInBounds g1 .running)[g]? = s2.gens[g]?
        rw [Array.getElem?_setIfInBounds_ne (Ne.symm ng), Array.getElem?_setIfInBounds_ne (Ne.symm ng)]
      · have ny : y ≠ X.env.locals := pair_noL hn e
        obtain ⟨c, hS⟩ := W3.list
        obtain ⟨its, rv, o, ho, hrest⟩ := e
        have e7 : PairIn h7 y p q := ⟨its, rv, o, k7.extBut y o ny ho, hrest⟩
        have nyS : y ≠ S := fun z => by
          rw [z] at e7
          exact no_pair_cls hS (by simp) p q e7
        obtain ⟨its, rv, o, ho, hrest⟩ := e7
        exact ⟨its, rv, o, k9.extBut y o nyS ho, hrest⟩
  · have := hp.1
    omega
end
/-! ### the rule for that loop -/
section
variable {X : Cx}
def tForF (ks : List Str) (gV : List V → List V → List V) (is im ir : Nat) (tk : TA) : TS := fun D σ H => tk σ H fun zs H1 => zs.length = ks.length ∧ ∃ (r v : Int) (rc k : Nat) (S : Addr), gV [] zs = [.int r, .int rc] ∧ 2 ≤ r ∧ r ≤ 99 ∧ isW r v ∧ k + 1 ≤ rc ∧ rc < 2 ^ 62 ∧ k ≤ 900 ∧
  σ[is]? = some (some (.ref S)) ∧ σ[im]? = some (some (.int k)) ∧ H1 S = some (.lst []) ∧
  ∀ xs H', xs.length = k → H' S = some (.lst (xs.map V.ref)) → Rows H' (cfF r v) xs → (∀ b u, H1 b = some u → b ≠ S → H' b = some u) → D.nx (σ.set ir none) H'
theorem local_look {h : Heap} {m : Str → Option Value} {x : Str} {u : Value} (k : X.env.kindOf x = some .local) (l : Look X.env h m x u) : m x = some u := by
  rcases l with ⟨_, z⟩ | ⟨q, _⟩
  · exact z
  · exfalso
    rcases q with e | e <;> (rw [k] at e; cases e)
theorem ps_forF {P : Program} {w : World} {K : PySem.W.Frag} {mg : Str → Option Value} {base : Heap} (T : Txt K mg) (hP : X.prog = P) (hw : X.w = w) (hK : X.K = K) (hmg : X.mg = mg) (hB : X.base = base) {seen most row : Str} {is im ir : Nat} {ks : List Str} {kws : List Keyword} {tk : TA} {g : List Value → List Value → List Value} {gV : List V → List V → List V}
    {p1 p2 p3 p4 p5 pb pi pr q1 q2 q3 q4 q5 pf pos' pos : Pos} (hr : Room 11 X.A) (gf : Gl X "fractions") (hb : KBn X.K T.d_fractions ["root", "count"] 0 ks g gV) (hkw : PK X kws tk)
    (hall : (backToKw pos' (keywordEach kws X.env)).all (·.1.isSome) = true) (hks : (backToKw pos' (keywordEach kws X.env)).filterMap (·.1) = ks) (hpl : ((backTo pos' (starEach [] X.env)).any (·.1) || (backToKw pos' (keywordEach kws X.env)).any (·.1.isNone)) = false)
    (hst : X.stack = X.env :: X.outer) (hfr : X.env.frame = some X.env.locals) (hfs : frs X.stack = X.env.locals :: X.fs) (nd : X.N.Nodup) (i1 : X.N[is]? = some seen) (i2 : X.N[im]? = some most) (i3 : X.N[ir]? = some row) (krow : X.env.cells.lookup row = none)
    (gl : Gl X "len") (nl : X.mg "len" = none) (kf : X.env.scope.kind = .function) (cls : (X.env.scope.kind == .class || (X.env.scope.kind == .module && X.env.locals != X.env.globals)) = false)
    (k1 : X.env.kindOf seen = some .local) (k2 : X.env.kindOf most = some .local) (k3 : X.env.kindOf row = some .local) (v1 : Vis X.env.scope seen) (v2 : Vis X.env.scope most) (n1 : seen ≠ row) (n2 : most ≠ row)
    (nds : (seen == ("__debug__" : Str)) = false) (ndm : (most == ("__debug__" : Str)) = false) (ndr : (row == ("__debug__" : Str)) = false)
    (he : starEach [.Name seen p2] X.env = (false, eval (.Name seen p2) X.env) :: starEach [] X.env) (hab : attributeBase (.Name seen q1) "append" X.env (eval (.Name seen q1) X.env) = eval (.Name seen q1) X.env) (he2 : starEach [.Name row q3] X.env = [(false, eval (.Name row q3) X.env)])
    (few : ((backTo q4 (starEach [.Name row q3] X.env)).all (fun y => !y.1) && (backToKw q4 (keywordEach [] X.env)).all (fun y => y.1.isSome) && decide ([Expr.Name row q3].length + ([] : List Keyword).length + (if ([] : List Keyword).isEmpty then 0 else 1) < 30)) = true)
    (line : (q2.endLine == q4.line) = true) (hi : interactive X.env = false) (hsw : swapsWith (.Call (.Attribute (.Name seen q1) "append" q2) [.Name row q3] [] q4) none q5.line X.env = pure false)
    (hfold : ∀ x, foldedSetIterable (.Call (.Name "fractions" pf) [] kws pos') X.env x = pure x) :
    PS X (.For (.Name row pr) (.Call (.Name "fractions" pf) [] kws pos') [.If (.Compare (.Call (.Name "len" p1) [.Name seen p2] [] p3) [.GtE] [.Name most p4] p5) [.Break pb] [] pi, .Expr (.Call (.Attribute (.Name seen q1) "append" q2) [.Name row q3] [] q4) q5] [] pos) (tForF ks gV is im ir tk) := by
  subst hP hw hK hmg hB
  refine ⟨fun pins s σ H D I hq => ?_⟩
  refine wpAny_For ?_ hfold
  refine wpAny_Call_Name_kw (ld_glob I gf T.g_fractions (PySem.W.callWith_KW0 (h₀ := X.base) I.ok.mod.kin T.F_fractions.kp hall (thn (hkw.run pos' pins s σ H _ I hq) fun ws s1 ⟨zs, H1, I1, rz, lz, q⟩ => ⟨I1.kIn, ?_⟩) hpl) (by decide))
  rw [hks]
  obtain ⟨r, v, rc, k, S, gz, r2, r99, hw, krc, h62, k9, hs1, hs2, hS, q⟩ := q
  have rv : Vals [.int r, .int rc] (g [] ws) := gz ▸ hb.rel .nil rz
  refine wpAny_call (gen_madeB (vs := [.int r, .int rc]) T.F_fractions sc_fractions (by decide +kernel) (by have := hr.dp; omega) I1.kIn I1.nolimit (hb.to s1 [] ws I1.kIn rfl (rz.length.symm.trans lz)) rv rfl fun cd a h' tk' la ga kk hl => ?_)
  refine wpAny_pyIter_gen (s := { s1 with gens := _, heap := h', toks := tk' }) ga ?_
  obtain ⟨m0, hm, hlk⟩ := id I1.loc
  have e1 : m0 seen = some (.ref S) := by
    obtain ⟨u, ru, lu⟩ := hlk is seen _ i1 hs1 v1
    rw [local_look k1 lu, show u = Value.ref S from ru]
  obtain ⟨t, e2⟩ : ∃ t, m0 most = some (.int k t) := by
    obtain ⟨u, ru, lu⟩ := hlk im most _ i2 hs2 v2
    obtain ⟨t, rfl⟩ := ru
    exact ⟨t, local_look k2 lu⟩
  have nlf : X.env.locals ∉ X.fs := fun hb => by
    obtain ⟨_, o, ho, _⟩ := I1.ok.funs.mem hb
    exact absurd (Heap.lt_size ho) (Nat.not_lt.mpr I1.ok.above)
  have low : ∀ b ∈ frs X.stack, b < s1.heap.objs.size := fun b hb => by
    obtain ⟨_, o, ho, _⟩ := I1.stack.mem hb
    exact Heap.lt_size ho
  have fu : h'.FunFrames X.base X.stack := funs_old low (fun b o _ e => ⟨o.slots, kk b o e⟩) I1.stack
  have bare : AllBare (s1.gens.push (.fresh (.func (defBody s_fractions) (envF s1.heap.objs.size T.f_fractions cd)))) := AllBare.push I1.bare rfl
  obtain ⟨_, us, c, rvs, eS⟩ := I1.hok S _ hS
  cases rvs
  have W0 : WalkK X s1.heap.objs.size S a s1.gens.size (cfF r v) m0 row s1.heap s1.os [] { s1 with gens := s1.gens.push (.fresh (.func (defBody s_fractions) (envF s1.heap.objs.size T.f_fractions cd))), heap := h', toks := tk' } :=
    ⟨rfl, bare, fun b o e => kk b o (I1.bk b o e), fu, ⟨m0, hm.keeps kk, fun _ _ => rfl⟩, ⟨c, kk _ _ eS⟩, fun i x e => (by simp at e), (fun x hx => nomatch hx), fun b o _ _ e => kk b o e, fun b o _ _ e => ⟨o.slots, kk b o e⟩, ga⟩
  refine walk_some hst hfr hfs nlf I1 nd hS i3 krow hm hlk rfl la hr.hd (by have := hr.dp; omega) gl nl kf cls k1 k2 k3 n1 n2 e1 e2 nds ndm ndr k9 he hab he2 few line hi hsw W0 ⟨_, Array.getElem?_push_size .., rfl, ?_⟩ fun s' xs hx W => ?_
  · refine fresh_f (A1 := X.A.in1) (outer := X.stack) (rc := rc) (full := false) T I1.ok.mod ?_ hr.hd (by have := hr.dp; show X.A.depth + 1 < _; omega) I1.ok.frames r2 r99 hw (by omega) h62 krc (fun z => nomatch z) (fun _ => Nat.succ_pos _) _ ⟨allBare_setGen (s := { s1 with gens := s1.gens.push (.fresh (.func (defBody s_fractions) (envF s1.heap.objs.size T.f_fractions cd))), heap := h', toks := tk' }) bare rfl, fun b o e => kk b o (I1.bk b o e), Nat.le_trans I1.ok.bsz I1.sz, fu, low, fun p hp => nomatch hp⟩ hl ?_
    · exact ((show Room 10 X.A.in1 from Room.in1 hr).deeper _).mono (by decide)
    · show s1.gens.size < ((s1.gens.push _).setIfInBounds _ _).size
      rw [Array.size_setIfInBounds, Array.size_push]
      exact Nat.lt_succ_self _
  · have nx : ∀ {b : Addr} {u : HO}, H1 b = some u → b ∉ xs := fun {b u} e hb => by
      obtain ⟨o, ho⟩ := objok_there (I1.hok b u e)
      have z := W.new b hb (Heap.lt_size ho)
      rw [ho] at z
      cases z
    refine ⟨σ.set ir none, filled H1 S xs (cfF r v), inv_of_walk hst hfs I1 nd hS (by omega) i3 krow hm hlk rfl W, q xs _ hx (if_pos rfl) (fun j x e => ?_) fun b u e n => ?_⟩
    · have hm := List.mem_of_getElem? e
      have nS : x ≠ S := fun z => nx hS (z ▸ hm)
      unfold filled
      rw [if_neg nS]
      cases q2 : xs.idxOf? x with
      | none => exact absurd hm (idx_none q2)
      | some j' =>
        obtain ⟨a1, a2⟩ := pair_inj (W.pairs j' x (idx_some q2)) (W.pairs j x e)
        dsimp only
        rw [a1, a2]
    · unfold filled
      rw [if_neg n]
      cases q2 : xs.idxOf? b with
      | none => exact e
      | some j' => exact absurd (List.mem_of_getElem? (idx_some q2)) (nx e)
end
/-! ### a generator that raises in its first turn -/
section
variable {base : Heap} {K : PySem.W.Frag} {mg : Str → Option Value} {w : World} {outer : List Env} {L f : Addr} {cd : Value} {A1 : Around} {r : Int}
/-- the context of a generator's body that may raise -/
def gcxE (P : Program) (w : World) (K : PySem.W.Frag) (mg : Str → Option Value) (base : Heap) (N : List Str) (env : Env) (A : Around) (outer : List Env) (s : Shared) (T : List (Addr × Int × Int)) (E : XK) : Cx :=
  { gcx P w K mg base N env A outer s T with xe := fun e s' => wpAny (model P w) (A.deeper env) (leaving env e) (fun _ s'' => L2.CX P w outer (gcx P w K mg base N env A outer s T).H_0 (gcx P w K mg base N env A outer s T).s_0 E e s'') (fun _ _ => False) s' }
theorem inv_E {P : Program} {N : List Str} {env : Env} {A : Around} {s s' : Shared} {TT : List (Addr × Int × Int)} {E : XK} {pins : List (Addr × Obj)} {σ : L2.St} {H : Hp} (I : Inv (gcx P w K mg base N env A outer s TT) pins σ H s') : Inv (gcxE P w K mg base N env A outer s TT E) pins σ H s' := by
  have ok : (gcxE P w K mg base N env A outer s TT E).Ok := by
    cases I.ok
    constructor <;> assumption
  exact ⟨ok, I.os, I.bare, I.base, I.loc, I.cell, I.free, I.freeC, I.pin, I.hok, I.len⟩
/-- what the error is -/
def badE (T : Txt K mg) (n : Int) (H0 : Hp) : XK := fun cls d H' => cls = .ref T.e_BadCount.C ∧ ∃ x, d = some x ∧ H0 x = none ∧ Same H0 H' ∧ H' x = some (.xd (badCount (.int n)))
def RBad (P : Program) (w : World) (outer : List Env) (H0 : Hp) (s0 : Shared) (E : XK) : GenEnd := fun _ _ res s1 => ((res = .ok (.ret .none) ∨ res = .ok .next) ∧ False) ∨ ∃ e, res = .error e ∧ L2.CX P w outer H0 s0 E e s1
theorem fresh_bad {P : Program} (hP : P = PySem.Challenge.pw_grainyard_k06_fractions_one_by_one) (T : Txt K mg) (M : Mod K mg base) (hr : Room 7 (A1.deeper (envF L f cd))) (hd : A1.handled = none) (fr : A1.frames = some outer) {n : Int} (neg : n < 0) {Y : Protocol} {N : Nat}
    (s : Shared) (W : WakeOk K mg base (envF L f cd) outer [] s) (hl : LocIs (envF L f cd) nmF s.heap [some (.int r), some (.int n), none, none]) :
    Seg (model P w) A1 (RBad P w outer (gcx P w K mg base nmF (envF L f cd) A1 outer s []).H_0 (gcx P w K mg base nmF (envF L f cd) A1 outer s []).s_0 (badE T n (wokenH L s.heap []))) Y N s (.func (defBody s_fractions) (envF L f cd)) ((model P w).den (.func (defBody s_fractions) (envF L f cd))) [] s := by
  subst hP
  have E := genv_f L f cd
  have I := inv_E (E := badE T n (wokenH L s.heap [])) (awake (P := PySem.Challenge.pw_grainyard_k06_fractions_one_by_one) (w := w) (A := A1) E M hd fr W hl)
  refine seg_func (seg_cons_at body_f (seg_wrap ?_))
  rw [GenW.over_func]
  refine wpAny_mono ((show PS (gcxE PySem.Challenge.pw_grainyard_k06_fractions_one_by_one w K mg base nmF (envF L f cd) A1 outer s [] (badE T n (wokenH L s.heap []))) (nthS (defBody s_fractions) 0) _ from
    (ps_if (pt_cmpR op_lt (pv 1) pe_int (nomark _)) (pss_one (ps_raise rfl (takes_of rfl rfl rfl rfl) (pmk_oex (oex_of T.e_BadCount) T.e_BadCount.iC T.e_BadCount.tI (ini_BadCount T) (hr.mono (by decide)) (bi_BadCount T) .nil pass0 (by rfl) T.e_BadCount.g (pa_cons (pv 1) pa_nil)))) pss_nil)).run [] s _ _ { nx := fun _ _ => False, rt := fun _ _ => False } I ?_) ?_ ?_
  · refine ⟨_, rfl, _, _, rfl, rfl, _, rfl, ite2 (fun _ => ⟨_, rfl, mk_use rfl (by decide) fun x Hf hx s1 f1 => ⟨rfl, x, rfl, hx, s1, f1⟩⟩) (fun e => absurd (decide_eq_true neg) e)⟩
  · intro fl s1 hs
    match fl, hs with
    | .ret _, h => obtain ⟨_, _, _, _, _, q⟩ := h; exact q.elim
    | .brk, h => obtain ⟨_, _, _, q⟩ := h; exact q.elim
    | .cont, h => obtain ⟨_, _, _, q⟩ := h; exact q.elim
    | .next, h => obtain ⟨_, _, _, q⟩ := h; exact q.elim
  · intro e s1 he
    refine seg_wrap ?_
    rw [GenW.over_func]
    exact wpAny_mono he (fun _ s2 c => seg_end (.error e) (.inr ⟨e, rfl, c⟩)) fun _ _ z => z.elim
end
/-! ### list(fractions(root, count)) with a count below nothing -/
section
variable {K : PySem.W.Frag} {mg : Str → Option Value} {w : World}
theorem no_stop (T : Txt K mg) {n : Int} {H0 : Hp} : NoStop K (badE T n H0) := by
  rintro cls d H ⟨rfl, _⟩
  show PySem.W.mroIn K T.e_BadCount.C (.type "StopIteration") = _
  obtain ⟨cd, hc, _, hm⟩ := T.e_BadCount.cl
  unfold PySem.W.mroIn
  rw [hc, Option.bind_some, hm]
  show some ((Value.ref T.e_BadCount.C :: ([Value.ref T.r_GrainError] ++ _)).contains (.type "StopIteration")) = some false
  congr 1
end
section
variable {X : Cx}
def tListBad (C : Addr) (E : XK) (ta : TA) : TE := fun σ H Q => ta σ H fun vs H1 => ∃ r n : Int, vs = [.int r, .int n] ∧ n < 0 ∧ Throws C (badCount (.int n)) H1 E
theorem pe_listBad {K : PySem.W.Frag} {mg : Str → Option Value} {base : Heap} (T : Txt K mg) (hP : X.prog = PySem.Challenge.pw_grainyard_k06_fractions_one_by_one) (hK : X.K = K) (hmg : X.mg = mg) (hB : X.base = base) {pl pf pos pos' : Pos} {e1 e2 : Expr} {ta : TA} {E : XK} (hr : Room 11 X.A) (gl : Gl X "list") (gf : Gl X "fractions") (nl : mg "list" = none) (ha : PA X [e1, e2] ta) (hx : Passes (L2.CX X.prog X.w) X E)
    (hst : starEach [e1, e2] X.env = (false, eval e1 X.env) :: starEach [e2] X.env := by rfl) (hpl : (backTo pos' (starEach [e2] X.env)).any (·.1) = false := by rfl)
    (hs1 : starEach [.Call (.Name "fractions" pf) [e1, e2] [] pos'] X.env = (false, eval (.Call (.Name "fractions" pf) [e1, e2] [] pos') X.env) :: starEach [] X.env := by rfl) :
    PE X (.Call (.Name "list" pl) [.Call (.Name "fractions" pf) [e1, e2] [] pos'] [] pos) (tListBad T.e_BadCount.C E ta) := by
  subst hK hmg hB
  refine ⟨fun pins s σ H Q I hq => ?_⟩
  refine wpAny_Call_Name_kw (ld_blt I gl nl (by decide +kernel : bootBuiltins "list" = some (.type "list")) (PyProof.Rows.callWith_type1 ?_ hs1 rfl) (by decide) (by decide))
  rw [hs1]
  show wpAny _ _ (spliced [(false, eval (.Call (.Name "fractions" pf) [e1, e2] [] pos') X.env)]) _ _ s
  refine Calls.spliced_cons (wpAny_Call_Name_kw (ld_glob I gf T.g_fractions (PySem.W.callWith_K (h₀ := X.base) I.ok.mod.kin T.F_fractions.kp (thn (ha.run pos' pins s σ H _ I hq) fun us s1 ⟨vs, H1, I1, rv, q⟩ => ⟨I1.kIn, ?_⟩) hst hpl) (by decide)))
  obtain ⟨r, n, rfl, neg, thr⟩ := q
  refine wpAny_call (gen_made (vs := [.int r, .int n]) T.F_fractions sc_fractions (by decide +kernel) (by have := hr.dp; omega) I1.kIn I1.nolimit T.b_fractions rv rfl fun cd a h' tk la ga k hl => ?_)
  refine Calls.spliced_nil ?_
  have low : ∀ b ∈ frs X.stack, b < s1.heap.objs.size := fun b hb => by
    obtain ⟨_, o, ho, _⟩ := I1.stack.mem hb
    exact Heap.lt_size ho
  have bare : AllBare (s1.gens.push (.fresh (.func (defBody s_fractions) (envF s1.heap.objs.size T.f_fractions cd)))) := AllBare.push I1.bare rfl
  refine list_pre (g1 := s1.gens.size) ga fun S h4 c4 hSS S4 k4 => ?_
  have ga4 : h4.IsGen a s1.gens.size := by
    obtain ⟨o, nm, qn, ho, rest⟩ := ga
    exact ⟨o, nm, qn, k4 _ _ ho, rest⟩
  have k14 : ∀ b o, s1.heap.get? b = some o → h4.get? b = some o := fun b o e => k4 b o (k b o e)
  have bs4 : ∀ b o, X.base.get? b = some o → h4.get? b = some o := fun b o e => k14 b o (I1.bk b o e)
  have fu4 : h4.FunFrames X.base X.stack := funs_old low (fun b o _ e => ⟨o.slots, k14 b o e⟩) I1.stack
  have hl4 : LocIs (envF s1.heap.objs.size T.f_fractions cd) nmF h4 [some (.int r), some (.int n), none, none] := by
    obtain ⟨len, m, hm, look⟩ := hl
    exact ⟨len, m, hm.keeps k4, look⟩
  have lL4 : s1.heap.objs.size ≤ h4.objs.size := by
    obtain ⟨o, _, _, ho, _⟩ := ga4
    exact Nat.le_of_lt (Nat.lt_trans la (Heap.lt_size ho))
  refine codeAny_builtin F.entry_extend_loop ?_
  rw [Around.under_plainId F.plain_extend_loop _]
  show wpAny _ X.A.in1.in1 (pyNext (.ref a) >>= _) _ _ _
  obtain ⟨st0, hst0⟩ : ∃ st0 : Shared, st0 = ({ s1 with gens := s1.gens.push (.fresh (.func (defBody s_fractions) (envF s1.heap.objs.size T.f_fractions cd))), heap := h4, toks := tk } : Shared).setGen s1.gens.size .running := ⟨_, rfl⟩
  have hh4 : st0.heap = h4 := by rw [hst0]; rfl
  have bare0 : AllBare st0.gens := by
    rw [hst0]
    exact allBare_setGen (s := { s1 with gens := s1.gens.push (.fresh (.func (defBody s_fractions) (envF s1.heap.objs.size T.f_fractions cd))), heap := h4, toks := tk }) bare rfl
  refine wpAny_bind (next_genG (s := { s1 with gens := s1.gens.push (.fresh (.func (defBody s_fractions) (envF s1.heap.objs.size T.f_fractions cd))), heap := h4, toks := tk }) (A := X.A.in1.in1) (n := 1) (F := fun _ _ _ => False) (Er := fun e s2 => L2.CX X.prog X.w X.stack (gcx X.prog X.w X.K X.mg X.base nmF (envF s1.heap.objs.size T.f_fractions cd) X.A.in1.in1.in1 X.stack st0 []).H_0 (gcx X.prog X.w X.K X.mg X.base nmF (envF s1.heap.objs.size T.f_fractions cd) X.A.in1.in1.in1 X.stack st0 []).s_0 (badE T n (wokenH s1.heap.objs.size st0.heap [])) e s2) (Y := fun _ _ _ _ _ => False) hr.hd (I1.ok.mod.nolimit.keeps bs4) (by have := hr.dp; show X.A.depth < _; omega) ga4 (Array.getElem?_push_size ..) ⟨rfl, ?_⟩ (fun u s2 gs' _ hv => hv.elim) (fun s2 hp _ _ => hp.elim) fun e s2 he => ?_)
  · rw [← hst0]
    refine fresh_bad (A1 := X.A.in1.in1.in1) (outer := X.stack) hP T I1.ok.mod ?_ hr.hd I1.ok.frames neg _ ⟨bare0, by rw [hh4]; exact bs4, Nat.le_trans I1.ok.bsz I1.sz, by rw [hh4]; exact fu4, low, fun p hp => nomatch hp⟩ (by rw [hh4]; exact hl4)
    exact ((show Room 10 X.A.in1 from Room.in1 hr).in1).in1.deeper _
  · have os0 : st0.os = s1.os := by rw [hst0]; rfl
    have he0 := he
    obtain ⟨ea, B, H', cls, d, rfl, fl, hok, ub, na, os, ag, rfl, x, rfl, hx0, sameH, hxd⟩ := he
    have low' : ∀ b o, s1.heap.get? b = some o → (gcx X.prog X.w X.K X.mg X.base nmF (envF s1.heap.objs.size T.f_fractions cd) X.A.in1.in1.in1 X.stack st0 []).s_0.heap.get? b = some o := fun b o e => by
      show (cutH st0.heap s1.heap.objs.size).get? b = some o
      rw [cut_low (Heap.lt_size e), hh4]
      exact k14 b o e
    have none0 : ∀ b o, s1.heap.get? b = some o → (gcx X.prog X.w X.K X.mg X.base nmF (envF s1.heap.objs.size T.f_fractions cd) X.A.in1.in1.in1 X.stack st0 []).H_0 b = none := fun b o e => by
      show (if b < s1.heap.objs.size then wokenH s1.heap.objs.size st0.heap [] b else none) = none
      have l := Heap.lt_size e
      rw [if_pos l]
      unfold wokenH
      rw [hh4, k14 b o e]
      show (if s1.heap.objs.size < b then _ else none) = none
      rw [if_neg (Nat.not_lt.mpr (Nat.le_of_lt l))]
    have keepB : ∀ b o, s1.heap.get? b = some o → b ∉ frs X.stack → B.get? b = some o := fun b o e nf => ub.keep b o (low' b o e) (none0 b o e) nf
    have kin : X.K.In s2.heap := I1.ok.mod.kin.keeps fun b o e => fl.1 b o (keepB b o (I1.bk b o e) fun hb => by
      rw [(I1.stack.mem hb).1] at e
      cases e)
    have st := notStop_of (no_stop T) kin he0
    have newx : ∀ o, s1.heap.get? x = some o → False := fun o e => by
      have := ub.free x o (low' x o e) (none0 x o e)
      rw [hxd] at this
      cases this
    have trk : ∀ {b : Addr} {u : HO}, H1 b = some u → b ∉ frs X.stack := fun {b u} e hb => by
      rw [I1.stkFree b hb] at e
      cases e
    have H1x : H1 x = none := by
      cases e : H1 x with
      | none => rfl
      | some u =>
        obtain ⟨o, ho⟩ := objok_there (I1.hok x u e)
        exact (newx o ho).elim
    have up : Same H1 (upd H1 x (.xd (badCount (.int n)))) := same_new H1x
    have nex : ea ≠ x := fun z => by
      obtain ⟨o, ho⟩ := objok_there (hok x _ hxd)
      rw [← z, fl.2.1] at ho
      cases ho
    have na1 : H1 ea = none := by
      cases e : H1 ea with
      | none => rfl
      | some u =>
        obtain ⟨o, ho⟩ := objok_there (I1.hok ea u e)
        have := keepB ea o ho (trk e)
        rw [fl.2.1] at this
        cases this
    refine ⟨?_, st, hx pins σ H1 s1 (.ref ea) _ I1 ⟨ea, B, upd H1 x (.xd (badCount (.int n))), _, _, rfl, fl, fun b u e => ?_, ⟨fun b o e _ nf => keepB b o e nf, fun b o e hb => ub.slot b o (low' b o e) hb, fun b o e nn => (upd_ne (fun z => newx o (by rw [← z]; exact e))).trans nn, fun b o e nf => ⟨o, keepB b o e nf⟩, fun b ys e => up _ _ e, fun b o u e => up _ _ e, fun b ps e => ⟨#[], by rw [up _ _ e]; simp⟩⟩, (upd_ne nex).trans na1, os.trans os0, allBare_setGen (s := s2) ag rfl, thr x _ H1x up upd_same⟩⟩
    · obtain ⟨o, nm, qn, ho, rest⟩ := ga4
      have e0 : wokenH s1.heap.objs.size st0.heap [] a = some (.ext fun h' => h'.get? a = some o) := by
        unfold wokenH
        rw [hh4, ho]
        show (if s1.heap.objs.size < a then _ else none) = _
        rw [if_pos la]
      have oka := hok a _ (sameH a _ e0)
      exact ⟨o, nm, qn, fl.1 a o oka.1, rest⟩
    · by_cases z : b = x
      · subst z
        rw [upd_same] at e
        cases e
        exact hok b _ hxd
      · rw [upd_ne z] at e
        refine (I1.hok b u e).stay (fun c o hc eo => keepB c o eo ?_) (fun c eo => up _ _ eo) fun c ys eo => up _ _ eo
        rcases hc with rfl | hc
        · exact trk e
        · exact trk hc
end
/-! ### the law's own fractions -/
section
variable {base : Heap} {K : PySem.W.Frag} {mg : Str → Option Value} {P : Program} {w : World}
def NewRows (H : Hp) (F : Nat → Int × Int) (cnt : Nat) (Q : VK) : Prop := ∀ (S : Addr) (xs : List Addr) (H' : Hp), H S = none → Same H H' → H' S = some (.lst (xs.map V.ref)) → xs.length = cnt → Rows H' F xs → Q (.ref S) H'
def spLFrac : Sp := fun vs H Q _ => ∃ (r v : Int) (cnt : Nat), vs = [.int r, .int cnt] ∧ 2 ≤ r ∧ r ≤ 99 ∧ isW r v ∧ cnt ≤ 1000 ∧ NewRows H (cfF r v) cnt Q
theorem ok_lfractions (T : Txt K mg) : FnOk P w K mg base CX0 1 T.f_lfractions T.d_lfractions ["_law_root_z", "_law_count_z"] spLFrac := by
  refine T.F_lfractions.ok sc_lfractions (fun vs H Q E h => ?_) (fun cdv A outer s H vs Q E hr h => ?_)
  · obtain ⟨r, v, cnt, rfl, _⟩ := h
    rfl
  · obtain ⟨r, v, cnt, rfl, r2, r99, hw, hc, q⟩ := h
    refine ⟨_, (pss_cons (ps_set (i := 2) sc_lfractions.nd rfl (Or.inl rfl) pe_int)
      (pss_cons (ps_while PassesOwn.never (pt_cmpR op_le (pe_op op_mul (pe_op op_add (pv 2) pe_int) (pe_op op_add (pv 2) pe_int)) (pv 0) (nomark _)) (pss_one (ps_set (i := 2) sc_lfractions.nd rfl (Or.inl rfl) (pe_op op_add (pv 2) pe_int))))
      (pss_cons (ps_asg (pe_tup (pa_cons pe_int (pa_cons pe_int (pa_cons (pv 2) (pa_cons (pe_tup (pa_cons pe_int (pa_cons pe_int pa_nil))) (pa_cons (pe_tup (pa_cons pe_int (pa_cons pe_int pa_nil))) (pa_cons (pe_lst pa_nil) pa_nil))))))) (pg_tup (by rfl) (pgs_cons (pg_name (i := 4) sc_lfractions.nd rfl (Or.inl rfl)) (pgs_cons (pg_name (i := 5) sc_lfractions.nd rfl (Or.inl rfl)) (pgs_cons (pg_name (i := 6) sc_lfractions.nd rfl (Or.inl rfl)) (pgs_cons (pg_name (i := 7) sc_lfractions.nd rfl (Or.inl rfl)) (pgs_cons (pg_name (i := 8) sc_lfractions.nd rfl (Or.inl rfl)) (pgs_cons (pg_name (i := 9) sc_lfractions.nd rfl (Or.inl rfl)) pgs_nil))))))))
      (pss_cons (ps_for PassesOwn.never rfl (pi_range1 (by rfl) T.n_range (pa_cons (pv 1) pa_nil)) (pg_name (i := 3) sc_lfractions.nd rfl (Or.inl rfl)) (pss_cons (ps_set (i := 10) sc_lfractions.nd rfl (Or.inl rfl) (pe_tup (pa_cons (pe_op op_add (pe_op op_mulW (pv 6) (pe_ix ix_tup (pv 7) pe_int (fun _ _ => rfl))) (pe_ix ix_tup (pv 8) pe_int (fun _ _ => rfl))) (pa_cons (pe_op op_add (pe_op op_mulW (pv 6) (pe_ix ix_tup (pv 7) pe_int (fun _ _ => rfl))) (pe_ix ix_tup (pv 8) pe_int (fun _ _ => rfl))) pa_nil))))
      (pss_cons (ps_par (i := 7) (j := 8) (by rfl) sc_lfractions.nd rfl rfl (by decide) rfl rfl (pa_cons (pv 10) (pa_cons (pv 7) pa_nil)) (by rfl))
      (pss_cons (ps_expr (pe_bm PySem.F.plainAttrs_list PySem.F.slot_list_append PySem.F.type_list_append mt_append (pv 9) (pa_cons (pv 10) pa_nil)))
      (pss_cons (ps_set (i := 4) sc_lfractions.nd rfl (Or.inl rfl) (pe_op op_sub (pe_op op_mul (pv 5) (pv 6)) (pv 4)))
      (pss_cons (ps_set (i := 5) sc_lfractions.nd rfl (Or.inl rfl) (pe_op op_fdiv (pe_op op_sub (pv 0) (pe_op op_mul (pv 4) (pv 4))) (pv 5)))
      (pss_one (ps_set (i := 6) sc_lfractions.nd rfl (Or.inl rfl) (pe_op op_fdiv (pe_op op_add (pv 2) (pv 4)) (pv 5))))))))))
      (pss_one (ps_ret (pv 9))))))), ?_⟩
    obtain ⟨v0, v1, v2⟩ := id hw
    have v9 : v ≤ 9 := by
      rcases Int.lt_or_le 9 v with z | z
      · have := Int.mul_le_mul (show (10 : Int) ≤ v by omega) (show (10 : Int) ≤ v by omega) (by decide) (by omega)
        omega
      · exact z
    refine ⟨fun m σ H' => ∃ g : Int, σ = [some (.int r), some (.int cnt), some (.int g), none, none, none, none, none, none, none, none] ∧ H' = H ∧ 0 ≤ g ∧ g ≤ v ∧ m = (v - g).toNat, ⟨_, 0, rfl, rfl, Int.le_refl _, v0, rfl⟩, ?_⟩
    rintro m σ H' ⟨g, rfl, rfl, g0, g1, rfl⟩
    refine ⟨_, rfl, g, 1, rfl, rfl, _, rfl, g, 1, rfl, rfl, _, _, rfl, rfl, .inl ⟨by omega, by omega⟩, _, rfl, _, _, rfl, rfl, _, rfl, ite2 (fun e => ?_) (fun e => ?_)⟩
    · have e' : (g + 1) * (g + 1) ≤ r := of_decide_eq_true e
      have lt : g < v := by
        rcases Int.lt_or_le g v with z | z
        · exact z
        · have := Int.mul_le_mul (show v + 1 ≤ g + 1 by omega) (show v + 1 ≤ g + 1 by omega) (by omega) (by omega)
          omega
      exact ⟨fun σ' H'' => ∃ m', m' < (v - g).toNat ∧ ∃ g : Int, σ' = [some (.int r), some (.int cnt), some (.int g), none, none, none, none, none, none, none, none] ∧ H'' = H' ∧ 0 ≤ g ∧ g ≤ v ∧ m' = (v - g).toNat, fun _ _ z => z, _, rfl, g, 1, rfl, rfl, _, (by omega : (v - (g + 1)).toNat < (v - g).toNat), g + 1, rfl, rfl, by omega, by omega, rfl⟩
    · have e' : ¬ (g + 1) * (g + 1) ≤ r := fun z => e (decide_eq_true z)
      have gv : g = v := by
        rcases Int.lt_or_le g v with z | z
        · exfalso
          have := Int.mul_le_mul (show g + 1 ≤ v by omega) (show g + 1 ≤ v by omega) (by omega) v0
          omega
        · omega
      subst gv
      clear e e'
      refine ⟨_, rfl, by show 2 ≤ sizeLine; decide, fun l0 n1 => ⟨by show 2 ≤ sizeLine; decide, fun b0 n2 => ⟨by show 0 ≤ sizeLine; decide, fun S nS => ⟨by show 6 ≤ sizeLine; decide, fun t nt => ?_⟩⟩⟩⟩
      have d1 := same_new (o := .tup [.int 1, .int 0]) n1
      have d2 := same_new (o := .tup [.int 0, .int 1]) n2
      have d3 := same_new (o := .lst []) nS
      have d4 := same_new (o := .tup [.int 0, .int 1, .int g, .ref l0, .ref b0, .ref S]) nt
      have fS : H' S = none := (d1.trans d2).free nS
      refine ⟨t, _, rfl, SqT.of upd_same, rfl, .int 0, _, rfl, .int 1, _, rfl, .int g, _, rfl, .ref l0, _, rfl, .ref b0, _, rfl, .ref S, _, rfl, rfl, ?_⟩
      refine ⟨_, rfl, (cnt : Int), rfl, by omega, by omega, for_range (lo := 0) (n := cnt) (fun i σ G => ∃ y3 y10 lx bx xs, σ = [some (.int r), some (.int cnt), some (.int g), y3, some (.int (cfS r g i).1), some (.int (cfS r g i).2.1), some (.int (cfS r g i).2.2), some (.ref lx), some (.ref bx), some (.ref S), y10] ∧ Same H' G ∧
        G lx = some (.tup [.int (cfR r g i).1.1, .int (cfR r g i).1.2]) ∧ G bx = some (.tup [.int (cfR r g i).2.1, .int (cfR r g i).2.2]) ∧ G S = some (.lst (xs.map V.ref)) ∧ xs.length = i ∧ Rows G (cfF r g) xs) ⟨none, none, l0, b0, [], rfl, d1.trans (d2.trans (d3.trans d4)), (d2.trans (d3.trans d4)) _ _ upd_same, (d3.trans d4) _ _ upd_same, d4 _ _ upd_same, rfl, fun i x e => by simp at e⟩ ?_ ?_⟩
      · rintro i σ G hi ⟨y3, y10, lx, bx, xs, rfl, sG, hl, hb, hS, lx', rows⟩
        obtain ⟨⟨b1, b2, b3, b4⟩, c1, c2, c3, c4⟩ := cf_bound r2 r99 hw i
        obtain ⟨m1, m2, t1, t2, k1, k2⟩ := cf_num r2 r99 hw i
        obtain ⟨m1', m2', t1', t2', k1', k2'⟩ := cf_num r2 r99 hw (i + 1)
        have kb : (cfS r g i).2.2.natAbs < 2 ^ 9000 := Nat.lt_of_le_of_lt (show (cfS r g i).2.2.natAbs ≤ 18 by omega) (Nat.lt_of_lt_of_le (show 18 < 2 ^ 5 by decide) (Nat.pow_le_pow_right (by decide) (by decide)))
        refine ⟨_, rfl, _, rfl, lx, _, 0, _, rfl, rfl, SqT.of hl, atI_nat (j := 0) rfl, _, _, rfl, rfl, wide_mul kb (two5000 b1 c1 (by omega)) (by decide) (by decide) (by decide), _, rfl, bx, _, 0, _, rfl, rfl, SqT.of hb, atI_nat (j := 0) rfl, _, _, rfl, rfl,
          _, rfl, _, rfl, lx, _, 1, _, rfl, rfl, SqT.of hl, atI_nat (j := 1) rfl, _, _, rfl, rfl, wide_mul kb (two5000 b2 c2 (by omega)) (by decide) (by decide) (by decide), _, rfl, bx, _, 1, _, rfl, rfl, SqT.of hb, atI_nat (j := 1) rfl, _, _, rfl, rfl, by show 2 ≤ sizeLine; decide, fun x nx => ?_⟩
        have q1 : (cfS r g i).2.2 * (cfR r g i).1.1 + (cfR r g i).2.1 = (cfF r g i).1 := by
          show _ = (cfR r g i).1.1 * (cfS r g i).2.2 + (cfR r g i).2.1
          rw [Int.mul_comm]
        have q2 : (cfS r g i).2.2 * (cfR r g i).1.2 + (cfR r g i).2.2 = (cfF r g i).2 := by
          show _ = (cfR r g i).1.2 * (cfS r g i).2.2 + (cfR r g i).2.2
          rw [Int.mul_comm]
        have dx := same_new (o := .tup [.int ((cfS r g i).2.2 * (cfR r g i).1.1 + (cfR r g i).2.1), .int ((cfS r g i).2.2 * (cfR r g i).1.2 + (cfR r g i).2.2)]) nx
        have hx : (upd G x (.tup [.int ((cfS r g i).2.2 * (cfR r g i).1.1 + (cfR r g i).2.1), .int ((cfS r g i).2.2 * (cfR r g i).1.2 + (cfR r g i).2.2)])) x = some (.tup [.int (cfF r g i).1, .int (cfF r g i).2]) := by
          rw [q1, q2]
          exact upd_same
        have hS' := dx _ _ hS
        have ne : ∀ {p : Addr} {ys : List V}, (upd G x (.tup [.int ((cfS r g i).2.2 * (cfR r g i).1.1 + (cfR r g i).2.1), .int ((cfS r g i).2.2 * (cfR r g i).1.2 + (cfR r g i).2.2)])) p = some (.tup ys) → p ≠ S := fun z e => by
          rw [e, hS'] at z
          cases z
        refine ⟨_, rfl, _, rfl, _, _, rfl, _, rfl, .inl ⟨rfl, _, SqL.of hS'⟩, _, rfl, S, _, _, rfl, rfl, hS', ?_, ?_⟩
        · rw [List.length_map, lx']
          exact small1000 (by omega)
        have f1 : 0 ≤ (cfS r g i).2.1 * (cfS r g i).2.2 - (cfS r g i).1 ∧ (cfS r g i).2.1 * (cfS r g i).2.2 - (cfS r g i).1 ≤ 9 := ⟨m1', m2'⟩
        have f2 : 1 ≤ (r - ((cfS r g i).2.1 * (cfS r g i).2.2 - (cfS r g i).1) * ((cfS r g i).2.1 * (cfS r g i).2.2 - (cfS r g i).1)) / (cfS r g i).2.1 ∧ (r - ((cfS r g i).2.1 * (cfS r g i).2.2 - (cfS r g i).1) * ((cfS r g i).2.1 * (cfS r g i).2.2 - (cfS r g i).1)) / (cfS r g i).2.1 ≤ 99 := ⟨t1', t2'⟩
        refine ⟨_, rfl, _, rfl, _, _, rfl, rfl, .inl ⟨by omega, by omega⟩, _, rfl, _, _, rfl, rfl, _, rfl, _, rfl, _, rfl, _, _, rfl, rfl, .inl ⟨by omega, by omega⟩, _, _, rfl, rfl, _, rfl, _, _, rfl, rfl, ⟨by omega, by omega⟩, _, rfl, _, rfl, _, _, rfl, rfl, _, rfl, _, _, rfl, rfl, ⟨by omega, by omega⟩, ?_⟩
        refine ⟨_, _, x, lx, xs ++ [x], rfl, fun p o e => ?_, (upd_ne (ne hx)).trans hx, (upd_ne (ne (dx _ _ hl))).trans (dx _ _ hl), ?_, by rw [List.length_append, lx']; rfl, fun j y e => ?_⟩
        · exact (upd_ne (ne_of_none e fS)).trans (dx _ _ (sG _ _ e))
        · rw [upd_same, List.map_append]
          rfl
        · rw [List.getElem?_append] at e
          split at e
          · have z := dx _ _ (rows j y e)
            exact (upd_ne (ne z)).trans z
          · have j0 : j - xs.length = 0 := by
              cases z : j - xs.length with
              | zero => rfl
              | succ j' => rw [z] at e; cases e
            rw [j0] at e
            cases e
            rw [show j = i by omega]
            exact (upd_ne (ne hx)).trans hx
      · rintro σ G ⟨y3, y10, lx, bx, xs, rfl, sG, hl, hb, hS, lx', rows⟩
        exact ⟨_, rfl, q S xs G fS sG hS lx' rows⟩
end
/-! ### like -/
def Flat (x y : V) : Prop := (∃ i, x = .int i ∧ y = .int i) ∨ (∃ b, x = .bl b ∧ y = .bl b) ∨ (x = .non ∧ y = .non) ∨ (∃ t, x = .str t ∧ y = .str t)
def Two (H : Hp) (p q : Addr) (xs ys : List V) : Prop := (H p = some (.tup xs) ∧ H q = some (.tup ys)) ∨ (H p = some (.lst xs) ∧ H q = some (.lst ys))
def Lk (H : Hp) : Nat → V → V → Prop
  | 0, x, y => Flat x y
  | n + 1, x, y => Flat x y ∨ ∃ (p q : Addr) (xs ys : List V), x = .ref p ∧ y = .ref q ∧ Two H p q xs ys ∧ xs.length = ys.length ∧ xs.length ≤ 1000 ∧ ∀ (i : Nat) (x y : V), xs[i]? = some x → ys[i]? = some y → Lk H n x y
theorem Two.same {H H' : Hp} {p q : Addr} {xs ys : List V} (h : Two H p q xs ys) (s : Same H H') : Two H' p q xs ys := by
  rcases h with ⟨a, b⟩ | ⟨a, b⟩
  · exact .inl ⟨s _ _ a, s _ _ b⟩
  · exact .inr ⟨s _ _ a, s _ _ b⟩
theorem Lk.same {H H' : Hp} (s : Same H H') : ∀ {n : Nat} {x y : V}, Lk H n x y → Lk H' n x y
  | 0, _, _, h => h
  | n + 1, _, _, h => by
    rcases h with h | ⟨p, q, xs, ys, e1, e2, t, l1, l2, a⟩
    · exact .inl h
    · exact .inr ⟨p, q, xs, ys, e1, e2, t.same s, l1, l2, fun i x y h1 h2 => (a i x y h1 h2).same s⟩
theorem Lk.flat {H : Hp} {n : Nat} {x y : V} (h : Flat x y) : Lk H n x y := match n with
  | 0 => h
  | _ + 1 => .inl h
section
variable {base : Heap} {K : PySem.W.Frag} {mg : Str → Option Value} {P : Program} {w : World}
def spLL (L : V → V → Hp → Prop) : Sp := fun vs H Q _ => ∃ x y : V, vs = [x, y] ∧ L x y H ∧ ∀ H', Same H H' → Q (.bl true) H'
theorem kit2 {a : String} {r1 r2 : Bool} (h1 : kitB a "tuple" = some r1) (h2 : kitB a "list" = some r2) : PySem.W.kitAny K (.type a) [.type "tuple", .type "list"] = some (r1 || r2) := by
  refine kitAny_cons (kit_ty h1) (fun e => ?_) (fun e => by rw [e]; rfl)
  subst e
  exact kitAny_cons (kit_ty h2) (fun e => by rw [e]; exact kitAny_nil) (fun e => by rw [e]; rfl)
theorem lk_core (T : Txt K mg) {k : Nat} {L L' : V → V → Hp → Prop} (G : FnOk P w K mg base CX0 k T.f_like T.d_like ["_law_found", "_law_due"] (spLL L')) (hs : ∀ x y H H', Same H H' → L' x y H → L' x y H')
    (hne : ∀ x y H, L x y H → Flat x y ∨ ∃ (p q : Addr) (xs ys : List V), x = .ref p ∧ y = .ref q ∧ Two H p q xs ys ∧ xs.length = ys.length ∧ xs.length ≤ 1000 ∧ ∀ (i : Nat) (x y : V), xs[i]? = some x → ys[i]? = some y → L' x y H) :
    FnOk P w K mg base CX0 (k + 1) T.f_like T.d_like ["_law_found", "_law_due"] (spLL L) := by
  refine T.F_like.ok sc_like (fun vs H Q E h => ?_) (fun cdv A outer s H vs Q E hr h => ?_)
  · obtain ⟨x, y, rfl, _⟩ := h
    rfl
  · obtain ⟨x, y, rfl, hl, qq⟩ := h
    refine ⟨_, (pss_cons (ps_if (pt_val (pe_callB call_isiT (by rfl) T.n_isinstance (by decide +kernel) (pa_cons (pv 1) (pa_cons (pe_tup (pa_cons (pe_bltn (v := .ty "tuple") (by rfl) T.n_tuple (by decide +kernel) rfl) (pa_cons (pe_bltn (v := .ty "list") (by rfl) T.n_list (by decide +kernel) rfl) pa_nil))) pa_nil)))) (pss_cons (ps_if (PW.pt (pw_or (pt_cmpR op_ne (pe_callB call_isi (by rfl) T.n_isinstance (by decide +kernel) (pa_cons (pv 0) (pa_cons (pe_bltn (v := .ty "tuple") (by rfl) T.n_tuple (by decide +kernel) rfl) pa_nil))) (pe_callB call_isi (by rfl) T.n_isinstance (by decide +kernel) (pa_cons (pv 1) (pa_cons (pe_bltn (v := .ty "tuple") (by rfl) T.n_tuple (by decide +kernel) rfl) pa_nil))) (nomark _)) (pw_or1 (pt_cmpR op_ne (pe_callB call_isi (by rfl) T.n_isinstance (by decide +kernel) (pa_cons (pv 0) (pa_cons (pe_bltn (v := .ty "list") (by rfl) T.n_list (by decide +kernel) rfl) pa_nil))) (pe_callB call_isi (by rfl) T.n_isinstance (by decide +kernel) (pa_cons (pv 1) (pa_cons (pe_bltn (v := .ty "list") (by rfl) T.n_list (by decide +kernel) rfl) pa_nil))) (nomark _))))) (pss_one (ps_ret pe_bl)) pss_nil)
      (pss_one (ps_ret (pe_and (pe_cmpR op_eq (pe_callB call_len_seq (by rfl) T.n_len (by decide +kernel) (pa_cons (pv 0) pa_nil)) (pe_callB call_len_seq (by rfl) T.n_len (by decide +kernel) (pa_cons (pv 1) pa_nil)) (nomark _)) (pe_one (pe_callB (cr_all rfl) (by rfl) T.n_all (by decide +kernel) (pa_cons (pe_lc (own := [("_law_k", 2)]) (g := (gName 2)) (tt := tYes) (te := tCall (spLL L') [] E0 (tCons (tOp (rIx K) _ _) (tCons (tOp (rIx K) _ _) _))) (by rfl) sc_like.nd (pi_range1 (by rfl) T.n_range (pa_cons (pe_callB call_len_seq (by rfl) T.n_len (by decide +kernel) (pa_cons (pv 1) pa_nil)) pa_nil)) (blkOk_by (own := [("_law_k", 2)]) (N := ["_law_found", "_law_due", "_law_k"]) (sc := defScope s_like) (by decide +kernel)) (fun _ _ _ _ _ => (pg_name (i := 2) sc_like.nd rfl (Or.inl rfl))) (fun _ _ _ _ _ => pts_nil) (fun _ _ _ _ _ => (pe_call G hr (by rfl) T.g_like T.F_like.kp T.b_like .nil pass0 (pa_cons (pe_ix ix_seq (pv 0) (pv 2) (fun _ _ => rfl)) (pa_cons (pe_ix ix_seq (pv 1) (pv 2) (fun _ _ => rfl)) pa_nil))))) pa_nil))))))) pss_nil)
      (pss_cons (ps_if (PW.pt (pw_or (pt_cmpR op_isN (pv 1) pe_non (nomark _)) (pw_or1 (pt_cmpR op_isN (pv 0) pe_non (nomark _))))) (pss_one (ps_ret (pe_and (pe_cmpR op_isN (pv 1) pe_non (nomark _)) (pe_one (pe_cmpR op_isN (pv 0) pe_non (nomark _)))))) pss_nil)
      (pss_one (ps_ret (pe_and (pe_cmpR op_eq (pe_callB call_isi (by rfl) T.n_isinstance (by decide +kernel) (pa_cons (pv 0) (pa_cons (pe_bltn (v := .ty "bool") (by rfl) T.n_bool (by decide +kernel) rfl) pa_nil))) (pe_callB call_isi (by rfl) T.n_isinstance (by decide +kernel) (pa_cons (pv 1) (pa_cons (pe_bltn (v := .ty "bool") (by rfl) T.n_bool (by decide +kernel) rfl) pa_nil))) (nomark _)) (pe_one (pe_cmpR op_eq (pv 0) (pv 1) (nomark _)))))))), ?_⟩
    refine ⟨_, rfl, by show 2 ≤ sizeLine; decide, fun tp htp => ?_⟩
    have sm := same_new (o := .tup [.ty "tuple", .ty "list"]) htp
    rcases hne x y H hl with (⟨i, rfl, rfl⟩ | ⟨b, rfl, rfl⟩ | ⟨rfl, rfl⟩ | ⟨i, rfl, rfl⟩) | ⟨p, q, xs, ys, rfl, rfl, hT, l1, l2, hA⟩
    · refine ⟨.int i, tp, [.ty "tuple", .ty "list"], .type "int", [.type "tuple", .type "list"], (false || false), rfl, upd_same, .cons (ClsV.ty _) (.cons (ClsV.ty _) .nil), TyX.base (TyOf.int _), kit2 (by decide +kernel) (by decide +kernel), _, rfl, iteF ?_⟩
      refine ⟨_, rfl, rfl, _, rfl, iteF ?_⟩
      refine ⟨_, rfl, rfl, _, rfl, iteF ?_⟩
      refine ⟨_, rfl, .int i, .ty "bool", _, _, false, rfl, ClsV.ty _, TyX.base (TyOf.int _), kit_ty (by decide +kernel), _, rfl, .int i, .ty "bool", _, _, false, rfl, ClsV.ty _, TyX.base (TyOf.int _), kit_ty (by decide +kernel), rfl, true, rfl, iteT ?_⟩
      refine ⟨_, rfl, _, rfl, rfl, ?_⟩
      rw [decide_eq_true rfl]
      exact qq _ sm
    · refine ⟨.bl b, tp, [.ty "tuple", .ty "list"], .type "bool", [.type "tuple", .type "list"], (false || false), rfl, upd_same, .cons (ClsV.ty _) (.cons (ClsV.ty _) .nil), TyX.base (TyOf.bl _), kit2 (by decide +kernel) (by decide +kernel), _, rfl, iteF ?_⟩
      refine ⟨_, rfl, rfl, _, rfl, iteF ?_⟩
      refine ⟨_, rfl, rfl, _, rfl, iteF ?_⟩
      refine ⟨_, rfl, .bl b, .ty "bool", _, _, true, rfl, ClsV.ty _, TyX.base (TyOf.bl _), kit_ty (by decide +kernel), _, rfl, .bl b, .ty "bool", _, _, true, rfl, ClsV.ty _, TyX.base (TyOf.bl _), kit_ty (by decide +kernel), rfl, true, rfl, iteT ?_⟩
      refine ⟨_, rfl, _, rfl, rfl, ?_⟩
      rw [decide_eq_true rfl]
      exact qq _ sm
    · refine ⟨.non, tp, [.ty "tuple", .ty "list"], .type "NoneType", [.type "tuple", .type "list"], (false || false), rfl, upd_same, .cons (ClsV.ty _) (.cons (ClsV.ty _) .nil), TyX.base TyOf.non, kit2 (by decide +kernel) (by decide +kernel), _, rfl, iteF ?_⟩
      refine ⟨_, rfl, rfl, _, rfl, iteT ?_⟩
      exact ⟨_, rfl, rfl, true, rfl, iteT ⟨_, rfl, rfl, qq _ sm⟩⟩
    · refine ⟨.str i, tp, [.ty "tuple", .ty "list"], .type "str", [.type "tuple", .type "list"], (false || false), rfl, upd_same, .cons (ClsV.ty _) (.cons (ClsV.ty _) .nil), TyX.base (TyOf.str _), kit2 (by decide +kernel) (by decide +kernel), _, rfl, iteF ?_⟩
      refine ⟨_, rfl, rfl, _, rfl, iteF ?_⟩
      refine ⟨_, rfl, rfl, _, rfl, iteF ?_⟩
      refine ⟨_, rfl, .str i, .ty "bool", _, _, false, rfl, ClsV.ty _, TyX.base (TyOf.str _), kit_ty (by decide +kernel), _, rfl, .str i, .ty "bool", _, _, false, rfl, ClsV.ty _, TyX.base (TyOf.str _), kit_ty (by decide +kernel), rfl, true, rfl, iteT ?_⟩
      refine ⟨_, rfl, _, rfl, rfl, ?_⟩
      rw [decide_eq_true rfl]
      exact qq _ sm
    · have hT' := hT.same sm
      rcases hT' with ⟨hp, hq⟩ | ⟨hp, hq⟩
      · refine ⟨.ref q, tp, [.ty "tuple", .ty "list"], .type "tuple", [.type "tuple", .type "list"], (true || false), rfl, upd_same, .cons (ClsV.ty _) (.cons (ClsV.ty _) .nil), TyX.base (TyOf.tup hq), kit2 (by decide +kernel) (by decide +kernel), _, rfl, iteT ?_⟩
        refine ⟨_, rfl, .ref p, .ty "tuple", _, _, true, rfl, ClsV.ty _, TyX.base (TyOf.tup hp), kit_ty (by decide +kernel), _, rfl, .ref q, .ty "tuple", _, _, true, rfl, ClsV.ty _, TyX.base (TyOf.tup hq), kit_ty (by decide +kernel), rfl, _, rfl, iteF ?_⟩
        refine ⟨_, rfl, .ref p, .ty "list", _, _, false, rfl, ClsV.ty _, TyX.base (TyOf.tup hp), kit_ty (by decide +kernel), _, rfl, .ref q, .ty "list", _, _, false, rfl, ClsV.ty _, TyX.base (TyOf.tup hq), kit_ty (by decide +kernel), rfl, _, rfl, iteF ?_⟩
        refine ⟨_, rfl, p, xs, rfl, .inr (SqT.of hp), _, rfl, q, ys, rfl, .inr (SqT.of hq), rfl, true, (by rw [l1, decide_eq_true rfl]), iteT ?_⟩
        refine ⟨_, rfl, q, ys, rfl, .inr (SqT.of hq), _, rfl, (by omega), (by omega), fun D hD => ?_⟩
        refine lc_range (lo := 0) (n := ys.length) (fun i H' => Same H H' ∧ H' D = some (.lst ((List.replicate i true).map V.bl))) ⟨sm.trans (same_new hD), upd_same⟩ ?_ ?_
        · rintro i H' hi ⟨sm', hd⟩
          obtain ⟨x1, e1, f1⟩ := at_some (xs := xs) (show 0 ≤ (0 : Int) + (i : Int) by omega) (by omega)
          obtain ⟨y1, e2, f2⟩ := at_some (xs := ys) (show 0 ≤ (0 : Int) + (i : Int) by omega) (by omega)
          rcases hT with ⟨hp0, hq0⟩ | ⟨hp0, hq0⟩
          · refine ⟨rfl, ⟨_, rfl, _, rfl, .inr (.inl ⟨p, xs, _, x1, rfl, rfl, SqT.of (sm' _ _ hp0), f1, _, rfl, _, rfl, .inr (.inl ⟨q, ys, _, y1, rfl, rfl, SqT.of (sm' _ _ hq0), f2, x1, y1, rfl, hs _ _ _ _ sm' (hA _ _ _ e1 e2), fun H2 s2 => ?_⟩)⟩)⟩⟩
            refine ⟨_, s2 _ _ hd, ?_, ?_, ?_⟩
            · rw [List.length_map, List.length_replicate]
              exact small1000 (by omega)
            · exact fun a o z => (upd_ne (ne_of_none z (sm.free hD))).trans (s2 _ _ (sm' a o z))
            · rw [upd_same, List.replicate_succ', List.map_append]
              rfl
          · exact absurd (sm _ _ hp0) (by rw [hp]; simp)
        · rintro H' ⟨sm', hd⟩
          refine ⟨D, _, rfl, SqL.of hd, ?_⟩
          rw [show (List.replicate ys.length true).all id = true by simp]
          exact qq _ sm'
      · refine ⟨.ref q, tp, [.ty "tuple", .ty "list"], .type "list", [.type "tuple", .type "list"], (false || true), rfl, upd_same, .cons (ClsV.ty _) (.cons (ClsV.ty _) .nil), TyX.base (TyOf.lst hq), kit2 (by decide +kernel) (by decide +kernel), _, rfl, iteT ?_⟩
        refine ⟨_, rfl, .ref p, .ty "tuple", _, _, false, rfl, ClsV.ty _, TyX.base (TyOf.lst hp), kit_ty (by decide +kernel), _, rfl, .ref q, .ty "tuple", _, _, false, rfl, ClsV.ty _, TyX.base (TyOf.lst hq), kit_ty (by decide +kernel), rfl, _, rfl, iteF ?_⟩
        refine ⟨_, rfl, .ref p, .ty "list", _, _, true, rfl, ClsV.ty _, TyX.base (TyOf.lst hp), kit_ty (by decide +kernel), _, rfl, .ref q, .ty "list", _, _, true, rfl, ClsV.ty _, TyX.base (TyOf.lst hq), kit_ty (by decide +kernel), rfl, _, rfl, iteF ?_⟩
        refine ⟨_, rfl, p, xs, rfl, .inl (SqL.of hp), _, rfl, q, ys, rfl, .inl (SqL.of hq), rfl, true, (by rw [l1, decide_eq_true rfl]), iteT ?_⟩
        refine ⟨_, rfl, q, ys, rfl, .inl (SqL.of hq), _, rfl, (by omega), (by omega), fun D hD => ?_⟩
        refine lc_range (lo := 0) (n := ys.length) (fun i H' => Same H H' ∧ H' D = some (.lst ((List.replicate i true).map V.bl))) ⟨sm.trans (same_new hD), upd_same⟩ ?_ ?_
        · rintro i H' hi ⟨sm', hd⟩
          obtain ⟨x1, e1, f1⟩ := at_some (xs := xs) (show 0 ≤ (0 : Int) + (i : Int) by omega) (by omega)
          obtain ⟨y1, e2, f2⟩ := at_some (xs := ys) (show 0 ≤ (0 : Int) + (i : Int) by omega) (by omega)
          rcases hT with ⟨hp0, hq0⟩ | ⟨hp0, hq0⟩
          · exact absurd (sm _ _ hp0) (by rw [hp]; simp)
          · refine ⟨rfl, ⟨_, rfl, _, rfl, .inl ⟨p, xs, _, x1, rfl, rfl, SqL.of (sm' _ _ hp0), f1, _, rfl, _, rfl, .inl ⟨q, ys, _, y1, rfl, rfl, SqL.of (sm' _ _ hq0), f2, x1, y1, rfl, hs _ _ _ _ sm' (hA _ _ _ e1 e2), fun H2 s2 => ?_⟩⟩⟩⟩
            refine ⟨_, s2 _ _ hd, ?_, ?_, ?_⟩
            · rw [List.length_map, List.length_replicate]
              exact small1000 (by omega)
            · exact fun a o z => (upd_ne (ne_of_none z (sm.free hD))).trans (s2 _ _ (sm' a o z))
            · rw [upd_same, List.replicate_succ', List.map_append]
              rfl
        · rintro H' ⟨sm', hd⟩
          refine ⟨D, _, rfl, SqL.of hd, ?_⟩
          rw [show (List.replicate ys.length true).all id = true by simp]
          exact qq _ sm'
theorem ok_likeN (T : Txt K mg) : ∀ n : Nat, FnOk P w K mg base CX0 (n + 1) T.f_like T.d_like ["_law_found", "_law_due"] (spLL fun x y H => Lk H n x y)
  | 0 => lk_core T (L' := fun _ _ _ => False) ⟨fun _ _ _ _ ⟨_, _, _, h, _⟩ => h.elim, fun _ _ _ _ _ _ _ _ _ _ _ _ _ ⟨_, _, _, h, _⟩ => h.elim⟩ (fun _ _ _ _ _ h => h) fun x y H h => .inl h
  | n + 1 => lk_core T (ok_likeN T n) (fun _ _ _ _ s h => h.same s) fun x y H h => h
theorem ok_like (T : Txt K mg) : FnOk P w K mg base CX0 3 T.f_like T.d_like ["_law_found", "_law_due"] (spLL fun x y H => Lk H 2 x y) := ok_likeN T 2
end
inductive LkAll (H : Hp) (n : Nat) : List V → List V → Prop
  | nil : LkAll H n [] []
  | cons {x y : V} {xs ys : List V} : Lk H n x y → LkAll H n xs ys → LkAll H n (x :: xs) (y :: ys)
theorem LkAll.get {H : Hp} {n : Nat} : ∀ {xs ys : List V}, LkAll H n xs ys → xs.length = ys.length ∧ ∀ (i : Nat) (x y : V), xs[i]? = some x → ys[i]? = some y → Lk H n x y := by
  intro xs ys h
  induction h with
  | nil => exact ⟨rfl, fun i x y h => by simp at h⟩
  | cons h t ih =>
    refine ⟨congrArg Nat.succ ih.1, fun i x y h1 h2 => ?_⟩
    cases i with
    | zero =>
      cases h1
      cases h2
      exact h
    | succ i => exact ih.2 i x y (by simpa using h1) (by simpa using h2)
theorem Lk.lists {H : Hp} {n : Nat} {p q : Addr} {xs ys : List V} (hp : H p = some (.lst xs)) (hq : H q = some (.lst ys)) (hl : xs.length ≤ 1000) (h : LkAll H n xs ys) : Lk H (n + 1) (.ref p) (.ref q) := .inr ⟨p, q, xs, ys, rfl, rfl, .inr ⟨hp, hq⟩, h.get.1, hl, h.get.2⟩
theorem Lk.tups {H : Hp} {n : Nat} {p q : Addr} {xs ys : List V} (hp : H p = some (.tup xs)) (hq : H q = some (.tup ys)) (hl : xs.length ≤ 1000) (h : LkAll H n xs ys) : Lk H (n + 1) (.ref p) (.ref q) := .inr ⟨p, q, xs, ys, rfl, rfl, .inl ⟨hp, hq⟩, h.get.1, hl, h.get.2⟩
theorem Lk.int {H : Hp} {n : Nat} {i j : Int} (e : i = j) : Lk H n (.int i) (.int j) := Lk.flat (.inl ⟨i, rfl, by rw [e]⟩)
theorem Lk.bl {H : Hp} {n : Nat} {i j : Bool} (e : i = j) : Lk H n (.bl i) (.bl j) := Lk.flat (.inr (.inl ⟨i, rfl, by rw [e]⟩))
theorem Lk.pair {H : Hp} {n : Nat} {p q : Addr} {x y x' y' : Int} (hp : H p = some (.tup [.int x, .int y])) (hq : H q = some (.tup [.int x', .int y'])) (e1 : x = x') (e2 : y = y') : Lk H (n + 1) (.ref p) (.ref q) :=
  .tups hp hq (by simp) (.cons (.int e1) (.cons (.int e2) .nil))
/-! ### a lambda with one parameter that has a default, handed to a def that calls it -/
/-- its own names are no names of the def around it; none of them is captured -/
structure LamD (N : List Str) (sc scope : Scope) (b : Str) : Prop where
  kind : scope.kind = .function
  co : scope.isCoroutine = false
  gen : scope.isGenerator = false
  par : scope.names.lookup b = some .local
  own : ∀ y ∈ scope.names, (y.2 = .local → y.1 ∉ N) ∧ y.2 ≠ .cell
  free : ∀ y ∈ scope.names, y.2 = .free → sc.names.lookup y.1 = some .cell ∨ sc.names.lookup y.1 = some .free
theorem LamD.has {X : Cx} {scope : Scope} {N : List Str} {b : Str} (L : LamD N X.env.scope scope b) (ok : X.Ok) : ∀ y ∈ scope.names, y.2 = .free → ∃ c, X.env.cells.lookup y.1 = some c := by
  intro y m e
  exact ok.has _ (L.free y m e)
theorem no_frame {X : Cx} {pins : List (Addr × Obj)} {σ : L2.St} {H : Hp} {s : Shared} (I : Inv X pins σ H s) {b : Addr} (ge : s.heap.objs.size ≤ b) : b ∉ frs X.stack := by
  intro m
  rcases List.mem_cons.mp (I.stkSub _ m) with z | z
  · have lt := I.lt
    rw [← z] at lt
    exact Nat.lt_irrefl _ (Nat.lt_of_lt_of_le lt ge)
  · exact I.nofs ge z
section
variable {X : Cx} {pins : List (Addr × Obj)} {σ : L2.St} {H : Hp} {s : Shared}
/-- what stands behind the making: the function at f, its defaults at D -/
structure MadeD (X : Cx) (H1 : Hp) (s' : Shared) (params : Arguments) (body : Expr) (scope : Scope) (f c' D : Addr) (u : Value) : Prop where
  at_f : ∃ doc pm ctv, s'.heap.get? f = some (PySem.W.kdv_obj "<lambda>" (X.env.qual ++ "<lambda>") params (.expr body) scope (cloFrom X.env.cells scope.names []) (.ref D) doc pm c' ctv)
  at_D : s'.heap.get? D = some (PySem.W.kdv_tup [u])
  nf : H1 f = none
  nD : H1 D = none
  ff : f ∉ frs X.stack
  fD : D ∉ frs X.stack
  cd : H1 c' = some (LamX.CodeO c' (X.env.qual ++ "<lambda>"))
theorem lamd_make {T : List (Addr × Str)} {c P : Addr} {params : Arguments} {body d : Expr} {v0 : V} {scope : Scope} {pos : Pos} {Q : Value → Shared → Prop} (I : Inv X pins σ H s) (TB : LamX.TabB X.base X.mg c P) (hcode : X.env.code = .ref c)
    (hm : (P, X.env.qual ++ "<lambda>") ∈ T) (hu : ∀ p ∈ T, p.1 = P → p.2 = X.env.qual ++ "<lambda>") (hT : LamX.Tabs T H) (hk0 : params.kw_defaults = []) (hd : params.defaults = [d]) (pd : PE X d (tC v0)) (hfree : ∀ y ∈ scope.names, y.2 = .free → ∃ c, X.env.cells.lookup y.1 = some c)
    (h : ∀ (f c' D : Addr) (u : Value) (H1 : Hp) (s' : Shared), Inv X pins σ H1 s' → LamX.ExtN H H1 → LamX.Tabs T H1 → MadeD X H1 s' params body scope f c' D u → Q (.ref f) s') :
    wpAny (model X.prog X.w) X.A (eval (.Lambda params body scope pos) X.env) Q X.xe s := by
  refine PySem.W.kdv_lam (by rw [hd]; rfl) hk0 ?_
  rw [hd]
  refine PySem.W.kdv_all1 (thn (pd.run pins s σ H (fun _ H' => H' = H) I rfl) ?_)
  rintro u s1 ⟨v, H', I1, _, rfl⟩
  refine PySem.W.kdv_all0 ?_
  rw [makeFunction_eq]
  simp only [List.zip_nil_right, List.filterMap_nil, List.isEmpty_nil, if_true, pure_bind, List.isEmpty_cons, Bool.false_eq_true, if_false]
  refine wpAny_bind (wpAny_newTextTuple ?_)
  have I2 : Inv X pins σ H' { s1 with heap := s1.heap.push (PySem.W.kdv_tup [u]) } := I1.kept fun b o e => Heap.get?_push_of_some _ e
  have szD : s1.heap.objs.size < (s1.heap.push (PySem.W.kdv_tup [u])).objs.size := by
    rw [Heap.size_push]
    omega
  have at_D : (s1.heap.push (PySem.W.kdv_tup [u])).get? s1.heap.objs.size = some (PySem.W.kdv_tup [u]) := Heap.get?_push_size _ rfl
  have noD : H' s1.heap.objs.size = none := I1.hok.fresh (Nat.le_refl _)
  have frD := no_frame I1 (Nat.le_refl s1.heap.objs.size)
  generalize s1.heap.objs.size = D at *
  generalize hs2 : ({ s1 with heap := s1.heap.push (PySem.W.kdv_tup [u]) } : Shared) = s2 at *
  have e2 : s2.heap = s1.heap.push (PySem.W.kdv_tup [u]) := by rw [← hs2]
  rw [← e2] at szD at_D
  clear hs2 e2
  obtain ⟨ps, hP, ht, ha⟩ := hT _ hm
  have bP : s2.heap.BuiltinsAt X.mg P := TB.bm.keeps I2.bk
  have atP : s2.heap.get? P = some { cls := .none, data := .fields ps } := I2.hok P _ hP
  have DP : D ≠ P := fun z => by rw [z, hP] at noD; cases noD
  cases found : codeAmong pos ps.toList with
  | some cv =>
    obtain ⟨c', rfl, hco⟩ := ha pos cv found
    refine PySem.W.kdv_makeTailHit (mg := X.mg) (c := c) (P := P) (ps := ps) (closure_ok hfree) I2.ok.glob (I2.mod.glob.keeps I2.bk) hcode (TB.code.keeps I2.bk) atP ht found bP ?_
    intro ctv doc h' tk keep sz
    refine h h'.objs.size c' D u H' _ (I2.kept fun b o e => Heap.get?_push_of_some _ (keep b o e)) (LamX.ExtN.refl _) hT ⟨⟨_, _, _, Heap.get?_push_size _ rfl⟩, Heap.get?_push_of_some _ (keep _ _ at_D), I2.hok.fresh sz, noD, no_frame I2 sz, frD, hco⟩
  | none =>
    refine PySem.W.kdv_makeTail (mg := X.mg) (c := c) (P := P) (ps := ps) (closure_ok hfree) I2.ok.glob (I2.mod.glob.keeps I2.bk) hcode (TB.code.keeps I2.bk) atP ht found TB.gP bP ?_
    rintro c' ctv doc h' tk hx ge lt ⟨c2, oc, vs, t, e2, hoc, hdat, hv⟩ htb
    cases e2
    have newC : H' c' = none := I2.hok.fresh ge
    have sz : s2.heap.objs.size ≤ h'.objs.size := by omega
    have J := LamX.inv_table (t' := tk) (more := #[rawInt pos.line, rawInt pos.col, .ref c']) (h' := h'.push (PySem.W.kdv_obj "<lambda>" (X.env.qual ++ "<lambda>") params (.expr body) scope (cloFrom X.env.cells scope.names []) (.ref D) doc ((X.mg "__name__").getD .none) c' ctv)) I2 hP
      (fun b o hb e => Heap.get?_push_of_some _ (hx b o hb e)) (Heap.get?_push_of_some _ htb) ge ⟨oc, vs, t, Heap.get?_push_of_some _ hoc, hdat, hv⟩
    have ext : LamX.ExtN H' (upd (upd H' P (.tbl (ps ++ #[rawInt pos.line, rawInt pos.col, .ref c']))) c' (LamX.CodeO c' (X.env.qual ++ "<lambda>"))) := by
      intro b o e n
      have bP : b ≠ P := fun z => by rw [z, hP] at e; exact n _ (Option.some.inj e).symm
      rw [upd_ne (ne_of_none e newC), upd_ne bP]
      exact e
    refine h h'.objs.size c' D u _ _ J ext (fun p hp => ?_) ⟨⟨_, _, _, Heap.get?_push_size _ rfl⟩, Heap.get?_push_of_some _ (hx _ _ DP at_D), ?_, ?_, no_frame I2 sz, frD, upd_same⟩
    · by_cases isP : p.1 = P
      · rw [hu p hp isP, isP]
        have lst : (ps ++ #[rawInt pos.line, rawInt pos.col, .ref c']).toList = ps.toList ++ [rawInt pos.line, rawInt pos.col, .ref c'] := by simp
        refine ⟨ps ++ #[rawInt pos.line, rawInt pos.col, .ref c'], by rw [upd_ne (ne_of_none hP newC), upd_same], lst ▸ PySem.TriplesOk_snoc _ _ _ _ ht, fun p' cv am => ?_⟩
        rcases LamX.among_app _ ht (lst ▸ am) with z | z
        · obtain ⟨c0, z1, z2⟩ := ha p' cv z
          exact ⟨c0, z1, ext _ _ z2 LamX.codeO_ne⟩
        · exact ⟨c', z, upd_same⟩
      · obtain ⟨ps', a1, a2, a3⟩ := hT p hp
        refine ⟨ps', by rw [upd_ne (ne_of_none a1 newC), upd_ne isP]; exact a1, a2, fun p' cv am => ?_⟩
        obtain ⟨c0, z1, z2⟩ := a3 p' cv am
        exact ⟨c0, z1, ext _ _ z2 LamX.codeO_ne⟩
    · rw [upd_ne (Nat.ne_of_gt lt), upd_ne (Nat.ne_of_gt (Nat.lt_of_lt_of_le (Heap.lt_size atP) sz))]
      exact I2.hok.fresh sz
    · rw [upd_ne (Nat.ne_of_lt (Nat.lt_of_lt_of_le szD ge)), upd_ne DP]
      exact noD
end
section
variable {X : Cx} {pins : List (Addr × Obj)} {σ : L2.St} {H HZ : Hp} {s s1 : Shared}
theorem lamd_start {A : Around} {outer : List Env} {E : XK} {scope : Scope} {f c' : Addr} {h₁ : Heap} {tk : Nat} {b : Str} {m : Str → Option Value} (I : Inv X pins σ H s) (L : LamD X.N X.env.scope scope b) (e0 : Env0 X.prog X.w X.K X.mg X.base A outer s1 HZ) (hd : A.handled = none)
    (un : Un (frs X.stack) [] H HZ s.heap s1.heap) (hns : h₁.Ns s1.heap.objs.size m) (kp : ∀ b o, s1.heap.get? b = some o → h₁.get? b = some o) :
    Inv (LamX.lamCx X A outer s1 HZ E scope f c') [] σ HZ { s1 with heap := h₁, toks := tk } := by
  have caught : ∀ {y c}, (cloFrom X.env.cells scope.names []).lookup y = some c → X.env.cells.lookup y = some c := by
    intro y c e
    rcases cloFrom_mem (PySem.mem_of_lookup e) with z | ⟨z1, z2⟩
    · cases z
    obtain ⟨c1, hc⟩ := L.has I.ok _ z1 rfl
    have hc : X.env.cells.lookup y = some c1 := hc
    rw [hc, z2, hc]
    rfl
  have held : ∀ {y}, scope.names.lookup y = some .free → ∃ c, (cloFrom X.env.cells scope.names []).lookup y = some c := by
    intro y e
    exact mem_lookup (cloFrom_has (cells := X.env.cells) (acc := []) (show (y, NameKind.free) ∈ scope.names from PySem.mem_of_lookup e))
  have stays : ∀ {c : Addr} {v : Option Value}, H c = none → s.heap.IsCell c v → h₁.IsCell c v := by
    rintro c v n ⟨o, ho, hd⟩
    obtain ⟨sl, q⟩ := un.any ho n (List.not_mem_nil)
    exact ⟨_, kp _ _ q, hd⟩
  constructor
  · constructor
    · exact e0.mod
    · exact L.kind
    · rfl
    · rfl
    · exact Nat.le_refl _
    · exact fun y z c e1 e2 => I.ok.inj y z c (caught e1) (caught e2)
    · intro y hy
      rcases (show scope.names.lookup y = some .cell ∨ scope.names.lookup y = some .free from hy) with z | z
      · exact absurd rfl (L.own _ (PySem.mem_of_lookup z)).2
      · exact held z
    · intro y c z
      exact nomatch (show false = true from z)
    · exact fun _ => hd
    · exact Around.frames_deeper e0.frames
    · exact .inr ⟨rfl, rfl⟩
    · exact fun b z => nomatch (show b ∈ ([] : List Addr) from z)
    · exact e0.bs
    · exact e0.bsz
    · exact fun b _ _ z => nomatch (show b ∈ ([] : List Addr) from z)
    · exact fun b z => nomatch (show b ∈ ([] : List Addr) from z)
    · exact e0.funs
    · exact e0.frf
  · rfl
  · exact e0.bare
  · exact Un.kept kp
  · refine ⟨_, hns, fun i y v e1 e2 e3 => ?_⟩
    rcases (show Vis scope y from e3) with z | z | z
    · exact absurd (List.mem_of_getElem? (show X.N[i]? = some y from e1)) ((L.own _ (PySem.mem_of_lookup z)).1 rfl)
    · exact absurd rfl (L.own _ (PySem.mem_of_lookup z)).2
    · have from_ := L.free _ (PySem.mem_of_lookup z) rfl
      obtain ⟨_, _, look⟩ := I.loc
      obtain ⟨u, r, q⟩ := look i y v e1 e2 (from_.elim (fun k => .inr (.inl k)) fun k => .inr (.inr k))
      obtain ⟨c2, h2⟩ := held z
      refine ⟨u, r, .inr ⟨.inr z, c2, h2, ?_⟩⟩
      rcases q with ⟨k, _⟩ | ⟨_, c3, e', isC⟩
      · exfalso
        have k : X.env.scope.names.lookup y = some .local := k
        rcases from_ with k2 | k2 <;> rw [show X.env.scope.names.lookup y = _ from k2] at k <;> cases k
      · rw [caught h2] at e'
        cases e'
        exact stays (I.freeC y _ (caught h2)) isC
  · intro y c e
    obtain ⟨v, isC⟩ := I.cell y c (caught e)
    exact ⟨v, stays (I.freeC y c (caught e)) isC⟩
  · exact e0.hok.fresh (Nat.le_refl _)
  · intro y c e
    obtain ⟨v, o, ho, _⟩ := I.cell y c (caught e)
    exact un.free c o ho (I.freeC y c (caught e)) (List.not_mem_nil)
  · exact fun q z => nomatch (show q ∈ ([] : List (Addr × Obj)) from z)
  · exact e0.hok.kept kp
  · exact I.len
theorem pe_actD {CXg : CXT} {Eg : XK} {Ng : List Str} {qg : Str} {sg : Scope} {g f c' D : Addr} {u cdg : Value} {params : Arguments} {body : Expr} {scope : Scope} {k i : Nat} {a b : Str} {pn : List (Addr × Obj)} {xe : Value → Shared → Prop} {W : WX} {E : XK} {tb : TE} {p1 p2 : Pos}
    (I : Inv X pins σ H s) (L : LamD X.N X.env.scope scope b) (made : MadeD X H s params body scope f c' D u)
    (hbind : ∀ (q : Str) (cl : List (Str × Addr)) (D : Addr) (u doc pm cv ctv : Value), ∃ k, bindArgs (PySem.W.kdv_fn "<lambda>" q params (.expr body) scope cl (.ref D) doc pm cv ctv) ⟨[], []⟩ = seqItems? (.ref D) >>= k ∧ k (some #[u]) = pure [(b, u)])
    (tk : Takes ((cxOf CXg X.prog X.w X.K X.mg X.base Ng qg sg g cdg X.A X.stack s H Eg).tr pn xe) W) (hW : ∀ cls d σ' H', E cls d H' → W cls d σ' H') (hr : Room (k + 1) (X.A.deeper (envOfC qg sg s.heap.objs.size g cdg)))
    (hbody : ∀ (A : Around) (outer : List Env) (s : Shared) (H : Hp), Room k (A.deeper (LamX.lamEnv X scope s.heap.objs.size f c')) → PE (LamX.lamCx X A outer s H E scope f c') body tb)
    (hN : Ng[i]? = some a) (hv : Vis sg a) (hd : (a == ("__debug__" : Str)) = false := by decide) (hcd : (a == ("__classdict__" : Str)) = false := by decide) :
    PE ((cxOf CXg X.prog X.w X.K X.mg X.base Ng qg sg g cdg X.A X.stack s H Eg).tr pn xe) (.Call (.Name a p1) [] [] p2)
      (fun σZ HZ Q => σZ[i]? = some (some (.ref f)) ∧ HZ c' = some (LamX.CodeO c' (X.env.qual ++ "<lambda>")) ∧ tb σ HZ Q) := by
  constructor
  rintro pinsZ sZ σZ HZ Q IZ ⟨hs, hc, ht⟩
  apply wpAny_Call_Name_kw
  refine thn ((pe_var (pos := p1) (i := i) hN hv hd hcd).run pinsZ sZ σZ HZ (fun v H1 => v = .ref f ∧ H1 = HZ) IZ ⟨.ref f, hs, rfl, rfl⟩) ?_
  rintro u1 s1 ⟨v, H1, I1, r1, rfl, rfl⟩
  cases (show u1 = Value.ref f from r1)
  obtain ⟨doc, pm, ctv, at_f⟩ := made.at_f
  have of1 := I1.base.keep f _ at_f made.nf made.ff (fun z => nomatch (show f ∈ ([] : List Addr) from z))
  have oD := I1.base.keep D _ made.at_D made.nD made.fD (fun z => nomatch (show D ∈ ([] : List Addr) from z))
  refine PySem.W.callWith_F0 ⟨_, _, _, _, of1⟩ ?_
  have un : Un (frs X.stack) [] H H1 s.heap s1.heap := I1.base
  obtain ⟨⟨oc, vs, t, hoc, hdc, hvc⟩, _, _⟩ := I1.hok c' _ hc
  obtain ⟨kb, b1, b2⟩ := hbind (X.env.qual ++ "<lambda>") (cloFrom X.env.cells scope.names []) D u doc pm (.ref c') ctv
  have bd : BindsTo s1 (PySem.W.kdv_fn "<lambda>" (X.env.qual ++ "<lambda>") params (.expr body) scope (cloFrom X.env.cells scope.names []) (.ref D) doc pm (.ref c') ctv) ⟨[], []⟩ [(b, u)] := BindsTo.of_defaults rfl oD rfl b1 b2
  have rc : codeAny (model X.prog X.w) (X.A.deeper (envOfC qg sg s.heap.objs.size g cdg)) (.call (.ref f) ⟨[], []⟩) (CR (L2.CX X.prog X.w) (envOfC qg sg s.heap.objs.size g cdg :: X.stack) X.prog X.w H1 s1 Q E) s1 := by
    refine PySem.W.kla_callFunE hr.depth of1 rfl L.co L.gen rfl ⟨c', oc, vs, t, rfl, hoc, hdc, hvc⟩ (bd _ _ _ _ ?_)
    refine wpAny_newFunctionEnv (fun y hy => (L.own y hy).2) (fun y hy => ?_) (fun h₁ hns hsb => ⟨I1.nolimit.fresh _ hsb, ?_⟩) L.kind
    · cases List.mem_singleton.mp hy
      exact L.par
    show codeAny _ _ (.expr body (LamX.lamEnv X scope s1.heap.objs.size f c')) _ _
    have kp : ∀ b o, s1.heap.get? b = some o → h₁.get? b = some o := fun b o e => hsb.extBut b o (Nat.ne_of_lt (Heap.lt_size e)) (Heap.get?_push_of_some _ e)
    have J : Inv (LamX.lamCx X (X.A.deeper (envOfC qg sg s.heap.objs.size g cdg)) (envOfC qg sg s.heap.objs.size g cdg :: X.stack) s1 H1 E scope f c') [] σ H1 { s1 with heap := h₁, toks := s1.toks + [(b, u)].length } :=
      lamd_start I L I1.env0 hr.hd un hns kp
    apply PySem.W.kla_codeExpr
    refine wpAny_mono ((hbody _ _ s1 H1 (hr.deeper _)).run [] _ _ H1 Q J ht) ?_ (fun _ _ z => z)
    rintro v' s' ⟨w', H', J', rv, q⟩
    exact ⟨w', H', J'.os, J'.bare, J'.base, J'.hok, rv, q⟩
  have hx : Passes (L2.CX X.prog X.w) ((cxOf CXg X.prog X.w X.K X.mg X.base Ng qg sg g cdg X.A X.stack s H Eg).tr pn xe) E := passes_call tk hW
  refine wpAny_call (codeAny_mono rc fun r s' hq => ?_)
  cases r with
  | error e => exact hx pinsZ σZ H1 s1 e s' I1 hq
  | ok fl =>
    cases fl with
    | ret u => exact I1.after hq
    | next => exact False.elim hq
    | brk => exact False.elim hq
    | cont => exact False.elim hq
end
/-- x(lambda b=..: body) -/
theorem pe_lamcallD {X : Cx} {T : List (Addr × Str)} {TT : (XK → Hp → VK → Prop) → Hp → VK → Prop} {x a b : Str} {g c P : Addr} {k : Nat} {pg : Arguments} {bg : List Stmt} {sg : Scope} {dV kV doc pm cdv ct oc : Value} {an od : Option Addr} {osl : Array (Option Value)} {Ng : List Str}
    {params : Arguments} {body d : Expr} {v0 : V} {scope : Scope} {t : XK → TE} {p lpos pos : Pos} (hg : Gl X x) (hm : X.mg x = some (.ref g)) (hk : PySem.W.keepIn X.K (.ref g) = true)
    (lk : X.K.lookup g = some ⟨oc, od, .func (PySem.W.fnOf x x pg bg sg dV kV doc pm an cdv ct), osl⟩) (hcg : PySem.W.codeIn X.K cdv x = true) (hb : L2.Binds X.K (PySem.W.fnOf x x pg bg sg dV kV doc pm an cdv ct) [a] []) (Sg : FnScope Ng [a] sg) (hNg : Ng[0]? = some a) (hva : Vis sg a)
    (hG : LamX.GivesTo X Ng x sg g cdv bg a (X.env.qual ++ "<lambda>") TT)
    (TB : LamX.TabB X.base X.mg c P) (hcode : X.env.code = .ref c) (hmT : (P, X.env.qual ++ "<lambda>") ∈ T) (hu : ∀ p ∈ T, p.1 = P → p.2 = X.env.qual ++ "<lambda>") (hr : Room (k + 2) X.A) (L : LamD X.N X.env.scope scope b) (hk0 : params.kw_defaults = []) (hd0 : params.defaults = [d]) (pd : PE X d (tC v0))
    (hbind : ∀ (q : Str) (cl : List (Str × Addr)) (D : Addr) (u doc pm cv ctv : Value), ∃ k, bindArgs (PySem.W.kdv_fn "<lambda>" q params (.expr body) scope cl (.ref D) doc pm cv ctv) ⟨[], []⟩ = seqItems? (.ref D) >>= k ∧ k (some #[u]) = pure [(b, u)])
    (hbody : ∀ (A : Around) (outer : List Env) (s : Shared) (H : Hp) (E : XK) (f c' : Addr), Room k (A.deeper (LamX.lamEnv X scope s.heap.objs.size f c')) → PE (LamX.lamCx X A outer s H E scope f c') body (t E))
    (hdb : (x == ("__debug__" : Str)) = false := by decide) (hd : (a == ("__debug__" : Str)) = false := by decide) (hcd : (a == ("__classdict__" : Str)) = false := by decide) :
    PE X (.Call (.Name x p) [.Lambda params body scope lpos] [] pos) (LamX.tLam T TT t) := by
  constructor
  rintro pins s σ H Q I ⟨hT, h⟩
  apply wpAny_Call_Name_kw
  refine ld_glob I hg hm ?_ hdb
  refine PySem.W.callWith_K (h₀ := X.base) I.ok.mod.kin hk ?_ (by rfl) (by rfl)
  show wpAny _ _ (spliced ((false, eval (.Lambda params body scope lpos) X.env) :: backTo pos (starEach [] X.env))) _ _ s
  apply Calls.spliced_cons
  refine lamd_make I TB hcode hmT hu hT hk0 hd0 pd (L.has I.ok) ?_
  intro f c' D u H1 s' I1 eN T1 made
  refine Calls.spliced_nil ⟨I1.kIn, ?_⟩
  have rc : codeAny (model X.prog X.w) X.A (.call (.ref g) ⟨[.ref f], []⟩) (CR C8.CX0 X.stack X.prog X.w H1 s' Q C8.E0) s' := by
    refine LamX.run_ofS (N := Ng) (ps := [a]) (us := [.ref f]) (vs := [.ref f]) lk hcg Sg hr I1.env0 (hb s' [.ref f] I1.kIn rfl) (.cons rfl .nil) rfl fun hr' => ?_
    obtain ⟨t', ht', hq'⟩ := hG f c' s' H1 Q (fun E H' Q' => t E σ H' Q') (fun W pn xe E p1 p2 tk hW => pe_actD (i := 0) I1 L made hbind tk hW hr' (fun A outer s H hr2 => hbody A outer s H E f c' hr2) hNg hva hd hcd) made.cd (h H1 eN T1)
    exact ⟨t', ht'.nox, hq'⟩
  refine wpAny_call (codeAny_mono rc fun r s2 hq => ?_)
  cases r with
  | error e => exact (show False from hq).elim
  | ok fl =>
    cases fl with
    | ret u => exact I1.after hq
    | next => exact False.elim hq
    | brk => exact False.elim hq
    | cont => exact False.elim hq
/-! ### what is asked of the def that asks -/
section
variable {X : Cx} {k : Nat} {c P0 : Addr} {params : Arguments} {body d : Expr} {v0 : V} {scope : Scope} {t : XK → TE} {p lpos pos : Pos} {b : Str}
theorem one_tab {P0 : Addr} {q : Str} : ∀ p ∈ [(P0, q)], p.1 = P0 → p.2 = q := by
  intro p hp _
  rw [List.mem_singleton.mp hp]
theorem pe_try (T : Txt X.K X.mg) (hg : Gl X "_law_try") (TB : LamX.TabB X.base X.mg c P0) (hcode : X.env.code = .ref c) (hr : Room (k + 3) X.A) (L : LamX.LamS X.env.scope scope) (hdef : defaultsOf params X.env = ([], []))
    (hbind : ∀ (q : Str) (cl : List (Str × Addr)) (pm cv ctv : Value), bindArgs (PySem.W.kla_fn "<lambda>" q params body scope cl pm cv ctv) ⟨[], []⟩ = pure [])
    (hbody : ∀ (A : Around) (outer : List Env) (s : Shared) (H : Hp) (E : XK) (f c' : Addr), Room (k + 1) (A.deeper (LamX.lamEnv X scope s.heap.objs.size f c')) → PE (LamX.lamCx X A outer s H E scope f c') body (t E)) :
    PE X (.Call (.Name "_law_try" p) [.Lambda params body scope lpos] [] pos) (LamX.tLam [(P0, X.env.qual ++ "<lambda>")] (TTry X.K T.r_GrainError) t) := by
  obtain ⟨oc2, od2, kV2, doc2, pm2, an2, cdv2, ct2, osl2, eT, lkT, cdT⟩ := T.F_try.ex
  have bT := T.b_try
  rw [eT] at bT
  rw [eT] at lkT
  exact LamX.pe_lamcall hg T.g_try T.F_try.kp lkT cdT bT sc_try rfl (Or.inl rfl) (try_gives T rfl rfl (k := k) hr) TB hcode (List.mem_singleton.mpr rfl) one_tab hr L hdef hbind hbody
theorem pass_never {X : Cx} {P : Program} {w : World} : Passes (L2.CX P w) X (fun _ _ _ => False) := by
  intro pins σ H s e s' I z
  obtain ⟨_, _, _, _, _, _, _, _, _, _, _, _, he⟩ := z
  exact he.elim
end
/-! ### an error of the first kind, told -/
section
variable {P : Program} {K : PySem.W.Frag} {mg : Str → Option Value} {G : Addr} {st : Stmt} {nm qual : Str} {B newId initId : String} {bmB : List Value}
theorem exm_er (T : Er P K mg B newId initId bmB [.ref G] st nm qual) {cg : ClassData} (hg : PySem.W.clsIn K G = some cg) (tg : PySem.W.typeIn K (.ref G) = some (.type "type")) (sb : PySem.W.subIn K (.ref G) (.type "BaseException") = some true) : PySem.W.exmOne K (.ref T.C) (.ref G) = some true := by
  unfold PySem.W.exmOne
  rw [if_pos (by rw [sb]; rfl)]
  unfold PySem.W.kitCls
  dsimp only
  rw [hg, tg, if_pos (show ((some cg).isSome && some (Value.type "type") == some (Value.type "type")) = true from show (true && some (Value.type "type") == some (Value.type "type")) = true by decide +kernel)]
  show PySem.W.mroIn K T.C (.ref G) = _
  obtain ⟨cd, hc, _, hm⟩ := T.cl
  unfold PySem.W.mroIn
  rw [hc, Option.bind_some, hm]
  show some ((Value.ref T.C :: ([Value.ref G] ++ _)).contains (.ref G)) = some true
  congr 1
  rw [List.contains_cons, List.cons_append, List.contains_cons, beq_self_eq_true]
  simp
theorem raised_er (T : Er P K mg B newId initId bmB [.ref G] st nm qual) {cg : ClassData} (hg : PySem.W.clsIn K G = some cg) (tg : PySem.W.typeIn K (.ref G) = some (.type "type")) (sb : PySem.W.subIn K (.ref G) (.type "BaseException") = some true)
    {w : Str} {fs : List (Str × V)} {v : V} (no : ∀ f v, fs.lookup f = some v → PySem.W.findIn K (.ref T.C) f = some none) (wd : fs.lookup ("word" : Str) = some (.str w)) (fv : fieldVal w fs = some v)
    {Q : VK} {d : Addr} {Hf : Hp} (hd : Hf d = some (.xd fs)) (q : Told Q w v Hf) : Raised K G Q (.ref T.C) (some d) Hf :=
  ⟨exm_er T hg tg sb, w, fs, v, ⟨⟨_, d, rfl, rfl, xfc_of T, hd, no⟩, wd⟩, fv, q⟩
theorem no_two {C : Addr} {f1 : Str} {v1 v2 : V} (h1 : PySem.W.findIn K (.ref C) f1 = some none) (h2 : PySem.W.findIn K (.ref C) "word" = some none) : ∀ f v, List.lookup f [(f1, v1), (("word" : Str), v2)] = some v → PySem.W.findIn K (.ref C) f = some none := by
  intro f v e
  simp only [List.lookup] at e
  split at e
  · rename_i z
    rw [eq_of_beq z]
    exact h1
  · split at e
    · rename_i z
      rw [eq_of_beq z]
      exact h2
    · cases e
theorem no_one {C : Addr} {v2 : V} (h2 : PySem.W.findIn K (.ref C) "word" = some none) : ∀ f v, List.lookup f [(("word" : Str), v2)] = some v → PySem.W.findIn K (.ref C) f = some none := by
  intro f v e
  simp only [List.lookup] at e
  split at e
  · rename_i z
    rw [eq_of_beq z]
    exact h2
  · cases e
end
/-! ### what stays where lambdas are made -/
theorem Bag.extN {H H' : Hp} {b sb : Addr} (B : Bag H b sb) (e : LamX.ExtN H H') : Bag H' b sb := by
  obtain ⟨ns, i, j, m, c, h1, h2, h3, h4, h5, h6⟩ := B
  exact ⟨ns, i, j, m, c, e _ _ h1 (fun _ z => by cases z), e _ _ h2 (fun _ z => by cases z), h3, h4, h5, h6⟩
theorem lst_extN {H H' : Hp} {a : Addr} {xs : List V} (h : H a = some (.lst xs)) (e : LamX.ExtN H H') : H' a = some (.lst xs) := e _ _ h (fun _ z => by cases z)
theorem tup_extN {H H' : Hp} {a : Addr} {xs : List V} (h : H a = some (.tup xs)) (e : LamX.ExtN H H') : H' a = some (.tup xs) := e _ _ h (fun _ z => by cases z)
theorem tabs_keep {H H' : Hp} {b sb : Addr} {T : List (Addr × Str)} (t : LamX.Tabs T H) (B : Bag H b sb) (k : Keep b H H') : LamX.Tabs T H' := by
  intro p hp
  obtain ⟨ps, h1, h2, h3⟩ := t p hp
  obtain ⟨ns, i, j, m, c, B⟩ := B
  refine ⟨ps, k _ _ (ne_of h1 B.hb (by intro z; cases z)) h1, h2, fun pos cv hc => ?_⟩
  obtain ⟨c', e1, e2⟩ := h3 pos cv hc
  exact ⟨c', e1, k _ _ (ne_of e2 B.hb (by intro z; unfold LamX.CodeO at z; cases z)) e2⟩
/-! ### the law -/
abbrev qn : Str := "law" ++ ".<locals>." ++ "<lambda>"
theorem rows_lk {H : Hp} {F : Nat → Int × Int} {p q : Addr} {xs ys : List Addr} (hp : H p = some (.lst (xs.map V.ref))) (hq : H q = some (.lst (ys.map V.ref))) (hl : xs.length = ys.length) (hs : xs.length ≤ 1000) (hx : Rows H F xs) (hy : Rows H F ys) : Lk H 2 (.ref p) (.ref q) := by
  refine .inr ⟨p, q, _, _, rfl, rfl, .inr ⟨hp, hq⟩, by simpa using hl, by simpa using hs, fun i x y e1 e2 => ?_⟩
  rw [List.getElem?_map] at e1 e2
  cases f1 : xs[i]? with
  | none => rw [f1] at e1; cases e1
  | some x' =>
    cases f2 : ys[i]? with
    | none => rw [f2] at e2; cases e2
    | some y' =>
      rw [f1] at e1
      rw [f2] at e2
      cases e1
      cases e2
      exact Lk.pair (hx i x' f1) (hy i y' f2) rfl rfl
theorem rows_same {H H' : Hp} {F : Nat → Int × Int} {xs : List Addr} (h : Rows H F xs) (k : Same H H') : Rows H' F xs := fun i x e => k _ _ (h i x e)
theorem rows_take {H : Hp} {F : Nat → Int × Int} {xs : List Addr} {k : Nat} (rows : Rows H F xs) : Rows H F (xs.take k) := by
  intro i x e
  rw [List.getElem?_take] at e
  split at e
  · exact rows i x e
  · cases e
theorem cut_first (xs : List Addr) (k : Nat) : cutV (xs.map V.ref) none (some (k : Int)) = (xs.take k).map V.ref := by
  unfold cutV
  rw [HT.sIx_nat, HT.sIx_none, List.length_map, List.drop_zero, Nat.sub_zero, List.map_take]
  by_cases h : k ≤ xs.length
  · rw [Nat.min_eq_left h]
  · rw [Nat.min_eq_right (by omega), List.take_of_length_le (by simp), List.take_of_length_le (by simp; omega)]
theorem dcnt {K : PySem.W.Frag} {H : Hp} {p : Addr} {n : Int} (h : H p = some (.tup [.str "BadCount", .int n])) : Dp K H (.ref p) (.tuple [.str "BadCount", .int n]) := .tup (SqT.of h) (.cons (.str _) (.cons (.int n) .nil))
theorem scnt (n : Int) : SeqAt.shaped (.tuple [.str "BadCount", .int n]) = true := by kernel_rfl
theorem ecnt (n : Int) : PyData.eqv (.tuple [.str "BadCount", .int n]) (.tuple [.str "BadCount", .int n]) = true := PySem.SeqAt.eqv_refl_plain _ (by simp [PyData.plain, PyData.plainAll])
section
variable {base : Heap} {K : PySem.W.Frag} {mg : Str → Option Value} {w : World}
theorem told_cnt (T : Txt K mg) {H : Hp} {n : Int} {Q : VK} (q : ∀ H' p, Same H H' → H' p = some (.tup [.str "BadCount", .int n]) → Q (.ref p) H') : Throws T.e_BadCount.C (badCount (.int n)) H (Raised K T.r_GrainError Q) := by
  intro x Hf nx sf fx
  obtain ⟨cg, hg, _⟩ := T.c_GrainError
  exact raised_er T.e_BadCount hg T.t_GrainError T.sb_GrainError (no_two T.x_BadCount_number T.x_BadCount_word) rfl rfl fx fun H' p s' hp => q H' p (sf.trans s') hp
def spLaw (K : PySem.W.Frag) (P0 : Addr) : Sp := fun vs H Q _ => ∃ (a : Addr) (ns : List Int), vs = [.ref a] ∧ SqL K H a (ns.map V.int) ∧ ns.length ≤ 63 ∧ H P0 = some (.tbl #[]) ∧ ∀ H', Q (.bl true) H'
theorem ok_law {f c P0 : Addr} {oc kV doc pm ct : Value} {od an : Option Addr} {osl : Array (Option Value)} (lk : K.lookup f = some ⟨oc, od, .func (PySem.W.fnOf "law" "law" (defArgs s_law) (defBody s_law) (defScope s_law) .none kV doc pm an (.ref c) ct), osl⟩) (hcd : PySem.W.codeIn K (.ref c) "law" = true)
    (TB : LamX.TabB base mg c P0) (T : Txt K mg) : FnOk PySem.Challenge.pw_grainyard_k06_fractions_one_by_one w K mg base CX0 16 f (PySem.W.fnOf "law" "law" (defArgs s_law) (defBody s_law) (defScope s_law) .none kV doc pm an (.ref c) ct) ["_law_script"] (spLaw K P0) := by
  refine fn_of lk hcd sc_law (fun vs H Q E h => ?_) (fun A outer s H vs Q E hr h => ?_)
  · obtain ⟨a, ns, rfl, _⟩ := h
    rfl
  · obtain ⟨a, ns, rfl, hS, hlen, hP, q⟩ := h
    refine ⟨_, PSs.nox (pss_cons (ps_set (i := 1) sc_law.nd rfl (Or.inl rfl) (pe_call (ok_source T) (hr.mono (by decide)) (by rfl) T.g_source T.F_source.kp T.b_source .nil pass0 (pa_cons (pv 0) pa_nil)))
      (pss_cons (ps_for PassesOwn.never rfl (pi_range1 (by rfl) T.n_range (pa_cons pe_int pa_nil)) (pg_name (i := 2) sc_law.nd rfl (Or.inl rfl)) (pss_cons (ps_asg (pe_tup (pa_cons (pe_call (ok_of T) (hr.mono (by decide)) (by rfl) T.g_of T.F_of.kp T.b_of .nil pass0 (pa_cons (pv 1) (pa_cons (pe_lst (pa_cons (pe_call (ok_a_root T) (hr.mono (by decide)) (by rfl) T.g_a_root T.F_a_root.kp T.b_a_root .nil pass0 (pa_cons (pv 1) pa_nil)) (pa_cons (pe_call (ok_of T) (hr.mono (by decide)) (by rfl) T.g_of T.F_of.kp T.b_of .nil pass0 (pa_cons (pv 1) (pa_cons (pe_call0 (ok_roots T) (hr.mono (by decide)) (by rfl) T.g_roots T.F_roots.kp T.b_roots .nil pass0) pa_nil))) pa_nil))) pa_nil))) (pa_cons (pe_call (ok_pull T) (hr.mono (by decide)) (by rfl) T.g_pull T.F_pull.kp T.b_pull .nil pass0 (pa_cons (pv 1) (pa_cons pe_int pa_nil))) pa_nil))) (pg_tup (by rfl) (pgs_cons (pg_name (i := 7) sc_law.nd rfl (Or.inr rfl)) (pgs_cons (pg_name (i := 8) sc_law.nd rfl (Or.inl rfl)) pgs_nil))))
      (pss_cons (ps_set (i := 3) sc_law.nd rfl (Or.inl rfl) (pe_call (ok_lfractions T) (hr.mono (by decide)) (by rfl) T.g_lfractions T.F_lfractions.kp T.b_lfractions .nil pass0 (pa_cons (pv 7) (pa_cons (pv 8) pa_nil))))
      (pss_cons (ps_if (pt_not (pt_val (pe_call (ok_like T) (hr.mono (by decide)) (by rfl) T.g_like T.F_like.kp T.b_like .nil pass0 (pa_cons (pe_listF T rfl rfl rfl rfl rfl (hr.mono (by decide)) (by rfl) (by rfl) T.n_list (pa_cons (pv 7) (pa_cons (pv 8) pa_nil))) (pa_cons (pv 3) pa_nil))))) (pss_one (ps_ret pe_bl)) pss_nil)
      (pss_cons (ps_par (i := 9) (j := 10) (by rfl) sc_law.nd rfl rfl (by decide) rfl rfl (pa_cons (pe_lst pa_nil) (pa_cons (pe_call (ok_pull T) (hr.mono (by decide)) (by rfl) T.g_pull T.F_pull.kp T.b_pull .nil pass0 (pa_cons (pv 1) (pa_cons pe_int pa_nil))) pa_nil)) (by rfl))
      (pss_cons (ps_forF T rfl rfl rfl rfl rfl (hr.mono (by decide)) (by rfl) T.kb_fractions_count_root (pk_cons (pe_call (ok_of T) (hr.mono (by decide)) (by rfl) T.g_of T.F_of.kp T.b_of .nil pass0 (pa_cons (pv 1) (pa_cons (pe_lst (pa_cons pe_int (pa_cons (pe_op op_pow pe_int pe_int) pa_nil))) pa_nil))) (pk_cons (pv 7) pk_nil)) rfl rfl rfl rfl rfl rfl sc_law.nd (is := 9) (im := 10) (ir := 4) rfl rfl rfl rfl (by rfl) T.n_len rfl rfl rfl rfl rfl (Or.inl rfl) (Or.inl rfl) (by decide) (by decide) rfl rfl rfl rfl rfl rfl rfl rfl rfl rfl (fun _ => rfl))
      (pss_cons (ps_if (pt_not (pt_val (pe_call (ok_like T) (hr.mono (by decide)) (by rfl) T.g_like T.F_like.kp T.b_like .nil pass0 (pa_cons (pv 9) (pa_cons (pe_slice sl_list (pe_call (ok_lfractions T) (hr.mono (by decide)) (by rfl) T.g_lfractions T.F_lfractions.kp T.b_lfractions .nil pass0 (pa_cons (pv 7) (pa_cons pe_int pa_nil))) po_none (po_some (pv 10))) pa_nil))))) (pss_one (ps_ret pe_bl)) pss_nil)
      (pss_cons (ps_set (i := 5) sc_law.nd rfl (Or.inl rfl) (pe_op op_sub (pe_op op_sub pe_int pe_int) (pe_call (ok_a_far T) (hr.mono (by decide)) (by rfl) T.g_a_far T.F_a_far.kp T.b_a_far .nil pass0 (pa_cons (pv 1) pa_nil))))
      (pss_one (ps_for PassesOwn.never rfl (pi_tup (pe_tup (pa_cons (pe_un un_neg pe_int) (pa_cons (pv 5) pa_nil)))) (pg_name (i := 6) sc_law.nd rfl (Or.inr rfl)) (pss_one (ps_if (pt_cmpR (op_neD hr.units) (pe_try (k := 12) T (by rfl) TB rfl (hr.mono (by decide)) (LamX.lamS_by (sc := defScope s_law) (by decide +kernel)) rfl (fun _ _ _ _ _ => rfl) (fun A outer s H E f c' hr2 => (pe_listBad T rfl rfl rfl rfl (hr2.mono (by decide)) (by rfl) (by rfl) T.n_list (pa_cons (pv 7) (pa_cons (pv 6) pa_nil)) (passes_call (takes_of rfl rfl rfl rfl) (fun _ _ _ _ h => h))))) (pe_tup (pa_cons pe_str (pa_cons (pv 6) pa_nil))) (nomark _)) (pss_one (ps_ret pe_bl)) pss_nil))))))))))))
      (pss_one (ps_ret (pe_and (pe_cmpR (op_eqD hr.units) (pe_listF T rfl rfl rfl rfl rfl (hr.mono (by decide)) (by rfl) (by rfl) T.n_list (pa_cons pe_int (pa_cons pe_int pa_nil))) (pe_lst (pa_cons (pe_tup (pa_cons pe_int (pa_cons pe_int pa_nil))) (pa_cons (pe_tup (pa_cons pe_int (pa_cons pe_int pa_nil))) (pa_cons (pe_tup (pa_cons pe_int (pa_cons pe_int pa_nil))) pa_nil)))) (nomark _)) (pe_one (pe_cmpR (op_eqD hr.units) (pe_listF T rfl rfl rfl rfl rfl (hr.mono (by decide)) (by rfl) (by rfl) T.n_list (pa_cons pe_int (pa_cons pe_int pa_nil))) (pe_lst pa_nil) (nomark _)))))))), ?_⟩
    refine ⟨_, rfl, a, ns, rfl, hS, hlen, fun b sb H1 nb s1 B1 => ?_⟩
    have tb1 : LamX.Tabs [(P0, qn)] H1 := fun p hp => by
      rw [List.mem_singleton.mp hp]
      exact LamX.TabS.nil (s1 _ _ hP)
    refine ⟨4, rfl, by decide, by decide, for_range (lo := 0) (n := 4) (fun i σ H' => (∃ y2 y3 y4 y5 y6 y7 y8 y9 y10, σ = [some (.ref a), some (.ref b), y2, y3, y4, y5, y6, y7, y8, y9, y10]) ∧ Bag H' b sb ∧ LamX.Tabs [(P0, qn)] H') ⟨⟨none, none, none, none, none, none, none, none, none, rfl⟩, B1, tb1⟩ ?_ ?_⟩
    · rintro i σ H2 hi ⟨⟨y2, y3, y4, y5, y6, y7, y8, y9, y10, rfl⟩, B2, tb2⟩
      have hz : ((rootsTo 98).map V.int).length = 90 := by decide +kernel
      refine ⟨_, rfl, _, rfl, b, sb, rfl, B2, fun d1 H3 hd1 B3 k3 => ⟨_, rfl, rfl, fun pr H4 npr s4 hpr => ⟨b, sb, pr, _, rfl, B3.same s4, hpr, B3.ne npr, by omega, by omega, fun i2 v2 H5 hv2 B5 k5 => ?_⟩⟩⟩
      obtain ⟨d2, rfl, hd2⟩ := root_in hv2
      refine ⟨by show 2 ≤ sizeLine; decide, fun l1 n1 => ⟨b, sb, l1, _, rfl, B5.new n1, upd_same, B5.ne n1, by simp, by simp, fun i1 v1 H6 hv1 B6 k6 => ?_⟩⟩
      obtain ⟨d, rfl, hd⟩ : ∃ d, v1 = .int d ∧ IsRoot d := by
        match i1, hv1 with
        | 0, hv => cases hv; exact ⟨_, rfl, hd1⟩
        | 1, hv => cases hv; exact ⟨_, rfl, hd2⟩
        | m + 2, hv => simp at hv
      refine ⟨_, rfl, b, sb, 61, rfl, B6, by decide, by decide, fun n0 H7 z0 z1 B7 k7 => ?_⟩
      obtain ⟨n, rfl⟩ := Int.eq_ofNat_of_zero_le z0
      refine ⟨by show 2 ≤ sizeLine; decide, fun tp ntp => ⟨tp, _, rfl, SqT.of upd_same, rfl, .int d, _, rfl, .int n, _, rfl, rfl, ?_⟩⟩
      have e8 := same_new (o := .tup [.int d, .int n]) ntp
      have B8 := B7.same e8
      have kk : Keep b H2 H7 := k3.trans ((keep_of s4).trans (k5.trans (((keep_new n1).trans k6).trans k7)))
      have tb8 := (tabs_keep tb2 B2 kk).ext e8
      generalize upd H7 tp (.tup [.int d, .int n]) = H8 at B8 tb8 ⊢
      clear e8 ntp kk k7 B7 hv1 k6 B6 n1 k5 B5 hv2 hpr s4 npr k3 B3 B2 tb2 hd1 hd2
      obtain ⟨r2, r99, v, v0, v1, v2⟩ := id hd
      have hw : isW d v := ⟨v0, v1, v2⟩
      refine ⟨_, rfl, _, rfl, d, v, n, rfl, r2, r99, hw, by omega, fun S1 xs1 H9 nS1 s9 hS1 lx1 rows1 => ?_⟩
      refine ⟨_, rfl, _, rfl, d, v, n, rfl, r2, r99, hw, by omega, fun S2 xs2 H10 nS2 s10 hS2 lx2 rows2 => ?_⟩
      refine ⟨_, rfl, _, _, rfl, (rows_lk hS2 (s10 _ _ hS1) (by rw [lx2, lx1]) (by omega) rows2 (rows_same rows1 s10)), fun H11 s11 => ⟨true, rfl, iteF ?_⟩⟩
      have B11 := B8.same (s9.trans (s10.trans s11))
      have tb11 := tb8.ext (s9.trans (s10.trans s11))
      clear s11 s10 s9 rows1 rows2 hS1 hS2 nS1 nS2
      refine ⟨by show 0 ≤ sizeLine; decide, fun D nD => ⟨_, rfl, b, sb, 9, rfl, B11.new nD, by decide, by decide, fun k0 H12 z2 z3 B12 k12 => ?_⟩⟩
      obtain ⟨k, rfl⟩ := Int.eq_ofNat_of_zero_le z2
      have nDb := B11.ne nD
      have nsb : sb ≠ D := by
        obtain ⟨_, _, _, _, _, _, h2, _⟩ := id B11
        exact ne_of_none h2 nD
      have hD12 := k12 _ _ nDb (upd_same (H := H11) (a := D) (o := .lst []))
      have tb12 := tabs_keep (tb11.ext (same_new (o := .lst []) nD)) (B11.new nD) k12
      refine ⟨_, _, rfl, ?_⟩
      refine ⟨_, rfl, 10, 18, rfl, rfl, ⟨by decide, by decide, by decide⟩, by show 2 ≤ sizeLine; decide, fun l2 n2 => ⟨b, sb, l2, _, rfl, B12.new n2, upd_same, B12.ne n2, by simp, by simp, fun i3 v3 H13 hv3 B13 k13 => ?_⟩⟩
      obtain ⟨rc, rfl, hrc, h62⟩ : ∃ rc : Nat, v3 = .int rc ∧ 60 ≤ rc ∧ rc < 2 ^ 62 := by
        match i3, hv3 with
        | 0, hv => cases hv; exact ⟨60, rfl, by decide, by decide⟩
        | 1, hv => cases hv; exact ⟨10 ^ 18, rfl, by decide, by decide⟩
        | m + 2, hv => simp at hv
      have hD13 := k13 _ _ nDb ((same_new (o := _) n2) _ _ hD12)
      have tb13 := tabs_keep (tb12.ext (same_new (o := _) n2)) (B12.new n2) k13
      refine ⟨_, rfl, rfl, d, v, rc, k, D, rfl, r2, r99, hw, by omega, h62, by omega, rfl, rfl, hD13, fun xs H14 hx hS14 rows14 keep14 => ?_⟩
      have B14 : Bag H14 b sb := by
        obtain ⟨ns', i', j', m', c', h1, h2, h3, h4, h5, h6⟩ := B13
        exact ⟨ns', i', j', m', c', keep14 _ _ h1 (Ne.symm nDb), keep14 _ _ h2 nsb, h3, h4, h5, h6⟩
      have tb14 : LamX.Tabs [(P0, qn)] H14 := by
        intro p hp
        obtain ⟨ps, h1, h2, h3⟩ := tb13 p hp
        refine ⟨ps, keep14 _ _ h1 (ne_of h1 hD13 (by intro z; cases z)), h2, fun pos cv hc => ?_⟩
        obtain ⟨c', e1, e2⟩ := h3 pos cv hc
        exact ⟨c', e1, keep14 _ _ e2 (ne_of e2 hD13 (by intro z; unfold LamX.CodeO at z; cases z))⟩
      clear B13 tb13 keep14 hD13 k13 hv3 n2 tb12 hD12 k12 B12 B11 tb11
      refine ⟨_, rfl, _, rfl, d, v, 60, rfl, r2, r99, hw, by decide, fun S3 xs3 H15 nS3 s15 hS3 lx3 rows3 => ⟨_, rfl, (k : Int), rfl, S3, _, rfl, SqL.of hS3, fun p np => ?_⟩⟩
      have dp := same_new (o := .lst (cutV (xs3.map V.ref) none (some (k : Int)))) np
      have hp : upd H15 p (.lst (cutV (xs3.map V.ref) none (some (k : Int)))) p = some (.lst ((xs3.take k).map V.ref)) := by rw [upd_same, cut_first]
      have sA := s15.trans dp
      refine ⟨_, _, rfl, rows_lk (sA _ _ hS14) hp (by rw [hx, List.length_take, lx3]; omega) (by omega) (rows_same rows14 sA) (rows_take (rows_same rows3 dp)), fun H16 s16 => ⟨true, rfl, iteF ?_⟩⟩
      have B16 := B14.same (sA.trans s16)
      have tb16 := tb14.ext (sA.trans s16)
      clear s16 sA hp dp np rows3 hS3 s15 nS3 B14 tb14 rows14 hS14
      refine ⟨0, 1, rfl, rfl, _, rfl, b, sb, rfl, B16, fun x3 H17 x4 x5 B17 k17 => ⟨_, x3, rfl, rfl, ?_⟩⟩
      have tb17 := tabs_keep tb16 B16 k17
      refine ⟨1, rfl, _, rfl, by show 2 ≤ sizeLine; decide, fun tq ntq => ?_⟩
      have e4 := same_new (o := .tup [.int (-1), .int (0 - 1 - x3)]) ntq
      have B18 := B17.same e4
      have tb18 := tb17.ext e4
      have htq : upd H17 tq (.tup [.int (-1), .int (0 - 1 - x3)]) tq = some (.tup [.int (-1), .int (0 - 1 - x3)]) := upd_same
      generalize upd H17 tq (.tup [.int (-1), .int (0 - 1 - x3)]) = H18 at htq B18 tb18 ⊢
      clear e4 ntq k17 B17 tb17 B16 tb16
      refine ⟨tq, rfl, ⟨_, SqT.of htq⟩, for_tup (K := K) (a := tq) (xs := [.int (-1), .int (0 - 1 - x3)]) (fun j σ G => ∃ y4 y6, σ = [some (.ref a), some (.ref b), some (.int (0 + (i : Int))), some (.ref S1), y4, some (.int (0 - 1 - x3)), y6, some (.int d), some (.int n), some (.ref D), some (.int k)] ∧ Bag G b sb ∧ LamX.Tabs [(P0, qn)] G ∧ G tq = some (.tup [.int (-1), .int (0 - 1 - x3)]))
        ⟨_, _, rfl, B18, tb18, htq⟩ (fun j σ G _ ⟨_, _, _, _, _, z⟩ => SqT.of z) ?_ ?_⟩
      · rintro j x σ G hx ⟨y4', y6', rfl, BG, tbG, hG⟩
        obtain ⟨m, rfl, hm⟩ : ∃ m : Int, x = .int m ∧ m < 0 := by
          match j, hx with
          | 0, hx => cases hx; exact ⟨_, rfl, by decide⟩
          | 1, hx => cases hx; exact ⟨_, rfl, by omega⟩
          | k + 2, hx => simp at hx
        refine ⟨tbG, fun Ha ea tba => ⟨_, rfl, _, rfl, d, m, rfl, hm, told_cnt T fun Hb p1 sb1 hp1 => ?_⟩⟩
        have Bb := (BG.extN ea).same sb1
        have hGb := sb1 _ _ (tup_extN hG ea)
        refine ⟨_, rfl, by show 2 ≤ sizeLine; decide, fun u nu => ?_⟩
        have cu := same_new (o := .tup [.str "BadCount", .int m]) nu
        refine ⟨_, _, dcnt (cu _ _ hp1), dcnt upd_same, scnt m, scnt m, false, by rw [ecnt]; rfl, iteF ?_⟩
        exact ⟨_, _, rfl, Bb.same cu, (tba.ext sb1).ext cu, cu _ _ hGb⟩
      · rintro σ G ⟨y4', y6', rfl, BG, tbG, hG⟩
        exact ⟨⟨_, _, _, _, _, _, _, _, _, rfl⟩, BG, tbG⟩
    · rintro σ G ⟨⟨y2, y3, y4, y5, y6, y7, y8, y9, y10, rfl⟩, BG, tbG⟩
      refine ⟨2, 1, 3, rfl, by decide, by decide, ⟨by decide, by decide, by decide⟩, by decide, fun S1 xs1 H1 nS1 s1 hS1 lx1 rows1 => ?_⟩
      obtain ⟨x0, x1, x2, rfl⟩ : ∃ x0 x1 x2, xs1 = [x0, x1, x2] := by
        match xs1, lx1 with
        | [x0, x1, x2], _ => exact ⟨_, _, _, rfl⟩
      have h0 : H1 x0 = some (.tup [.int 1, .int 1]) := rows1 0 x0 rfl
      have h1 : H1 x1 = some (.tup [.int 3, .int 2]) := rows1 1 x1 rfl
      have h2 : H1 x2 = some (.tup [.int 7, .int 5]) := rows1 2 x2 rfl
      refine ⟨by show 2 ≤ sizeLine; decide, fun t0 n0 => ⟨by show 2 ≤ sizeLine; decide, fun t1 n1 => ⟨by show 2 ≤ sizeLine; decide, fun t2 n2 => ⟨by show 3 ≤ sizeLine; decide, fun l nl => ?_⟩⟩⟩⟩
      have c0 := same_new (o := .tup [.int 1, .int 1]) n0
      have c1 := same_new (o := .tup [.int 3, .int 2]) n1
      have c2 := same_new (o := .tup [.int 7, .int 5]) n2
      have c3 := same_new (o := .lst [.ref t0, .ref t1, .ref t2]) nl
      have cc := c0.trans (c1.trans (c2.trans c3))
      have pr : ∀ {G : Hp} {p : Addr} {x y : Int}, G p = some (.tup [.int x, .int y]) → Dp K G (.ref p) (.tuple [.int x, .int y]) := fun h => .tup (SqT.of h) (.cons (.int _) (.cons (.int _) .nil))
      refine ⟨.list [.tuple [.int 1, .int 1], .tuple [.int 3, .int 2], .tuple [.int 7, .int 5]], .list [.tuple [.int 1, .int 1], .tuple [.int 3, .int 2], .tuple [.int 7, .int 5]], .lst (xs := [.ref x0, .ref x1, .ref x2]) (SqL.of (cc _ _ hS1)) (.cons (pr (cc _ _ h0)) (.cons (pr (cc _ _ h1)) (.cons (pr (cc _ _ h2)) .nil))), .lst (SqL.of upd_same) (.cons (pr ((c1.trans (c2.trans c3)) _ _ upd_same)) (.cons (pr ((c2.trans c3) _ _ upd_same)) (.cons (pr (c3 _ _ upd_same)) .nil))), rfl, rfl, ?_⟩
      rw [show PyData.eqv (.list [.tuple [.int 1, .int 1], .tuple [.int 3, .int 2], .tuple [.int 7, .int 5]]) (.list [.tuple [.int 1, .int 1], .tuple [.int 3, .int 2], .tuple [.int 7, .int 5]]) = true from PySem.SeqAt.eqv_refl_plain _ (by simp [PyData.plain, PyData.plainAll])]
      refine ⟨true, rfl, 7, 2, 0, rfl, by decide, by decide, ⟨by decide, by decide, by decide⟩, by decide, fun S2 xs2 H2 nS2 s2 hS2 lx2 rows2 => ⟨by show 0 ≤ sizeLine; decide, fun l2 nl2 => ?_⟩⟩
      obtain rfl : xs2 = [] := List.length_eq_zero_iff.mp lx2
      refine ⟨.list [], .list [], .lst (xs := []) (SqL.of ((same_new nl2) _ _ hS2)) .nil, .lst (xs := []) (SqL.of upd_same) .nil, rfl, rfl, ?_⟩
      rw [show PyData.eqv (.list []) (.list []) = true from PySem.SeqAt.eqv_refl_plain _ (by simp [PyData.plain, PyData.plainAll])]
      exact q _
end
theorem all_mk {w : World} {K : PySem.W.Frag} {h : Heap} {mg : Str → Option Value} {fa : Addr} (X : K.In h) (G : h.Ns mainGlobals mg) (hfa : mg "law" = some (.ref fa)) {l : PySem.W.OpenLaw} (hprog : l.prog = PySem.Challenge.pw_grainyard_k06_fractions_one_by_one) {cL PL : Addr}
    {od0 an0 : Option Addr} {sl0 : Array (Option Value)} {kV0 oc0 dc0 pm0 cd0 ct0 : Value} {f0 : Addr}
    (a0 : PySem.W.nsIn K mainGlobals "whole_root" = some (some (.ref f0))) (l0 : K.lookup f0 = some ⟨oc0, od0, .func (PySem.W.fnOf "whole_root" "whole_root" (defArgs s_whole_root) (defBody s_whole_root) (defScope s_whole_root) .none kV0 dc0 pm0 an0 cd0 ct0), sl0⟩) (c0 : PySem.W.codeIn K cd0 "whole_root" = true) (k0 : PySem.W.keepIn K (.ref f0) = true)
    {od1 an1 : Option Addr} {sl1 : Array (Option Value)} {kV1 oc1 dc1 pm1 cd1 ct1 : Value} {f1 : Addr}
    (a1 : PySem.W.nsIn K mainGlobals "added" = some (some (.ref f1))) (l1 : K.lookup f1 = some ⟨oc1, od1, .func (PySem.W.fnOf "added" "added" (defArgs s_added) (defBody s_added) (defScope s_added) .none kV1 dc1 pm1 an1 cd1 ct1), sl1⟩) (c1 : PySem.W.codeIn K cd1 "added" = true) (k1 : PySem.W.keepIn K (.ref f1) = true)
    {od2 an2 : Option Addr} {sl2 : Array (Option Value)} {kV2 oc2 dc2 pm2 cd2 ct2 : Value} {f2 : Addr}
    (a2 : PySem.W.nsIn K mainGlobals "scaled" = some (some (.ref f2))) (l2 : K.lookup f2 = some ⟨oc2, od2, .func (PySem.W.fnOf "scaled" "scaled" (defArgs s_scaled) (defBody s_scaled) (defScope s_scaled) .none kV2 dc2 pm2 an2 cd2 ct2), sl2⟩) (c2 : PySem.W.codeIn K cd2 "scaled" = true) (k2 : PySem.W.keepIn K (.ref f2) = true)
    {od3 an3 : Option Addr} {sl3 : Array (Option Value)} {kV3 oc3 dc3 pm3 cd3 ct3 : Value} {f3 : Addr}
    (a3 : PySem.W.nsIn K mainGlobals "floor_of" = some (some (.ref f3))) (l3 : K.lookup f3 = some ⟨oc3, od3, .func (PySem.W.fnOf "floor_of" "floor_of" (defArgs s_floor_of) (defBody s_floor_of) (defScope s_floor_of) .none kV3 dc3 pm3 an3 cd3 ct3), sl3⟩) (c3 : PySem.W.codeIn K cd3 "floor_of" = true) (k3 : PySem.W.keepIn K (.ref f3) = true)
    {od4 an4 : Option Addr} {sl4 : Array (Option Value)} {kV4 oc4 dc4 pm4 cd4 ct4 : Value} {f4 : Addr}
    (a4 : PySem.W.nsIn K mainGlobals "endless_fractions" = some (some (.ref f4))) (l4 : K.lookup f4 = some ⟨oc4, od4, .func (PySem.W.fnOf "endless_fractions" "endless_fractions" (defArgs s_endless_fractions) (defBody s_endless_fractions) (defScope s_endless_fractions) .none kV4 dc4 pm4 an4 cd4 ct4), sl4⟩) (c4 : PySem.W.codeIn K cd4 "endless_fractions" = true) (k4 : PySem.W.keepIn K (.ref f4) = true)
    {od5 an5 : Option Addr} {sl5 : Array (Option Value)} {kV5 oc5 dc5 pm5 cd5 ct5 : Value} {f5 : Addr}
    (a5 : PySem.W.nsIn K mainGlobals "fractions" = some (some (.ref f5))) (l5 : K.lookup f5 = some ⟨oc5, od5, .func (PySem.W.fnOf "fractions" "fractions" (defArgs s_fractions) (defBody s_fractions) (defScope s_fractions) .none kV5 dc5 pm5 an5 cd5 ct5), sl5⟩) (c5 : PySem.W.codeIn K cd5 "fractions" = true) (k5 : PySem.W.keepIn K (.ref f5) = true)
    {od6 an6 : Option Addr} {sl6 : Array (Option Value)} {kV6 oc6 dc6 pm6 cd6 ct6 : Value} {f6 : Addr}
    (a6 : PySem.W.nsIn K mainGlobals "_law_source" = some (some (.ref f6))) (l6 : K.lookup f6 = some ⟨oc6, od6, .func (PySem.W.fnOf "_law_source" "_law_source" (defArgs s_source) (defBody s_source) (defScope s_source) .none kV6 dc6 pm6 an6 cd6 ct6), sl6⟩) (c6 : PySem.W.codeIn K cd6 "_law_source" = true) (k6 : PySem.W.keepIn K (.ref f6) = true)
    {od7 an7 : Option Addr} {sl7 : Array (Option Value)} {kV7 oc7 dc7 pm7 cd7 ct7 : Value} {f7 : Addr}
    (a7 : PySem.W.nsIn K mainGlobals "_law_pull" = some (some (.ref f7))) (l7 : K.lookup f7 = some ⟨oc7, od7, .func (PySem.W.fnOf "_law_pull" "_law_pull" (defArgs s_pull) (defBody s_pull) (defScope s_pull) .none kV7 dc7 pm7 an7 cd7 ct7), sl7⟩) (c7 : PySem.W.codeIn K cd7 "_law_pull" = true) (k7 : PySem.W.keepIn K (.ref f7) = true)
    {od8 an8 : Option Addr} {sl8 : Array (Option Value)} {kV8 oc8 dc8 pm8 cd8 ct8 : Value} {f8 : Addr}
    (a8 : PySem.W.nsIn K mainGlobals "_law_of" = some (some (.ref f8))) (l8 : K.lookup f8 = some ⟨oc8, od8, .func (PySem.W.fnOf "_law_of" "_law_of" (defArgs s_of) (defBody s_of) (defScope s_of) .none kV8 dc8 pm8 an8 cd8 ct8), sl8⟩) (c8 : PySem.W.codeIn K cd8 "_law_of" = true) (k8 : PySem.W.keepIn K (.ref f8) = true)
    {od9 an9 : Option Addr} {sl9 : Array (Option Value)} {kV9 oc9 dc9 pm9 cd9 ct9 : Value} {f9 : Addr}
    (a9 : PySem.W.nsIn K mainGlobals "_law_roots" = some (some (.ref f9))) (l9 : K.lookup f9 = some ⟨oc9, od9, .func (PySem.W.fnOf "_law_roots" "_law_roots" (defArgs s_roots) (defBody s_roots) (defScope s_roots) .none kV9 dc9 pm9 an9 cd9 ct9), sl9⟩) (c9 : PySem.W.codeIn K cd9 "_law_roots" = true) (k9 : PySem.W.keepIn K (.ref f9) = true)
    {od10 an10 : Option Addr} {sl10 : Array (Option Value)} {kV10 oc10 dc10 pm10 cd10 ct10 : Value} {f10 : Addr}
    (a10 : PySem.W.nsIn K mainGlobals "_law_a_root" = some (some (.ref f10))) (l10 : K.lookup f10 = some ⟨oc10, od10, .func (PySem.W.fnOf "_law_a_root" "_law_a_root" (defArgs s_a_root) (defBody s_a_root) (defScope s_a_root) .none kV10 dc10 pm10 an10 cd10 ct10), sl10⟩) (c10 : PySem.W.codeIn K cd10 "_law_a_root" = true) (k10 : PySem.W.keepIn K (.ref f10) = true)
    {od11 an11 : Option Addr} {sl11 : Array (Option Value)} {kV11 oc11 dc11 pm11 cd11 ct11 : Value} {f11 : Addr}
    (a11 : PySem.W.nsIn K mainGlobals "_law_fractions" = some (some (.ref f11))) (l11 : K.lookup f11 = some ⟨oc11, od11, .func (PySem.W.fnOf "_law_fractions" "_law_fractions" (defArgs s_lfractions) (defBody s_lfractions) (defScope s_lfractions) .none kV11 dc11 pm11 an11 cd11 ct11), sl11⟩) (c11 : PySem.W.codeIn K cd11 "_law_fractions" = true) (k11 : PySem.W.keepIn K (.ref f11) = true)
    {od12 an12 : Option Addr} {sl12 : Array (Option Value)} {kV12 oc12 dc12 pm12 cd12 ct12 : Value} {f12 : Addr}
    (a12 : PySem.W.nsIn K mainGlobals "_law_like" = some (some (.ref f12))) (l12 : K.lookup f12 = some ⟨oc12, od12, .func (PySem.W.fnOf "_law_like" "_law_like" (defArgs s_like) (defBody s_like) (defScope s_like) .none kV12 dc12 pm12 an12 cd12 ct12), sl12⟩) (c12 : PySem.W.codeIn K cd12 "_law_like" = true) (k12 : PySem.W.keepIn K (.ref f12) = true)
    {od13 an13 : Option Addr} {sl13 : Array (Option Value)} {kV13 oc13 dc13 pm13 cd13 ct13 : Value} {f13 : Addr}
    (a13 : PySem.W.nsIn K mainGlobals "_law_a_far" = some (some (.ref f13))) (l13 : K.lookup f13 = some ⟨oc13, od13, .func (PySem.W.fnOf "_law_a_far" "_law_a_far" (defArgs s_a_far) (defBody s_a_far) (defScope s_a_far) .none kV13 dc13 pm13 an13 cd13 ct13), sl13⟩) (c13 : PySem.W.codeIn K cd13 "_law_a_far" = true) (k13 : PySem.W.keepIn K (.ref f13) = true)
    {od14 an14 : Option Addr} {sl14 : Array (Option Value)} {kV14 oc14 dc14 pm14 cd14 ct14 : Value} {f14 : Addr}
    (a14 : PySem.W.nsIn K mainGlobals "_law_field_of" = some (some (.ref f14))) (l14 : K.lookup f14 = some ⟨oc14, od14, .func (PySem.W.fnOf "_law_field_of" "_law_field_of" (defArgs s_field_of) (defBody s_field_of) (defScope s_field_of) .none kV14 dc14 pm14 an14 cd14 ct14), sl14⟩) (c14 : PySem.W.codeIn K cd14 "_law_field_of" = true) (k14 : PySem.W.keepIn K (.ref f14) = true)
    {od15 an15 : Option Addr} {sl15 : Array (Option Value)} {kV15 oc15 dc15 pm15 cd15 ct15 : Value} {f15 : Addr}
    (a15 : PySem.W.nsIn K mainGlobals "_law_try" = some (some (.ref f15))) (l15 : K.lookup f15 = some ⟨oc15, od15, .func (PySem.W.fnOf "_law_try" "_law_try" (defArgs s_try) (defBody s_try) (defScope s_try) .none kV15 dc15 pm15 an15 cd15 ct15), sl15⟩) (c15 : PySem.W.codeIn K cd15 "_law_try" = true) (k15 : PySem.W.keepIn K (.ref f15) = true)
    {od16 an16 : Option Addr} {sl16 : Array (Option Value)} {kV16 oc16 dc16 pm16 ct16 : Value} {f16 : Addr}
    (a16 : PySem.W.nsIn K mainGlobals "law" = some (some (.ref f16))) (l16 : K.lookup f16 = some ⟨oc16, od16, .func (PySem.W.fnOf "law" "law" (defArgs s_law) (defBody s_law) (defScope s_law) .none kV16 dc16 pm16 an16 (.ref cL) ct16), sl16⟩) (c16 : PySem.W.codeIn K (.ref cL) "law" = true) (k16 : PySem.W.keepIn K (.ref f16) = true)
    (z0 : PySem.W.nsIn K mainGlobals "ValueError" = some none)
    (z1 : PySem.W.nsIn K mainGlobals "LookupError" = some none)
    (z2 : PySem.W.nsIn K mainGlobals "IndexError" = some none)
    (z3 : PySem.W.nsIn K mainGlobals "zip" = some none)
    (z4 : PySem.W.nsIn K mainGlobals "range" = some none)
    (z5 : PySem.W.nsIn K mainGlobals "isinstance" = some none)
    (z6 : PySem.W.nsIn K mainGlobals "sum" = some none)
    (z7 : PySem.W.nsIn K mainGlobals "list" = some none)
    (z8 : PySem.W.nsIn K mainGlobals "tuple" = some none)
    (z9 : PySem.W.nsIn K mainGlobals "len" = some none)
    (z10 : PySem.W.nsIn K mainGlobals "all" = some none)
    (z11 : PySem.W.nsIn K mainGlobals "bool" = some none)
    (hn : PySem.W.specialIn K (.builtin "object.__class__") "__get__" = some (some (.builtin "getset_descriptor.__get__"))) (ht : PySem.W.takesIn K (.builtin "object.__class__") = some true)
    {CGrainError : Addr} {DGrainError : ClassData} (aGrainError : PySem.W.nsIn K mainGlobals "GrainError" = some (some (.ref CGrainError))) (cGrainError : PySem.W.clsIn K CGrainError = some DGrainError) (nGrainError : DGrainError.name = "GrainError") (tGrainError : PySem.W.typeIn K (.ref CGrainError) = some (.type "type")) (sbGrainError : PySem.W.subIn K (.ref CGrainError) (.type "BaseException") = some true)
    {CGrainMissing : Addr} {DGrainMissing : ClassData} (aGrainMissing : PySem.W.nsIn K mainGlobals "GrainMissing" = some (some (.ref CGrainMissing))) (cGrainMissing : PySem.W.clsIn K CGrainMissing = some DGrainMissing) (nGrainMissing : DGrainMissing.name = "GrainMissing") (tGrainMissing : PySem.W.typeIn K (.ref CGrainMissing) = some (.type "type")) (sbGrainMissing : PySem.W.subIn K (.ref CGrainMissing) (.type "BaseException") = some true)
    (E_BadCount : ErW PySem.Challenge.pw_grainyard_k06_fractions_one_by_one K mg "ValueError" "ValueError.__new__" "ValueError.__init__" [.type "ValueError", .type "Exception", .type "BaseException", .type "object"] [.ref CGrainError] i_BadCount "BadCount" "BadCount.__init__" ["word", "number"])
    (E_NothingLeft : ErW PySem.Challenge.pw_grainyard_k06_fractions_one_by_one K mg "IndexError" "IndexError.__new__" "IndexError.__init__" [.type "IndexError", .type "LookupError", .type "Exception", .type "BaseException", .type "object"] [] i_NothingLeft "NothingLeft" "NothingLeft.__init__" ["word"])
    (tabL : h.get? PL = some { cls := .none, data := .fields #[] }) (noL : K.lookup PL = none) (hdL : PySem.W.codeHdIn K cL PL = true) : LamX.LawAtS l w K CX0 16 63 "_law_script" mg fa h := by
  have e := hfa.symm.trans (PySem.W.mg_of X G a16)
  cases e
  have F0 := fun_mk (st := s_whole_root) l0 c0 k0
  have b0 := F0.binds (ps := ["number"]) fun _ _ _ _ _ _ us hl => match us, hl with | [_], _ => rfl
  have F1 := fun_mk (st := s_added) l1 c1 k1
  have F2 := fun_mk (st := s_scaled) l2 c2 k2
  have b2 := F2.binds (ps := ["pair", "number"]) fun _ _ _ _ _ _ us hl => match us, hl with | [_, _], _ => rfl
  have F3 := fun_mk (st := s_floor_of) l3 c3 k3
  have b3 := F3.binds (ps := ["pair", "root"]) fun _ _ _ _ _ _ us hl => match us, hl with | [_, _], _ => rfl
  have F4 := fun_mk (st := s_endless_fractions) l4 c4 k4
  have b4 := F4.binds (ps := ["root"]) fun _ _ _ _ _ _ us hl => match us, hl with | [_], _ => rfl
  have F5 := fun_mk (st := s_fractions) l5 c5 k5
  have b5 := F5.binds (ps := ["root", "count"]) fun _ _ _ _ _ _ us hl => match us, hl with | [_, _], _ => rfl
  have F6 := fun_mk (st := s_source) l6 c6 k6
  have b6 := F6.binds (ps := ["_law_script"]) fun _ _ _ _ _ _ us hl => match us, hl with | [_], _ => rfl
  have F7 := fun_mk (st := s_pull) l7 c7 k7
  have b7 := F7.binds (ps := ["_law_bag", "_law_size"]) fun _ _ _ _ _ _ us hl => match us, hl with | [_, _], _ => rfl
  have F8 := fun_mk (st := s_of) l8 c8 k8
  have b8 := F8.binds (ps := ["_law_bag", "_law_some"]) fun _ _ _ _ _ _ us hl => match us, hl with | [_, _], _ => rfl
  have F9 := fun_mk (st := s_roots) l9 c9 k9
  have b9 := F9.binds (ps := []) fun _ _ _ _ _ _ us hl => match us, hl with | [], _ => rfl
  have F10 := fun_mk (st := s_a_root) l10 c10 k10
  have b10 := F10.binds (ps := ["_law_bag"]) fun _ _ _ _ _ _ us hl => match us, hl with | [_], _ => rfl
  have F11 := fun_mk (st := s_lfractions) l11 c11 k11
  have b11 := F11.binds (ps := ["_law_root_z", "_law_count_z"]) fun _ _ _ _ _ _ us hl => match us, hl with | [_, _], _ => rfl
  have F12 := fun_mk (st := s_like) l12 c12 k12
  have b12 := F12.binds (ps := ["_law_found", "_law_due"]) fun _ _ _ _ _ _ us hl => match us, hl with | [_, _], _ => rfl
  have F13 := fun_mk (st := s_a_far) l13 c13 k13
  have b13 := F13.binds (ps := ["_law_bag"]) fun _ _ _ _ _ _ us hl => match us, hl with | [_], _ => rfl
  have F14 := fun_mk (st := s_field_of) l14 c14 k14
  have b14 := F14.binds (ps := ["_law_e"]) fun _ _ _ _ _ _ us hl => match us, hl with | [_], _ => rfl
  have F15 := fun_mk (st := s_try) l15 c15 k15
  have b15 := F15.binds (ps := ["_law_ask"]) fun _ _ _ _ _ _ us hl => match us, hl with | [_], _ => rfl
  have F16 := fun_mk (st := s_law) l16 c16 k16
  have T : Txt K mg := {
    f_whole_root := f0
    d_whole_root := _
    F_whole_root := F0
    g_whole_root := PySem.W.mg_of X G a0
    b_whole_root := b0
    f_added := f1
    d_added := _
    F_added := F1
    g_added := PySem.W.mg_of X G a1
    f_scaled := f2
    d_scaled := _
    F_scaled := F2
    g_scaled := PySem.W.mg_of X G a2
    b_scaled := b2
    f_floor_of := f3
    d_floor_of := _
    F_floor_of := F3
    g_floor_of := PySem.W.mg_of X G a3
    b_floor_of := b3
    f_endless_fractions := f4
    d_endless_fractions := _
    F_endless_fractions := F4
    g_endless_fractions := PySem.W.mg_of X G a4
    b_endless_fractions := b4
    f_fractions := f5
    d_fractions := _
    F_fractions := F5
    g_fractions := PySem.W.mg_of X G a5
    b_fractions := b5
    f_source := f6
    d_source := _
    F_source := F6
    g_source := PySem.W.mg_of X G a6
    b_source := b6
    f_pull := f7
    d_pull := _
    F_pull := F7
    g_pull := PySem.W.mg_of X G a7
    b_pull := b7
    f_of := f8
    d_of := _
    F_of := F8
    g_of := PySem.W.mg_of X G a8
    b_of := b8
    f_roots := f9
    d_roots := _
    F_roots := F9
    g_roots := PySem.W.mg_of X G a9
    b_roots := b9
    f_a_root := f10
    d_a_root := _
    F_a_root := F10
    g_a_root := PySem.W.mg_of X G a10
    b_a_root := b10
    f_lfractions := f11
    d_lfractions := _
    F_lfractions := F11
    g_lfractions := PySem.W.mg_of X G a11
    b_lfractions := b11
    f_like := f12
    d_like := _
    F_like := F12
    g_like := PySem.W.mg_of X G a12
    b_like := b12
    f_a_far := f13
    d_a_far := _
    F_a_far := F13
    g_a_far := PySem.W.mg_of X G a13
    b_a_far := b13
    f_field_of := f14
    d_field_of := _
    F_field_of := F14
    g_field_of := PySem.W.mg_of X G a14
    b_field_of := b14
    f_try := f15
    d_try := _
    F_try := F15
    g_try := PySem.W.mg_of X G a15
    b_try := b15
    n_ValueError := PySem.W.mg_none_of X G z0
    n_LookupError := PySem.W.mg_none_of X G z1
    n_IndexError := PySem.W.mg_none_of X G z2
    n_zip := PySem.W.mg_none_of X G z3
    n_range := PySem.W.mg_none_of X G z4
    n_isinstance := PySem.W.mg_none_of X G z5
    n_sum := PySem.W.mg_none_of X G z6
    n_list := PySem.W.mg_none_of X G z7
    n_tuple := PySem.W.mg_none_of X G z8
    n_len := PySem.W.mg_none_of X G z9
    n_all := PySem.W.mg_none_of X G z10
    n_bool := PySem.W.mg_none_of X G z11
    kb_fractions_count_root := kbn_fractions_count_root F5
    r_GrainError := CGrainError
    g_GrainError := PySem.W.mg_of X G aGrainError
    c_GrainError := .intro _ ⟨cGrainError,nGrainError⟩
    t_GrainError := tGrainError
    sb_GrainError := sbGrainError
    r_GrainMissing := CGrainMissing
    g_GrainMissing := PySem.W.mg_of X G aGrainMissing
    c_GrainMissing := .intro _ ⟨cGrainMissing,nGrainMissing⟩
    t_GrainMissing := tGrainMissing
    sb_GrainMissing := sbGrainMissing
    e_BadCount := E_BadCount.e
    x_BadCount_word := E_BadCount.no _ (by simp)
    x_BadCount_number := E_BadCount.no _ (by simp)
    e_NothingLeft := E_NothingLeft.e
    x_NothingLeft_word := E_NothingLeft.no _ (by simp)
    hn := hn
    ht := ht }
  refine ⟨PySem.W.fnOf "law" "law" (defArgs s_law) (defBody s_law) (defScope s_law) .none kV16 dc16 pm16 an16 (.ref cL) ct16, [(cL, PL)], spLaw K PL, fun p hp => ?_, fun p hp => ?_, fun p hp => ?_, fun s v => .of_eq rfl, fun H a ns hl _ hP hS => ⟨a, ns, rfl, hS, hl, hP _ (List.mem_singleton.mpr rfl), fun _ => rfl⟩, fun base _ _ TB => ?_⟩
  · rw [List.mem_singleton.mp hp]
    exact tabL
  · rw [List.mem_singleton.mp hp]
    exact noL
  · rw [List.mem_singleton.mp hp]
    exact PySem.W.codeHd_of_K X hdL
  · rw [hprog]
    exact ok_law l16 c16 (TB _ (List.mem_singleton.mpr rfl)) T
end Gy
open PySem PySem.W PyProof.Rows
set_option maxRecDepth 100000 in
set_option maxHeartbeats 0 in
theorem PySem.Challenge.cw_grainyard_k06_fractions_one_by_one_holds : PySem.Challenge.rw_grainyard_k06_fractions_one_by_one.Holds := by
  w_on; o_law; k_head; (case hw => w_witness2)
  k_fill
  refine LamX.walk_ofTs (l := PySem.Challenge.rw_grainyard_k06_fractions_one_by_one) (n := 63) (k := 16) (x := "_law_script") (CX := fun _ => L2.CX0) rfl (by decide) rfl ⟨rfl, by decide, by decide⟩ (fun w h Y => PySem.W.km_in_of Y) ?F (fun _ _ _ _ _ h => h)
  case F =>
    intro w mg fa h Y KX G hmg
    have hT := PySem.W.km_tabs_of Y
    refine' Gy.all_mk KX G hmg rfl ?a0 ?l0 ?c0 ?k0 ?a1 ?l1 ?c1 ?k1 ?a2 ?l2 ?c2 ?k2 ?a3 ?l3 ?c3 ?k3 ?a4 ?l4 ?c4 ?k4 ?a5 ?l5 ?c5 ?k5 ?a6 ?l6 ?c6 ?k6 ?a7 ?l7 ?c7 ?k7 ?a8 ?l8 ?c8 ?k8 ?a9 ?l9 ?c9 ?k9 ?a10 ?l10 ?c10 ?k10 ?a11 ?l11 ?c11 ?k11 ?a12 ?l12 ?c12 ?k12 ?a13 ?l13 ?c13 ?k13 ?a14 ?l14 ?c14 ?k14 ?a15 ?l15 ?c15 ?k15 ?a16 ?l16 ?c16 ?k16 ?z0 ?z1 ?z2 ?z3 ?z4 ?z5 ?z6 ?z7 ?z8 ?z9 ?z10 ?z11 ?hn ?ht ?aGrainError ?cGrainError ?nGrainError ?tGrainError ?sbGrainError ?aGrainMissing ?cGrainMissing ?nGrainMissing ?tGrainMissing ?sbGrainMissing ?E_BadCount ?E_NothingLeft ?tabL ?noL ?hdL
    (case a0 => k_is); (case l0 => k_is); (case c0 => k_is); (case k0 => k_is); (case a1 => k_is); (case l1 => k_is); (case c1 => k_is); (case k1 => k_is); (case a2 => k_is); (case l2 => k_is); (case c2 => k_is); (case k2 => k_is); (case a3 => k_is); (case l3 => k_is); (case c3 => k_is); (case k3 => k_is); (case a4 => k_is); (case l4 => k_is); (case c4 => k_is); (case k4 => k_is); (case a5 => k_is); (case l5 => k_is); (case c5 => k_is); (case k5 => k_is); (case a6 => k_is); (case l6 => k_is); (case c6 => k_is); (case k6 => k_is); (case a7 => k_is); (case l7 => k_is); (case c7 => k_is); (case k7 => k_is); (case a8 => k_is); (case l8 => k_is); (case c8 => k_is); (case k8 => k_is); (case a9 => k_is); (case l9 => k_is); (case c9 => k_is); (case k9 => k_is); (case a10 => k_is); (case l10 => k_is); (case c10 => k_is); (case k10 => k_is); (case a11 => k_is); (case l11 => k_is); (case c11 => k_is); (case k11 => k_is); (case a12 => k_is); (case l12 => k_is); (case c12 => k_is); (case k12 => k_is); (case a13 => k_is); (case l13 => k_is); (case c13 => k_is); (case k13 => k_is); (case a14 => k_is); (case l14 => k_is); (case c14 => k_is); (case k14 => k_is); (case a15 => k_is); (case l15 => k_is); (case c15 => k_is); (case k15 => k_is); (case a16 => k_is); (case l16 => k_is); (case c16 => k_is); (case k16 => k_is); (case z0 => k_is); (case z1 => k_is); (case z2 => k_is); (case z3 => k_is); (case z4 => k_is); (case z5 => k_is); (case z6 => k_is); (case z7 => k_is); (case z8 => k_is); (case z9 => k_is); (case z10 => k_is); (case z11 => k_is); (case hn => k_is); (case ht => k_is); (case aGrainError => k_is); (case cGrainError => k_is); (case nGrainError => rfl); (case tGrainError => k_is); (case sbGrainError => k_is); (case aGrainMissing => k_is); (case cGrainMissing => k_is); (case nGrainMissing => rfl); (case tGrainMissing => k_is); (case sbGrainMissing => k_is); (case E_BadCount => refine' Gy.erw2 (P := PySem.Challenge.pw_grainyard_k06_fractions_one_by_one) KX G ?op ?nsu (by decide +kernel) (by decide +kernel) (by decide +kernel) ?ht rfl rfl (by decide +kernel) (by decide +kernel) (by decide +kernel) (by decide +kernel) ?aC ?lC ?aI ?lI ?cI ?lc ?lco ?sa ?ga ?gt ?kp ?cl ?su ?hvs ?hfi ?x0 ?x1; (case op => k_is); (case nsu => k_is); (case aC => k_is); (case lC => k_is); (case ht => decide +kernel); (case aI => k_is); (case lI => k_is); (case cI => k_is); (case lc => k_is); (case lco => k_is); (case sa => k_is); (case ga => k_is); (case gt => k_is); (case kp => k_is); (case cl => k_is); (case su => first | k_is | ks_is); (case hvs => rfl); (case hfi => decide +kernel); (case x0 => k_is); (case x1 => k_is)); (case E_NothingLeft => refine' Gy.erw1 (P := PySem.Challenge.pw_grainyard_k06_fractions_one_by_one) KX G ?op ?nsu (by decide +kernel) (by decide +kernel) (by decide +kernel) ?ht rfl rfl (by decide +kernel) (by decide +kernel) (by decide +kernel) (by decide +kernel) ?aC ?lC ?aI ?lI ?cI ?lc ?lco ?sa ?ga ?gt ?kp ?cl ?su ?hvs ?hfi ?x0; (case op => k_is); (case nsu => k_is); (case aC => k_is); (case lC => k_is); (case ht => decide +kernel); (case aI => k_is); (case lI => k_is); (case cI => k_is); (case lc => k_is); (case lco => k_is); (case sa => k_is); (case ga => k_is); (case gt => k_is); (case kp => k_is); (case cl => k_is); (case su => first | k_is | ks_is); (case hvs => rfl); (case hfi => decide +kernel); (case x0 => k_is)); (case tabL => exact hT _ List.mem_cons_self); (case noL => kernel_rfl); (case hdL => kernel_rfl)

