import PyProof.Rows.All
import Wide.All
import OpenK.AllK
import Wide.FinOn
import HandS.ForMost
import HandS.Wide
import HandS.WideBits
import HandS.IsInst
import HandS.Defaults
import HandS.Star
import HandS.Evl
import HandS.NoneIn
import HandS.Style
import HandS.SlotsOwn
import HandS.MakeKwOnly
import HandS.ForExc
import HandS.ExcInit
import HandS.MapJoin
import HandS.NestedK
import HandS.Lambda
import HandS.EndTab
import HandS.TryMany
import HandS.HotCalls
import HandS.ExcField
import HandS.ClsMeth
import KE.KExcSuper
import KE.KExcIs
import KE.KOpsOwn
import KE.KNestM
import HandS.Property
import KE.DataEq
import HandS.Deep
import HandS.TupAny
import HandS.Zip
import HandS.Dict
import HandS.More
import HandS.FStr
import HandS.Text
import HandS.RaiseMore
import HandS.DictComp
import HandS.DictTup
import HandS.Conv
import HandS.Comp
import KE.KDictKeyed
import KE.KeyNested
import KE.SortData
import KE.KDictItemsList
import KE.GoesMore
import HandS.Walk
import HandS.StrMore
import HandS.Sort
import HandS.Text
import KE.IntTextText
import KE.GoesEnumKw
import KE.DataCmp
import PySem.Challenge.RW_grainyard_k64_texts_of_sheets_and_steps
set_option Elab.async false
set_option linter.all false
set_option maxRecDepth 100000
set_option maxHeartbeats 4000000
namespace Gy
open PySem PySem.Spec PyProof.Rows L2
/-! ### an error's fields, wherever its object is pinned -/
section
variable {X : Cx} {a : Addr} {oe : Obj} {cls : Value} {d : Option Addr} {e : Expr} {te : TE} {pos : Pos} {n : Str}
/-- a.f of the error at a whose class is cls and whose dict stands at d -/
def tXfA (K : PySem.W.Frag) (a : Addr) (cls : Value) (d : Option Addr) (f : Str) (te : TE) : TE := fun σ H Q => te σ H fun x H1 => x = .ref a ∧
  ∃ (C dd : Addr) (fs : List (Str × V)) (v : V), cls = .ref C ∧ d = some dd ∧ XfC K C ∧ PySem.W.findIn K (.ref C) f = some none ∧ H1 dd = some (.xd fs) ∧ fs.lookup f = some v ∧ Q v H1
theorem pe_xfG (hp : (a, oe) ∈ X.pn) (hz : Zc cls d oe) (hf : ∃ vs, oe.data = .fields vs) (he : PE X e te) (hb : attributeBase e n X.env (eval e X.env) = eval e X.env := by rfl) : PE X (.Attribute e n pos) (tXfA X.K a cls d n te) := by
  constructor
  intro pins s σ H Q I h
  apply attr_of hb
  refine thn (he.run pins s σ H _ I h) ?_
  rintro u s1 ⟨x, H1, I1, rx, rfl, C, dd, fs, v, rfl, rfl, XC, no, hd, hl, q⟩
  cases (show u = Value.ref a from rx)
  have at_a := (I1.pin (a, oe) (List.mem_append_left _ hp)).1
  obtain ⟨ws, dat⟩ := hf
  obtain ⟨mA, nsA, rel⟩ := (show ObjOk X.prog X.w H1 s1.heap dd (.xd fs) from I1.hok dd _ hd)
  obtain ⟨od, at_d, look⟩ := lookIn_ns nsA
  have rn := rel n
  rw [hl] at rn
  obtain ⟨u', hu', ru'⟩ := RelO.some_of rn
  have inst : PySem.W.InstAt s1.heap a oe C (some od) := by
    refine ⟨at_a, hz.1, ?_, ?_⟩
    · unfold PySem.W.notCls
      rw [dat] <;> rfl
    · rw [hz.2]
      exact at_d
  have found : PySem.W.lookIn n od = some (some u') := by rw [look, hu']
  exact HandSPX.exc_get I1.kIn inst XC.ga XC.gg XC.exC (PySem.W.findObj_own XC.hdC no rfl found) (handed_of ru') ⟨v, H1, I1.tok _, ru', q⟩
end
/-! ### try: .. except x as n: .., several clauses, one of which takes -/
/-- behind a suite its name is gone -/
def Dn (D : Ends) (i : Nat) : Ends := { nx := fun σ H => D.nx (σ.set i none) H, rt := D.rt, bk := fun σ H => D.bk (σ.set i none) H, ct := fun σ H => D.ct (σ.set i none) H }
def wAll (K : PySem.W.Frag) (D : Ends) (i : Nat) : List (Value × (Addr → Value → Option Addr → TS)) → WX
  | [] => fun _ _ _ _ => False
  | (c, ts) :: r => fun cls d σ H => ∃ b, PySem.W.exmOne K cls c = some b ∧ (b = true → ∀ a, H a = none → i < σ.length → ts a cls d (Dn D i) (σ.set i (some (.ref a))) H) ∧ (b = false → wAll K D i r cls d σ H)
inductive AsOk (X : Cx) (n : Str) : List ExceptHandler → List (Value × (Addr → Value → Option Addr → TS)) → Prop
  | nil : AsOk X n [] []
  | cons {x : Str} {c : Value} {ts : Addr → Value → Option Addr → TS} {b0 : Stmt} {su : List Stmt} {np p' : Pos} {hds : List ExceptHandler} {l : List (Value × (Addr → Value → Option Addr → TS))} (nm : Names X x c)
      (ok : ∀ (a : Addr) (oe : Obj) (cls : Value) (d : Option Addr) (pn : List (Addr × Obj)), Zc cls d oe → (∃ vs, oe.data = .fields vs) → PSs (X.suite a ((a, oe) :: pn)) (b0 :: su) (ts a cls d)) (r : AsOk X n hds l) :
      AsOk X n (.ExceptHandler (some (.Name x np)) (some n) (b0 :: su) p' :: hds) ((c, ts) :: l)
theorem not_frame {B h : Heap} {l : List Env} {a : Addr} {o : Obj} {vs : Array Value} (F : h.FunFrames B l) (at_a : h.get? a = some o) (dat : o.data = .fields vs) : a ∉ frs l := by
  intro m
  obtain ⟨_, o2, at2, nf⟩ := F.mem m
  cases at_a.symm.trans at2
  exact nf _ dat
section
variable {X : Cx} {n : Str} {i : Nat} {body : List Stmt} {h0 : ExceptHandler} {hds : List ExceptHandler} {l : List (Value × (Addr → Value → Option Addr → TS))} {pos : Pos} {tb : WX → TS}
theorem ps_tryAs (hs : X.stack = X.env :: X.outer) (hf : X.env.frame = some X.env.locals) (hN : X.N.Nodup) (hi : X.N[i]? = some n) (hln : X.env.kindOf n = some .local)
    (hb : ∀ (W : WX) (pn : List (Addr × Obj)) (xe : Value → Shared → Prop), Takes (X.tr pn xe) W → PassesOwn (model X.prog X.w) X.A X.env xe → PSs (X.tr pn xe) body (tb W))
    (hh : AsOk X n (h0 :: hds) l) : PS X (.Try body (h0 :: hds) [] [] pos) (fun D σ H => tb (wAll X.K D i l) D σ H) := by
  constructor
  intro pins s σ H D I h
  have ok := I.ok
  have frs_ : X.A.frames = some (X.env :: X.outer) := hs ▸ ok.frames
  have run := hb (wAll X.K D i l) (X.pn ++ pins) (fun e t1 => wpAny (model X.prog X.w) X.A (noteFrame e X.env) (fun _ t2 => wpAny (model X.prog X.w) X.A (setFlight e none) (fun _ t3 =>
    wpAny (model X.prog X.w) X.A (handleBy e X.env (h0 :: hds)) (SP X pins D) X.xe t3) X.xe t2) X.xe t1) ?air PassesOwn.looking
  case air =>
    rintro u t ⟨a, B, t0, pins0, σ1, H1, cls, d, rfl, I0, gr, up, sky, na, hos, bare, wish⟩
    have I1 : Inv X pins σ1 H1 t0 := I0.ofTry ok
    rw [show (X.tr (X.pn ++ pins) _).stack = X.env :: X.outer from hs] at sky
    show wpAny (model X.prog X.w) X.A (noteFrame (.ref a) X.env) _ _ _
    apply Sky.land Zc.steady frs_ hf sky
    intro g fly upg
    have Ig : Inv X pins σ1 H1 { t with heap := g } := I1.landed gr fly.1 (up.trans upg) hos bare
    obtain ⟨og, vg, at_g, zg, dg⟩ := fly.there
    have away := not_frame fly.2.2.1 at_g dg
    have awL : a ≠ X.env.locals := by
      intro z
      exact away (List.mem_filterMap.mpr ⟨X.env, List.mem_cons_self, by rw [hf, z]⟩)
    have awF : a ∉ X.fs := by
      intro m
      obtain ⟨en, men, q⟩ := List.mem_filterMap.mp m
      exact away (List.mem_filterMap.mpr ⟨en, List.mem_cons_of_mem _ men, q⟩)
    have Sg := Ig.suite at_g dg na awL awF
    have types : PySem.W.Looks (model X.prog X.w) g (typeOf (.ref a)) cls := by
      intro A' Q' E' t' k q
      apply wpAny_typeOf_ref (k _ _ at_g)
      rw [zg.1]
      exact q
    clear h
    have inside : i < σ1.length := by
      rw [I1.len]
      exact (List.getElem?_eq_some_iff.mp hi).1
    have clauses : ∀ {hs' : List ExceptHandler} {l' : List (Value × (Addr → Value → Option Addr → TS))}, AsOk X n hs' l' → wAll X.K D i l' cls d σ1 H1 → wpAny (model X.prog X.w) X.A (handleBy (.ref a) X.env hs') (SP X pins D) X.xe { t with heap := g } := by
      intro hs' l' A
      induction A with
      | nil => exact fun z => z.elim
      | @cons x c ts b0 su np p' hs2 l2 nm okS rest ih =>
        rintro ⟨b, mt, yes, no⟩
        refine wpAny_handleBy_cons (codeAny_handlers_test ?_) (by intro z; cases z)
        have meets := PySem.W.exm_one (M := model X.prog X.w) Ig.kIn types mt
        have name_ : ∀ {Q' : Value → Shared → Prop} {E' : Value → Shared → Prop}, Q' c { t with heap := g } → wpAny (model X.prog X.w) (X.A.mark (some (.ref a))) (eval (.Name x np) X.env) Q' E' { t with heap := g } := by
          intro Q' E' q
          rcases nm with ⟨gl, ndb, hm | ⟨hm, hv, nn⟩⟩
          · exact ld_glob (X := X.suite a ((a, og) :: (X.pn ++ pins))) Sg gl hm q ndb
          · exact ld_blt (X := X.suite a ((a, og) :: (X.pn ++ pins))) Sg gl hm hv q nn ndb
        apply name_
        apply meets.here
        cases b with
        | false => exact ih (no rfl)
        | true =>
          apply codeAny_handlers_suite_as
          apply HandSPX.lands_againZ fly
          intro k flk upk
          have Ik : Inv X pins σ1 H1 { t with heap := k } := I1.landed gr flk.1 ((up.trans upg).trans upk) hos bare
          obtain ⟨ok_, vk, at_k, zk, dk⟩ := flk.there
          have Sk := Ik.suite at_k dk na awL awF
          apply store_ok (X := X.suite a ((a, ok_) :: (X.pn ++ pins))) (v := .ref a) Sk hN hi (.inl hln) rfl _ (.inr hln)
          intro t5 S5
          have suite := (okS a ok_ cls d (X.pn ++ pins) zk ⟨_, dk⟩).run [] t5 _ H1 _ S5 (yes rfl a na inside)
          refine wpAny_mono suite (fun f t6 out => ?_) (fun _ _ z => z.elim)
          have away_ : ∀ {σ6 : L2.St} {H6 : Hp} {Q' : Shared → Prop}, Inv (X.suite a ((a, ok_) :: (X.pn ++ pins))) [] σ6 H6 t6 → (∀ t7, Inv X pins (σ6.set i none) H6 t7 → Q' t7) →
              wpAny (model X.prog X.w) X.A (do bindName X.env n .none; unbindBehindTheSuite X.env n p') (fun _ t7 => Q' t7) X.xe t6 := by
            intro σ6 H6 Q' S6 q
            exact gone_ok (S6.unsuite ok) hN hi hln q
          cases f with
          | next => obtain ⟨_, _, S6, q6⟩ := out; exact away_ S6 fun _ I7 => ⟨_, _, I7, q6⟩
          | brk => obtain ⟨_, _, S6, q6⟩ := out; exact away_ S6 fun _ I7 => ⟨_, _, I7, q6⟩
          | cont => obtain ⟨_, _, S6, q6⟩ := out; exact away_ S6 fun _ I7 => ⟨_, _, I7, q6⟩
          | ret u => obtain ⟨_, _, _, S6, r6, q6⟩ := out; exact away_ S6 fun _ I7 => ⟨_, _, _, I7, r6, q6⟩
    exact clauses hh wish
  apply wpAny_Try_except
  refine wpAny_mono (run.run [] s σ H D (I.toTry _) h) (fun f t1 out => ?_) (fun _ _ z => z)
  cases f with
  | next => obtain ⟨_, _, I1, q⟩ := out; exact wpAny_execs_nil ⟨_, _, I1.ofTry ok, q⟩
  | brk => obtain ⟨_, _, I1, q⟩ := out; exact ⟨_, _, I1.ofTry ok, q⟩
  | cont => obtain ⟨_, _, I1, q⟩ := out; exact ⟨_, _, I1.ofTry ok, q⟩
  | ret u => obtain ⟨_, _, _, I1, r, q⟩ := out; exact ⟨_, _, _, I1.ofTry ok, r, q⟩
end
/-! ### a def that is called while an error is handled: it raises nothing -/
structure FnP (P : Program) (w : World) (K : PySem.W.Frag) (mg : Str → Option Value) (base : Heap) (k : Nat) (f : Addr) (fd : FuncData) (ps : List Str) (sp : Addr → Value → Option Addr → Sp) : Prop where
  len : ∀ a cls d vs H Q E, sp a cls d vs H Q E → vs.length = ps.length
  run : ∀ (A : Around) (outer : List Env) (s : Shared) (H : Hp) (args : Args) (us : List Value) (vs : List V) (Q : VK) (E : XK) (p : Addr × Obj) (cls : Value) (d : Option Addr), L2H.RoomH k A → L2H.PinOk outer H s p → Zc cls d p.2 → (∃ vs, p.2.data = .fields vs) →
    Env0 P w K mg base A outer s H → BindsTo s fd args (ps.zip us) → Vals vs us → sp p.1 cls d vs H Q E → codeAny (model P w) A (.call (.ref f) args) (CR CX0 outer P w H s Q E) s
theorem fn_ofP {P : Program} {w : World} {K : PySem.W.Frag} {mg : Str → Option Value} {base : Heap} {k : Nat} {f : Addr} {x qual : Str} {st : Stmt} {fd : FuncData} {N ps : List Str} {sp : Addr → Value → Option Addr → Sp} (F : Fun K x qual st f fd) (S : FnScope N ps (defScope st))
    (len : ∀ a cls d vs H Q E, sp a cls d vs H Q E → vs.length = ps.length)
    (body : ∀ (cdv : Value) (A : Around) (outer : List Env) (s : Shared) (H : Hp) (vs : List V) (Q : VK) (E : XK) (p : Addr × Obj) (cls : Value) (d : Option Addr), Zc cls d p.2 → (∃ vs, p.2.data = .fields vs) → L2H.RoomH k (A.deeper (envOfC qual (defScope st) s.heap.objs.size f cdv)) → sp p.1 cls d vs H Q E →
      ∃ t, PSs (L2H.cxH CX0 P w K mg base N qual (defScope st) f cdv A outer s H E p) (defBody st) t ∧ t { nx := fun _ H' => Q .non H', rt := Q } (L2.start N vs) H) : FnP P w K mg base (k + 1) f fd ps sp := by
  obtain ⟨oc, od, kV, doc, pm, an, cdv, ct, osl, rfl, lk, hcd⟩ := F.ex
  constructor
  · exact len
  intro A outer s H args us vs Q E p cls d room pin zc dat e0 bd rv hsp
  have inK : K.In s.heap := e0.mod.kin.keeps fun b o z => (e0.bs b o z).1
  have free_ : s.heap.NoLimit := e0.mod.nolimit.keeps fun b o z => (e0.bs b o z).1
  have kinds : ∀ y ∈ ps.zip us, (defScope st).names.lookup y.1 = some .local ∨ ((defScope st).names.lookup y.1 = some .cell ∧ ((cellsFrom (s.heap.objs.size + 1) (defScope st).names []).lookup y.1).isSome = true) := by
    rintro ⟨y, v⟩ hy
    rcases S.par y (List.of_mem_zip hy).1 with z | z
    · exact .inl z
    · exact .inr ⟨z, PySem.W.cellsFrom_some _ _ _ (.inl z)⟩
  apply codeAny_call_function room.depth (inK _ _ lk) rfl S.co S.gen rfl (PySem.W.codeRec_of inK hcd)
  apply bd
  apply wpAny_newFunctionEnv_cells S.kind kinds
  rintro env rfl s1 inside
  refine ⟨free_.keeps inside.toInCall.keep, codeAny_func ?_⟩
  obtain ⟨t, term, reading⟩ := body cdv A outer s H vs Q E p cls d zc dat (room.deeper _) hsp
  have I := L2H.inv_startH (CX := CX0) (E := E) S pin e0 (len _ _ _ _ _ _ _ hsp) rv inside
  refine wpAny_mono (term.run [] s1 (L2.start N vs) H _ I reading) (fun fl s' out => ?_) fun _ _ z => z
  cases fl with
  | ret u => obtain ⟨v, _, H', J, r, q⟩ := out; exact ⟨v, H', J.os, J.bare, J.base, J.hok, r, q⟩
  | next => obtain ⟨_, H', J, q⟩ := out; exact ⟨.non, H', J.os, J.bare, J.base, J.hok, rfl, q⟩
  | brk => obtain ⟨_, _, _, q⟩ := out; exact q.elim
  | cont => obtain ⟨_, _, _, q⟩ := out; exact q.elim
section
variable {X : Cx} {k : Nat} {f a : Addr} {oe : Obj} {cls : Value} {d : Option Addr} {fd : FuncData} {ps : List Str} {sp : Addr → Value → Option Addr → Sp} {x : Str} {q pos : Pos} {e : Expr} {es : List Expr} {t : TA}
theorem pe_callP (hp : (a, oe) ∈ X.pn) (hz : Zc cls d oe) (hf : ∃ vs, oe.data = .fields vs) (F : FnP X.prog X.w X.K X.mg X.base k f fd ps sp) (hr : L2H.RoomH k X.A) (hg : Gl X x) (hm : X.mg x = some (.ref f)) (hk : PySem.W.keepIn X.K (.ref f) = true) (hb : Binds X.K fd ps [])
    (ha : PA X (e :: es) t) (hdb : (x == ("__debug__" : Str)) = false := by decide) (he : starEach (e :: es) X.env = (false, eval e X.env) :: starEach es X.env := by rfl) (hpl : (backTo pos (starEach es X.env)).any (·.1) = false := by rfl) :
    PE X (.Call (.Name x q) (e :: es) [] pos) (fun σ H Q => t σ H fun vs H1 => sp a cls d vs H1 Q E0) := by
  constructor
  intro pins s σ H Q I h
  apply wpAny_Call_Name_kw
  refine ld_glob I hg hm ?_ hdb
  refine PySem.W.callWith_K (h₀ := X.base) I.ok.mod.kin hk (thn (ha.run pos pins s σ H _ I h) ?_) he hpl
  rintro us s1 ⟨vs, H1, I1, r1, q1⟩
  refine ⟨I1.kIn, ?_⟩
  have ln : (us ++ ([] : List Value)).length = ps.length := by
    rw [List.append_nil, ← r1.length]
    exact F.len _ _ _ _ _ _ _ q1
  have bd := hb s1 us I1.kIn ln
  rw [List.append_nil] at bd
  have P1 := I1.pin (a, oe) (List.mem_append_left _ hp)
  have pin : L2H.PinOk X.stack H1 s1 (a, oe) := by
    refine ⟨P1.1, P1.2.1, fun m => ?_, P1.2.2.2.2⟩
    rcases List.mem_cons.mp (I1.stkSub a m) with z | z
    · exact P1.2.2.1 z
    · exact P1.2.2.2.1 z
  refine wpAny_call (codeAny_mono (F.run X.A X.stack s1 H1 ⟨us, []⟩ us vs Q E0 (a, oe) cls d hr pin hz hf I1.env0 bd r1 q1) fun r s' out => ?_)
  cases r with
  | error z => exact (show False from out).elim
  | ok fl =>
    cases fl with
    | ret u => exact I1.after out
    | next => exact False.elim out
    | brk => exact False.elim out
    | cont => exact False.elim out
end
open NdefX
/-! ### own error classes over a built-in one -/
/-- the built-in base B, its __new__, its __init__, its mro -/
structure ErB (B newId initId : String) (bmB : List Value) : Prop where
  fb : ExcBaseFacts B newId initId bmB
  kx : PySem.W.KxsFacts B initId
  sf : StoreFacts B bmB "object.__setattr__" "object"
theorem erb_VE : ErB "ValueError" "ValueError.__new__" "ValueError.__init__" [.type "ValueError", .type "Exception", .type "BaseException", .type "object"] := ⟨PySem.F.excBase_ValueError, PySem.W.kxs_ValueError, PySem.F.store_ValueError⟩
theorem erb_LE : ErB "LookupError" "LookupError.__new__" "LookupError.__init__" [.type "LookupError", .type "Exception", .type "BaseException", .type "object"] := ⟨PySem.F.excBase_LookupError, PySem.W.kxs_LookupError, PySem.F.store_LookupError⟩
theorem erb_IE : ErB "IndexError" "IndexError.__new__" "IndexError.__init__" [.type "IndexError", .type "LookupError", .type "Exception", .type "BaseException", .type "object"] := ⟨PySem.F.excBase_IndexError, PySem.W.kxs_IndexError, PySem.F.store_IndexError⟩
/-- what stands written of an own error class at C -/
structure ErC (K : PySem.W.Frag) (C : Addr) (newId : String) (bmB : List Value) : Prop where
  cls : ∃ nm q N bs bm sn sub ab col dd k0 k1 k2 k3 k5, K.lookup C = some (excClassObj nm q C N bs bm true sn sub ab col dd k0 k1 k2 k3 k5 newId) ∧ PySem.W.excTail bmB bm = true
  ov : PySem.W.excOver K C bmB = true
  sa : PySem.W.findIn K (.ref C) "__setattr__" = some (some (.builtin "object.__setattr__"))
  ga : PySem.W.findIn K (.ref C) "__getattribute__" = some (some (.builtin "BaseException.__getattribute__"))
  gt : PySem.W.findIn K (.ref C) "__getattr__" = some none
  ex : PySem.W.subIn K (.ref C) (.type "BaseException") = some true
  ty : PySem.W.typeIn K (.ref C) = some (.type "type")
  kp : PySem.W.keepIn K (.ref C) = true
  cl : PySem.W.findIn K (.ref C) "__class__" = some (some (.builtin "object.__class__"))
  ob : PySem.W.mroIn K C (.type "object") = some true
section
variable {pr : Program} {wo : World} {A : Around} {Ex : Value → Shared → Prop} {hh : Heap} {gg : Array GenState} {dr : Drawn} {tt : Nat} {oo : OsState}
variable {nm qn : Str} {C N : Addr} {bs bm bmB : List Value} {hdct : Bool} {sn : List Str} {sub : List Value} {ab : Bool} {col : Option Bool} {dd : Option Addr} {k0 k1 k2 k3 k5 : Option Value} {B newId initId : String}
theorem mw_call (FB : ExcBaseFacts B newId initId bmB) {u e t0 : Addr} {rest : List Value} {Qv : Value → Shared → Prop}
    (hC : hh.get? C = some (excClassObj nm qn C N bs bm hdct sn sub ab col dd k0 k1 k2 k3 k5 newId)) (he : hh.get? e = some (PySem.HandSPX.excO C t0)) (hu : hh.get? u = some (PySem.W.kxs_mw initId e)) (hrest : rest.length ≤ sizeLine)
    (hq : ∀ h' t1, (∀ b o, b ≠ e → hh.get? b = some o → h'.get? b = some o) → h'.get? e = some (PySem.HandSPX.excO C t1) → Qv .none ⟨h', gg, dr, tt, oo⟩) :
    wpAny (model pr wo) A (call (.ref u) rest) Qv Ex ⟨hh, gg, dr, tt, oo⟩ := by
  refine wpAny_call (codeAny_of_tree ?_)
  show wpAny _ A.in1 (callAny (.ref u) ⟨rest, []⟩) _ _ _
  simp only [callAny]
  refine wpAny_bind (wpAny_load hu ?_)
  refine PySem.W.KFB.if_so (show ((Value.type "method-wrapper" == .type "method") || (Value.type "method-wrapper" == .type "builtin_function_or_method") || (Value.type "method-wrapper" == .type "method-wrapper")) = true by decide) ?_
  refine wpAny_bind (PySem.W.check_bound_init FB.toExcCallFacts hC he rfl ?_)
  refine wpAny_bind (wpAny_pure (wpAny_pure ⟨plainId_quiet FB.init.plain _, codeAny_builtin FB.initEntry ?_⟩))
  refine PySem.W.exc_init_tree (cls := .ref C) (t0 := t0) (dv := none) (c2 := .none) (c3 := .none) (b4 := .bool false) he hrest fun h' k e' _ => hq h' _ k e'
end
section
variable {X : Cx} {pins : List (Addr × Obj)} {σ : L2.St} {H : Hp} {s : Shared} {B newId initId : String} {bmB : List Value}
/-! ### self.f = y -/
theorem taker0 {K : PySem.W.Frag} {C : Addr} {f : Str} (h : PySem.W.findIn K (.ref C) f = some none) : PySem.W.takerIn K C f = some none := by
  unfold PySem.W.takerIn
  rw [h]
  rfl
theorem gst_new {a C : Addr} {f : Str} {y : V} {u : Value} {Qu : Unit → Shared → Prop} {Ex : Value → Shared → Prop} {A : Around} (E : ErB B newId initId bmB) (T : ErC X.K C newId bmB) (I : Inv X pins σ H s) (e : H a = some (exo a C none)) (hno : PySem.W.findIn X.K (.ref C) f = some none) (ry : RelV y u)
    (h : ∀ dx s', H dx = none → dx ≠ a → Inv X pins σ (upd (upd H dx (exd dx [(f, y)])) a (exo a C (some dx))) s' → Qu () s') : wpAny (model X.prog X.w) A (setAttr (.ref a) f u) Qu Ex s := by
  obtain ⟨nm, q, N, bs, bm, sn, sub, ab, col, dd, k0, k1, k2, k3, k5, hC, hbm⟩ := T.cls
  have hcl : PySem.W.clsIn X.K C = some { name := nm, bases := bs, mro := .ref C :: bm, ns := N, qualname := q, hasDict := true, slotNames := sn, subclasses := sub, abstract := ab, collection := col, hasDel := false } := by unfold PySem.W.clsIn; rw [hC] <;> rfl
  obtain ⟨t1, ho⟩ := exo_at I.hok e
  obtain ⟨hp, g, d, t, os⟩ := s
  have IA : PySem.W.InstAt hp a (PySem.HandSPX.excO C t1) C none := ⟨ho, rfl, rfl, trivial⟩
  refine PySem.W.set_plain I.kIn IA T.sa ?_
  refine PySem.W.osa_openX E.sf (s := ⟨hp, g, d, _, os⟩) I.kIn IA T.ov (taker0 hno) fun b => ?_
  have hcls : PySem.W.Looks (model X.prog X.w) hp (classData C) _ := PySem.W.looks_clsIn I.kIn hcl
  have hxs : a ≠ hp.objs.size := Nat.ne_of_lt (Heap.lt_size ho)
  show wpAny _ _ (Builtin.ObjectAttr.storeInOwnDict (.ref a) (.ref C) (.str f _) f u b) _ _ _
  unfold Builtin.ObjectAttr.storeInOwnDict Builtin.ObjectAttr.ownDictForStores
  repeat (first | with_reducible refine PySem.HandSPX.store_in_new ?_ ?_ | with_reducible refine wpAny_loadPart_at ho ?_ | with_reducible refine hcls.at ?_ | wp_step)
  · exact ⟨_, #[], _, (Heap.get?_update_ne _ _ _ _ hxs.symm).trans (Heap.get?_push_at rfl rfl), rfl, fun e he => absurd he (by simp), fun _ => rfl⟩
  · intro h' tk' hn' hs
    have hx1 : (hp.push { cls := .type "dict", data := .dict #[] }).get? a = some (PySem.HandSPX.excO C t1) := Heap.get?_push_of_some _ ho
    have k : ∀ b o, b ≠ a → hp.get? b = some o → h'.get? b = some o := fun b o hb ho' => (hs.2 b (Nat.ne_of_lt (Heap.lt_size ho'))).trans ((Heap.get?_update_ne _ _ _ _ hb).trans (Heap.get?_push_of_some _ ho'))
    have hx := (hs.2 a hxs).trans (Heap.get?_update_self _ hx1 rfl)
    have dn := Nat.le_refl hp.objs.size
    have hnd : H hp.objs.size = none := I.hok.fresh dn
    have nd : ∀ {b : Addr} {o : Obj}, hp.get? b = some o → b ≠ hp.objs.size := fun q => Nat.ne_of_lt (Heap.lt_size q)
    have na : ∀ {b : Addr}, H b = none → b ≠ a := fun {b} n z => by
      rw [z, e] at n
      cases n
    have U1 : Un X.fs [] H (upd (upd H hp.objs.size (exd hp.objs.size [(f, y)])) a (exo a C (some hp.objs.size))) hp h' := {
      keep := fun b o q n _ _ => k b o (na n) q
      slot := fun b o q n _ _ => ⟨o.slots, k b o (na n) q⟩
      free := fun b o q n _ => (upd_ne (na n)).trans ((upd_ne (nd q)).trans n)
      there := fun b o q _ => by
        by_cases hb : b = a
        · exact ⟨_, hb ▸ hx⟩
        · exact ⟨o, k b o hb q⟩
      tups := fun b xs q => (upd_ne (at_ne e q exo_tup)).trans ((upd_ne (ne_of_none q hnd)).trans q)
      frzs := fun b o v q => (upd_ne (at_ne e q exo_frz)).trans ((upd_ne (ne_of_none q hnd)).trans q)
      tbls := fun b ps q => ⟨#[], by rw [upd_ne (at_ne e q exo_tbl), upd_ne (ne_of_none q hnd), q]; simp⟩ }
    refine h hp.objs.size _ hnd hxs.symm (I.un (t' := tk') U1 fun b o q => ?_)
    by_cases hb : b = a
    · subst hb
      rw [upd_same] at q
      cases q
      exact exo_ok hx
    · rw [upd_ne hb] at q
      by_cases hd : b = hp.objs.size
      · subst hd
        rw [upd_same] at q
        cases q
        exact exd_ok hn' (relO_put (fs := []) ry fun g => True.intro)
      · rw [upd_ne hd] at q
        refine (I.hok b o q).stay (fun c v hc z => k c v ?_ z) (fun c hc => (upd_ne (at_ne e hc exo_own)).trans ((upd_ne (ne_of_none hc hnd)).trans hc)) fun c xs hc => (upd_ne (at_ne e hc exo_tup)).trans ((upd_ne (ne_of_none hc hnd)).trans hc)
        rcases hc with hc | hc
        · rw [hc]
          exact hb
        · exact at_ne e hc exo_own
theorem gst_old {a C dx : Addr} {f : Str} {y : V} {u : Value} {fs : List (Str × V)} {Qu : Unit → Shared → Prop} {Ex : Value → Shared → Prop} {A : Around} (E : ErB B newId initId bmB) (T : ErC X.K C newId bmB) (I : Inv X pins σ H s) (e : H a = some (exo a C (some dx))) (ed : H dx = some (exd dx fs)) (hl : fs.length ≤ 900)
    (hno : PySem.W.findIn X.K (.ref C) f = some none) (ry : RelV y u) (h : ∀ s', Inv X pins σ (upd H dx (exd dx ((f, y) :: fs))) s' → Qu () s') : wpAny (model X.prog X.w) A (setAttr (.ref a) f u) Qu Ex s := by
  obtain ⟨nm, q, N, bs, bm, sn, sub, ab, col, dd, k0, k1, k2, k3, k5, hC, hbm⟩ := T.cls
  have hcl : PySem.W.clsIn X.K C = some { name := nm, bases := bs, mro := .ref C :: bm, ns := N, qualname := q, hasDict := true, slotNames := sn, subclasses := sub, abstract := ab, collection := col, hasDel := false } := by unfold PySem.W.clsIn; rw [hC] <;> rfl
  obtain ⟨t1, ho⟩ := exo_at I.hok e
  obtain ⟨mA, hns, rel⟩ := exd_at I.hok ed
  have hw := within_of rel
  obtain ⟨hp, g, d, t, os⟩ := s
  obtain ⟨oD, _, _, hoD, _, _⟩ := hns.count hw
  have IA : PySem.W.InstAt hp a { cls := .ref C, dict := some dx, data := .fields #[.ref t1, .none, .none, .none, .bool false, .none] } C (some oD) := ⟨ho, rfl, rfl, hoD⟩
  refine PySem.W.set_plain I.kIn IA T.sa ?_
  refine PySem.W.osa_openX E.sf (s := ⟨hp, g, d, _, os⟩) I.kIn IA T.ov (taker0 hno) fun b => ?_
  have hcls : PySem.W.Looks (model X.prog X.w) hp (classData C) _ := PySem.W.looks_clsIn I.kIn hcl
  show wpAny _ _ (Builtin.ObjectAttr.storeInOwnDict (.ref a) (.ref C) (.str f _) f u b) _ _ _
  unfold Builtin.ObjectAttr.storeInOwnDict Builtin.ObjectAttr.ownDictForStores
  repeat (first | with_reducible refine PySem.OEX.store_in_old hns hw (by rw [List.length_map]; omega) ?_ | with_reducible refine wpAny_loadPart_at ho ?_ | with_reducible refine hcls.at ?_ | wp_step)
  intro h' tk' hn hs
  have k : ∀ b o, b ≠ dx → hp.get? b = some o → h'.get? b = some o := fun b o hb ho' => (hs.2 b hb).trans ho'
  have hd : ∃ o, h'.get? dx = some o := by
    obtain ⟨o, _, _, e', _⟩ := hn
    exact ⟨o, e'⟩
  exact h _ (I.write (t' := tk') (x := dx) (e := dx) (o := exd dx ((f, y) :: fs)) (by rw [ed]; exact True.intro) (.inl rfl) k hd (exd_ok hn (relO_put ry rel)))
def tGst (K : PySem.W.Frag) (newId : String) (bmB : List Value) (f : Str) (to te : TE) : TS := fun D σ H => te σ H fun y H1 => to σ H1 fun x H2 => ∃ a C : Addr, x = .ref a ∧ ErC K C newId bmB ∧ PySem.W.findIn K (.ref C) f = some none ∧
  ((H2 a = some (exo a C none) ∧ ∀ dx, H2 dx = none → dx ≠ a → D.nx σ (upd (upd H2 dx (exd dx [(f, y)])) a (exo a C (some dx)))) ∨
    ∃ (dx : Addr) (fs : List (Str × V)), H2 a = some (exo a C (some dx)) ∧ H2 dx = some (exd dx fs) ∧ fs.length ≤ 900 ∧ D.nx σ (upd H2 dx (exd dx ((f, y) :: fs))))
theorem ps_gst {o e : Expr} {to te : TE} {f : Str} {p' pos : Pos} (E : ErB B newId initId bmB) (ho : PE X o to) (he : PE X e te) (hs : swapsWith e (some (.Attribute o f p')) pos.line X.env = pure false := by rfl) : PS X (.Assign [.Attribute o f p'] e pos) (tGst X.K newId bmB f to te) := by
  refine ⟨fun pins s σ H D I h => ?_⟩
  refine plainObj_wpAny_Assign_Attribute (thn (he.run pins s σ H _ I h) fun v s1 ⟨y, H1, I1, r1, q1⟩ => thn (ho.run pins s1 σ H1 _ I1 q1) fun u s2 ⟨x, H2, I2, r2, a, C, ex, T, hno, q⟩ => ?_) hs
  subst ex
  obtain rfl : u = Value.ref a := r2
  rcases q with ⟨ea, q⟩ | ⟨dx, fs, ea, ed, hl, q⟩
  · exact gst_new E T I2 ea hno r1 fun dx s' n ne J => ⟨σ, _, J, q dx n ne⟩
  · exact gst_old E T I2 ea ed hl hno r1 fun s' J => ⟨σ, _, J, q⟩
end
section
variable {X : Cx} {pins : List (Addr × Obj)} {σ : L2.St} {H : Hp} {s : Shared} {B newId initId : String} {bmB : List Value}
/-! ### super().__init__(text), the first statement of an own error's __init__ -/
/-- a method with super(): its def at f, its code object at c -/
structure SupM (X : Cx) (f c : Addr) (ar : Arg) : Prop where
  fu : X.env.func = some f
  co : X.env.code = .ref c
  fd : ∃ (o : Obj) (fd : FuncData), X.K.lookup f = some o ∧ o.data = .func fd ∧ (fd.params.posonlyargs ++ fd.params.args).head? = some ar
  cd : ∃ (o : Obj) (vs : Array Value) (file : Str) (tk : Tok), X.K.lookup c = some o ∧ o.data = .fields vs ∧ vs[2]? = some (.str file tk) ∧ ((X.prog.main.file : Str) == file) = true
  ks : X.env.kindOf "super" = some .globalImplicit
  kc : X.env.kindOf "__class__" = some .free
  ka : X.env.kindOf ar.arg = some .local
  top : (X.prog.main.scope.names.lookup ("super" : Str)).isSome = false
  no : X.mg "super" = none
  op : PySem.W.nsIn X.K cStatics "thirdparty.any" = some none
theorem sup_stmt {f c a C : Addr} {ar : Arg} {i j : Nat} {body : List Stmt} {m : Str} {n : Nat} {pl : Sem Bool} {p0 p1 p2 p3 p4 p5 : Pos} (E : ErB B newId initId bmB) (T : SupM X f c ar) (O : ErC X.K C newId bmB) (I : Inv X pins σ H s)
    (hi : X.N[i]? = some ar.arg) (hs : σ[i]? = some (some (.ref a))) (hj : X.N[j]? = some ("__class__" : Str)) (hsj : σ[j]? = some (some (.ref C))) (ha : H a = some (exo a C none))
    (hsup : PySem.W.ks_superIn X.K C C "__init__" = some (some (.builtin initId))) (hB : PySem.W.subIn X.K (.ref C) (.type B) = some true) (hDD : PySem.W.mroIn X.K C (.ref C) = some true)
    (he : eval (.Call (.Attribute (.Call (.Name "super" p0) [] [] p1) "__init__" p2) [.Constant (.str m) n p3] [] p4) X.env = (do
      let ov ← attributeBase (.Call (.Name "super" p0) [] [] p1) "__init__" X.env (eval (.Call (.Name "super" p0) [] [] p1) X.env)
      standAt p2.atName
      let (g, first) ← holding [ov] (getMethod ov "__init__" pl)
      callWith p4 g first (backTo p4 (starEach [.Constant (.str m) n p3] X.env)) []))
    (hint : interactive X.env = false) (hsw : swapsWith (.Call (.Attribute (.Call (.Name "super" p0) [] [] p1) "__init__" p2) [.Constant (.str m) n p3] [] p4) none p5.line X.env = pure false) :
    _root_.PySem.wpAt (model X.prog X.w) X.A (.func body X.env) (exec (.Expr (.Call (.Attribute (.Call (.Name "super" p0) [] [] p1) "__init__" p2) [.Constant (.str m) n p3] [] p4) p5) X.env) (fun fl s' => fl = .next ∧ Inv X pins σ H s') X.xe s := by
  refine ks_wpAt_Expr_any ?_ hint hsw
  refine ks_wpAt_MethodCall (pl := pl) ?_ he
  have KX : X.K.In s.heap := I.kIn
  obtain ⟨of, fd, hf, hfd, hp⟩ := T.fd
  obtain ⟨oc, vs, file, tk, hc, hoc, hvs, hfile⟩ := T.cd
  obtain ⟨nm, q, N, bs, bm, sn, sub, ab, col, dd, k0, k1, k2, k3, k5, hC, hbm⟩ := O.cls
  have hcl : PySem.W.clsIn X.K C = some { name := nm, bases := bs, mro := .ref C :: bm, ns := N, qualname := q, hasDict := true, slotNames := sn, subclasses := sub, abstract := ab, collection := col, hasDel := false } := by unfold PySem.W.clsIn; rw [hC] <;> rfl
  obtain ⟨t1, ho⟩ := exo_at I.hok ha
  refine ks_wpAt_super_base (env := X.env) T.ks T.kc (by decide) T.fu (KX _ _ hf) hfd hp T.co (KX _ _ hc) hoc hvs hfile T.top ?_
  obtain ⟨mb, h1, h2⟩ := I.mod.blt
  refine PySem.W.ks_loadName_global I.ok.kind T.ks (Calls.loadGlobal_builtin (by rw [I.ok.glob]; exact I.mod.glob.keeps I.bk) T.no (by rw [I.ok.blt]; exact h1.keeps I.bk) ((h2 "super" (by decide)).trans (by decide +kernel)) ⟨rfl, ?_⟩)
  obtain ⟨mm, hn, hl⟩ := I.loc
  obtain ⟨uc, rc, lc⟩ := hl j _ _ hj hsj (.inr (.inr T.kc))
  obtain ⟨ua, ra, la⟩ := hl i _ _ hi hs (.inl T.ka)
  obtain rfl : uc = Value.ref C := rc
  obtain rfl : ua = Value.ref a := ra
  obtain ⟨cc, hcc, hcell⟩ : ∃ cc, X.env.cells.lookup ("__class__" : Str) = some cc ∧ s.heap.IsCell cc (some (Value.ref C)) := by
    rcases lc with ⟨z, _⟩ | ⟨_, z⟩
    · rw [T.kc] at z
      cases z
    · exact z
  have hma : mm ar.arg = some (Value.ref a) := by
    rcases la with ⟨_, z⟩ | ⟨z, _⟩
    · exact z
    · rw [T.ka] at z
      rcases z with z | z <;> cases z
  refine wpAny_loadName_free I.ok.kind T.kc hcc hcell ?_
  refine wpAny_loadName_local I.ok.kind T.ka hn hma ?_
  have hCh := KX _ _ hC
  refine ks_wpAny_isType_cls hCh rfl ⟨rfl, ?_⟩
  obtain ⟨hp', g, d, t, os⟩ := s
  refine ks_wpAny_call_super hCh rfl ho rfl (fun z e => by cases e) (PySem.W.looks_mroIn KX hDD) fun h1 so kk => ?_
  have I1 : Inv X pins σ H ⟨h1, g, d, t, os⟩ := I.kept (t' := t) kk
  have hin : PySem.W.Looks (model X.prog X.w) h1 (isInstance (.ref a) (.type B)) true := (show PySem.W.InstAt h1 a (PySem.HandSPX.excO C t1) C none from ⟨kk _ _ ho, rfl, rfl, trivial⟩).type.andThen (PySem.W.looks_subIn I1.kIn hB)
  have hsup' := hsup
  unfold PySem.W.ks_superIn at hsup'
  rw [hcl] at hsup'
  refine PySem.W.kxs_getMethod E.kx so (PySem.W.looks_opaque I1.kIn T.op) (l₀ := .ref C :: bm) (fun A Q E s k q => wpAny_bind ((PySem.W.looks_clsIn I1.kIn hcl) A _ E s k (wpAny_pure q))) rfl I1.kIn hsup' hin (fun z => ?_) (by decide) ?_
  · subst z
    rw [show hp'.get? a = _ from hCh] at ho
    cases ho
  have kk2 : ∀ b o, h1.get? b = some o → (h1.push (PySem.W.kxs_mw initId a)).get? b = some o := fun b o e => Heap.get?_push_of_some _ e
  have I2 : Inv X pins σ H ⟨h1.push (PySem.W.kxs_mw initId a), g, d, t + 1, os⟩ := I1.kept (t' := t + 1) kk2
  have hmw : (h1.push (PySem.W.kxs_mw initId a)).get? h1.objs.size = some (PySem.W.kxs_mw initId a) := Heap.get?_push_at rfl rfl
  show wpAny _ _ (callWith p4 (.ref h1.objs.size) [] ((false, eval (.Constant (.str m) n p3) X.env) :: backTo p4 (starEach [] X.env)) []) _ _ _
  refine PySem.W.kxs_callWith (i := initId) (x := a) rfl (PySem.Calls.evalArgs_plain (PySem.Calls.spliced_cons (PySem.Calls.Constant_str (PySem.Calls.spliced_nil ⟨hmw, ?_⟩))))
  show wpAny _ _ (call (.ref h1.objs.size) [.str m (t + 1)]) _ _ _
  refine mw_call E.fb (kk2 _ _ (kk _ _ hCh)) (kk2 _ _ (kk _ _ ho)) hmw (by show 1 ≤ sizeLine; decide) fun h3 t3 k3 e3 => ⟨rfl, ?_⟩
  have J := (I2.tok (t + 1 + 1)).write (h' := h3) (t' := t + 1 + 1) (x := a) (e := a) (o := exo a C none) (by rw [ha]; exact True.intro) (.inl rfl) k3 ⟨_, e3⟩ (exo_ok e3)
  rw [show upd H a (exo a C none) = H from funext fun z => by
    by_cases hz : z = a
    · rw [hz, upd_same, ha]
    · rw [upd_ne hz]] at J
  exact J
end
section
variable {P : Program} {w : World} {K : PySem.W.Frag} {mg : Str → Option Value} {base : Heap} {B newId initId : String} {bmB : List Value}
/-- what stands written of an own error's __init__: its words F, the def at f, its class at C -/
structure IniM (P : Program) (K : PySem.W.Frag) (mg : Str → Option Value) (B newId initId : String) (bmB : List Value) (f C : Addr) (F : NF) (ar : Arg) (doc pm ctv : Value) : Prop where
  lk : ∃ (od : Option Addr) (sl : Array (Option Value)), K.lookup f = some ⟨.type "function", od, .func (F.fd doc pm ctv), sl⟩
  cd : PySem.W.codeIn K (.ref F.c) F.qual = true
  cl : ∃ (cc : Addr) (o : Obj), F.cl = [(("__class__" : Str), cc)] ∧ K.lookup cc = some o ∧ o.data = .cell (some (.ref C))
  hd : (F.params.posonlyargs ++ F.params.args).head? = some ar
  fl : ∃ (o : Obj) (vs : Array Value) (file : Str) (tk : Tok), K.lookup F.c = some o ∧ o.data = .fields vs ∧ vs[2]? = some (.str file tk) ∧ ((P.main.file : Str) == file) = true
  ks : F.scope.names.lookup ("super" : Str) = some .globalImplicit
  kc : F.scope.names.lookup ("__class__" : Str) = some .free
  ka : F.scope.names.lookup ar.arg = some .local
  top : (P.main.scope.names.lookup ("super" : Str)).isSome = false
  no : mg "super" = none
  op : PySem.W.nsIn K cStatics "thirdparty.any" = some none
  ox : ErC K C newId bmB
  su : PySem.W.ks_superIn K C C "__init__" = some (some (.builtin initId))
  sb : PySem.W.subIn K (.ref C) (.type B) = some true
  mr : PySem.W.mroIn K C (.ref C) = some true
theorem init_fn {f C : Addr} {F : NF} {ar : Arg} {doc pm ctv : Value} {N ps : List Str} {k i j n : Nat} {sp : Sp} {m : Str} {p0 p1 p2 p3 p4 p5 : Pos} {rest : List Stmt} {pl : Addr → Sem Bool} (EB : ErB B newId initId bmB) (T : IniM P K mg B newId initId bmB f C F ar doc pm ctv)
    (S : NScope N ps ["__class__"] F.scope) (len : ∀ vs H Q E, sp vs H Q E → vs.length = ps.length) (hi : N[i]? = some ar.arg) (hj : N[j]? = some ("__class__" : Str))
    (hbd : F.body = .Expr (.Call (.Attribute (.Call (.Name "super" p0) [] [] p1) "__init__" p2) [.Constant (.str m) n p3] [] p4) p5 :: rest)
    (hst : ∀ vs H Q E, sp vs H Q E → ∃ a, (startF N vs [some (.ref C)])[i]? = some (some (.ref a)) ∧ (startF N vs [some (.ref C)])[j]? = some (some (.ref C)) ∧ H a = some (exo a C none))
    (hbody : ∀ (A : Around) (outer : List Env) (s : Shared) (H : Hp) (vs : List V) (Q : VK) (E : XK), Room k (A.deeper (envF F f s.heap.objs.size)) → sp vs H Q E →
      ∃ t, PSs (ncx CX0 P w K mg base N F f A outer s H E) rest t ∧ t { nx := fun _ H' => Q .non H', rt := Q } (startF N vs [some (.ref C)]) H)
    (he : ∀ L, eval (.Call (.Attribute (.Call (.Name "super" p0) [] [] p1) "__init__" p2) [.Constant (.str m) n p3] [] p4) (envF F f L) = (do
      let ov ← attributeBase (.Call (.Name "super" p0) [] [] p1) "__init__" (envF F f L) (eval (.Call (.Name "super" p0) [] [] p1) (envF F f L))
      standAt p2.atName
      let (g, first) ← holding [ov] (getMethod ov "__init__" (pl L))
      callWith p4 g first (backTo p4 (starEach [.Constant (.str m) n p3] (envF F f L))) []) := by intro _; rfl)
    (hint : ∀ L, interactive (envF F f L) = false := by intro _; rfl)
    (hsw : ∀ L, swapsWith (.Call (.Attribute (.Call (.Name "super" p0) [] [] p1) "__init__" p2) [.Constant (.str m) n p3] [] p4) none p5.line (envF F f L) = pure false := by intro _; rfl) :
    FnOk P w K mg base CX0 (k + 1) f (F.fd doc pm ctv) ps sp := by
  refine ⟨len, fun A outer s H args us vs Q E hr e0 hb r hsp => ?_⟩
  have KX : K.In s.heap := e0.mod.kin.keeps fun b o e => (e0.bs b o e).1
  have hl := len _ _ _ _ hsp
  have lim : s.heap.NoLimit := e0.mod.nolimit.keeps fun b o e => (e0.bs b o e).1
  obtain ⟨od, sl, lk⟩ := T.lk
  obtain ⟨cc, oc, ecl, lcc, dcc⟩ := T.cl
  refine codeAny_call_function hr.depth (KX _ _ lk) rfl S.co S.gen rfl (PySem.W.codeRec_of KX T.cd) (hb _ _ _ _ ?_)
  refine wpAny_newFunctionEnv S.nocell (fun ⟨x, _⟩ hy => S.par x (List.of_mem_zip hy).1) (fun h1 hns hsb => ⟨lim.fresh _ hsb, ?_⟩) S.kind
  have kp : ∀ b o, s.heap.get? b = some o → h1.get? b = some o := fun b o e => hsb.extBut b o (Nat.ne_of_lt (Heap.lt_size e)) (Heap.get?_push_of_some _ e)
  have CA : CellsAt F.cl ["__class__"] [some (.ref C)] s.heap H := by
    rw [ecl]
    have hc : ∀ (y : Str) (c : Addr), ([(("__class__" : Str), cc)] : List (Str × Addr)).lookup y = some c → c = cc ∧ y = "__class__" := fun y c e => by
      rw [List.lookup_cons] at e
      split at e
      · rename_i z
        exact ⟨(Option.some.inj e).symm, eq_of_beq z⟩
      · cases e
    refine ⟨rfl, fun y c e => ?_, fun x y c e1 e2 => (hc x c e1).2.trans (hc y c e2).2.symm, fun i y e => ?_⟩
    · rw [(hc y c e).1]
      exact ⟨(e0.bs _ _ (e0.mod.kin _ _ lcc)).2, _, oc, KX _ _ lcc, dcc⟩
    · match i, e with
      | 0, e =>
        cases e
        exact ⟨cc, by simp, fun v e => by cases e; exact ⟨_, rfl, oc, KX _ _ lcc, dcc⟩⟩
  have I : Inv (ncx CX0 P w K mg base N F f A outer s H E) [] (startF N vs [some (.ref C)]) H { s with heap := h1, toks := s.toks + (ps.zip us).length } := inv_startN S hr.hd e0 hl r CA hns kp
  obtain ⟨a, s1, s2, ha⟩ := hst _ _ _ _ hsp
  have TM : SupM (ncx CX0 P w K mg base N F f A outer s H E) f F.c ar := ⟨rfl, rfl, ⟨_, _, lk, rfl, T.hd⟩, T.fl, T.ks, T.kc, T.ka, T.top, T.no, T.op⟩
  have fin : ∀ {τ : L2.St} {G : Hp} {v : V} {u : Value} {z : Shared}, Inv (ncx CX0 P w K mg base N F f A outer s H E) [] τ G z → L2.RelV v u → Q v G → CE outer P w H s Q u z :=
    fun J rv q => ⟨_, _, J.os, J.bare, J.base, J.hok, rv, q⟩
  obtain ⟨t, ht, hq⟩ := hbody A outer s H vs Q E (hr.deeper _) hsp
  refine ks_codeAny_funcAt (body := F.body) (env := envF F f s.heap.objs.size) ?_
  rw [hbd]
  refine ks_wpAt_execs_cons (ks_wpAt_mono (sup_stmt (X := ncx CX0 P w K mg base N F f A outer s H E) (i := i) (j := j) EB TM T.ox I hi s1 hj s2 ha T.su T.sb T.mr (he _) (hint _) (hsw _)) (fun fl s' hs => ?_) fun e s' hx => hx)
  obtain ⟨rfl, J⟩ := hs
  refine _root_.PySem.wpAt_of_wpAny (wpAny_mono (ht.run [] s' _ H _ J hq) (fun fl z hz => ?_) fun e s' hx => hx)
  cases fl with
  | ret u =>
    obtain ⟨v5, τ5, G5, J5, r5, q5⟩ := hz
    exact fin J5 r5 q5
  | next =>
    obtain ⟨τ5, G5, J5, q5⟩ := hz
    exact fin (v := V.non) (u := Value.none) J5 rfl q5
  | brk =>
    obtain ⟨_, _, _, q5⟩ := hz
    exact q5.elim
  | cont =>
    obtain ⟨_, _, _, q5⟩ := hz
    exact q5.elim
end
section
variable {X : Cx} {B newId initId : String} {bmB : List Value}
theorem ErC.has {K : PySem.W.Frag} {C : Addr} (T : ErC K C newId bmB) : PySem.W.hasDictIn K C = true ∧ (PySem.W.clsIn K C).isSome = true := by
  obtain ⟨nm, q, N, bs, bm, sn, sub, ab, col, dd, k0, k1, k2, k3, k5, hC, hbm⟩ := T.cls
  have hcl : PySem.W.clsIn K C = some { name := nm, bases := bs, mro := .ref C :: bm, ns := N, qualname := q, hasDict := true, slotNames := sn, subclasses := sub, abstract := ab, collection := col, hasDel := false } := by unfold PySem.W.clsIn; rw [hC] <;> rfl
  exact ⟨by unfold PySem.W.hasDictIn; rw [hcl] <;> rfl, by rw [hcl] <;> rfl⟩
/-! ### C(..): an own error as a value -/
def tMkV (C : Addr) (sp : Sp) (dvs : List V) (ta : TA) : TE := fun σ H Q => ta σ H fun vs H1 => vs.length ≤ 1000 ∧ ∀ a, H1 a = none → sp (.ref a :: (vs ++ dvs)) (upd H1 a (exo a C none)) (fun v H2 => v = .non ∧ Q (.ref a) H2) (fun _ _ _ => False)
theorem run_mkE {CX : CXT} {C fI : Addr} {k : Nat} {fd : FuncData} {ps : List Str} {sp : Sp} {ds : List Value} {dvs vs : List V} {us : List Value} {pins : List (Addr × Obj)} {σ : L2.St} {H1 : Hp} {s1 : Shared} {Q : VK} (E : ErB B newId initId bmB) (T : ErC X.K C newId bmB)
    (iC : PySem.W.findIn X.K (.ref C) "__init__" = some (some (.ref fI))) (tI : PySem.W.typeIn X.K (.ref fI) = some (.type "function")) (F1 : FnOk X.prog X.w X.K X.mg X.base CX k fI fd ps sp) (hr : Room (k + 1) X.A) (hb : Binds X.K fd ps ds) (hd : Vals dvs ds)
    (hx : Passes CX X (fun _ _ _ => False)) (I1 : Inv X pins σ H1 s1) (r1 : Vals vs us) (hz : vs.length ≤ 1000) (q1 : ∀ a, H1 a = none → sp (.ref a :: (vs ++ dvs)) (upd H1 a (exo a C none)) (fun v H2 => v = .non ∧ Q (.ref a) H2) (fun _ _ _ => False)) :
    wpAny (model X.prog X.w) X.A (call (.ref C) us) (EP X pins σ Q) X.xe s1 := by
  obtain ⟨nm, q, N, bs, bm, sn, sub, ab, col, dd, k0, k1, k2, k3, k5, hC, hbm⟩ := T.cls
  obtain ⟨hp, g, dr, tk, os⟩ := s1
  have hsz : hp.objs.size ≤ hp.objs.size + 1 := Nat.le_succ _
  have hq := q1 (hp.objs.size + 1) (I1.hok.fresh hsz)
  have kk : ∀ b o, hp.get? b = some o → ((hp.push (PySem.W.kdv_tup us)).push (PySem.HandSPX.excO C hp.objs.size)).get? b = some o := fun b o e => Heap.get?_push_of_some _ (Heap.get?_push_of_some _ e)
  have hget : ((hp.push (PySem.W.kdv_tup us)).push (PySem.HandSPX.excO C hp.objs.size)).get? (hp.objs.size + 1) = some (PySem.HandSPX.excO C hp.objs.size) := by heap_get
  have I2 : Inv X pins σ (upd H1 (hp.objs.size + 1) (exo (hp.objs.size + 1) C none)) ⟨(hp.push (PySem.W.kdv_tup us)).push (PySem.HandSPX.excO C hp.objs.size), g, dr, tk, os⟩ :=
    I1.laid (t' := tk) kk hsz (exo_ok hget)
  have r2 : Vals (V.ref (hp.objs.size + 1) :: (vs ++ dvs)) (Value.ref (hp.objs.size + 1) :: (us ++ ds)) := .cons rfl (r1.append hd)
  have hl : (Value.ref (hp.objs.size + 1) :: us ++ ds).length = ps.length := r2.length.symm.trans (F1.len _ _ _ _ hq)
  have hus : us.length ≤ sizeLine := by
    rw [← Paired.length r1, sizeLine_eq]
    omega
  refine wpAny_call (PySem.HandSPX.call_own E.fb (fun Y => PySem.W.excTail_contains Y bm hbm) (I1.kIn _ _ hC) (PySem.W.looks_findIn I1.kIn iC) (fun self => PySem.W.bind_fn I1.kIn self tI) hus
    (codeAny_mono (F1.run _ X.stack _ _ ⟨Value.ref (hp.objs.size + 1) :: us, []⟩ (Value.ref (hp.objs.size + 1) :: (us ++ ds)) _ _ (fun _ _ _ => False) (hr.make C us []) (I2.env0.make C us []) (hb _ (Value.ref (hp.objs.size + 1) :: us) I2.kIn hl) r2 hq) fun r s' hq' => ?_))
  match r, hq' with
  | .error er, hq' => exact hx pins σ _ _ er s' I2 hq'
  | .ok (.ret u), hq' =>
    obtain ⟨v, H2, J, rv, ev, q2⟩ := I2.after hq'
    subst ev
    exact ⟨rv, .ref (hp.objs.size + 1), H2, J, rfl, q2⟩
  | .ok .next, hq' => exact False.elim hq'
  | .ok .brk, hq' => exact False.elim hq'
  | .ok .cont, hq' => exact False.elim hq'
variable {CX : CXT} {x : Str} {C fI : Addr} {k : Nat} {fd : FuncData} {ps : List Str} {sp : Sp} {ds : List Value} {dvs : List V} {e : Expr} {es : List Expr} {ta : TA} {te : TE} {p pos : Pos}
theorem pe_mkE (E : ErB B newId initId bmB) (T : ErC X.K C newId bmB) (iC : PySem.W.findIn X.K (.ref C) "__init__" = some (some (.ref fI))) (tI : PySem.W.typeIn X.K (.ref fI) = some (.type "function"))
    (F1 : FnOk X.prog X.w X.K X.mg X.base CX k fI fd ps sp) (hr : Room (k + 1) X.A) (hb : Binds X.K fd ps ds) (hd : Vals dvs ds) (hx : Passes CX X (fun _ _ _ => False)) (hg : Gl X x) (hm : X.mg x = some (.ref C)) (ha : PA X (e :: es) ta)
    (hdb : (x == ("__debug__" : Str)) = false := by decide) (he : starEach (e :: es) X.env = (false, eval e X.env) :: starEach es X.env := by rfl) (hpl : (backTo pos (starEach es X.env)).any (·.1) = false := by rfl) :
    PE X (.Call (.Name x p) (e :: es) [] pos) (tMkV C sp dvs ta) := by
  refine ⟨fun pins s σ H Q I h => ?_⟩
  refine wpAny_Call_Name_kw (ld_glob I hg hm ?_ hdb)
  refine PySem.W.callWith_K (h₀ := X.base) I.ok.mod.kin T.kp (thn (ha.run pos pins s σ H _ I h) fun us s1 ⟨vs, H1, I1, r1, hz, q1⟩ => ⟨I1.kIn, ?_⟩) he hpl
  exact run_mkE E T iC tI F1 hr hb hd hx I1 r1 hz q1
theorem pe_mkE0 (E : ErB B newId initId bmB) (T : ErC X.K C newId bmB) (iC : PySem.W.findIn X.K (.ref C) "__init__" = some (some (.ref fI))) (tI : PySem.W.typeIn X.K (.ref fI) = some (.type "function"))
    (F1 : FnOk X.prog X.w X.K X.mg X.base CX k fI fd ps sp) (hr : Room (k + 1) X.A) (hb : Binds X.K fd ps ds) (hd : Vals dvs ds) (hx : Passes CX X (fun _ _ _ => False)) (hg : Gl X x) (hm : X.mg x = some (.ref C))
    (hdb : (x == ("__debug__" : Str)) = false := by decide) : PE X (.Call (.Name x p) [] [] pos) (tMkV C sp dvs tNil) := by
  refine ⟨fun pins s σ H Q I h => ?_⟩
  refine wpAny_Call_Name_kw (ld_glob I hg hm ?_ hdb)
  exact PySem.W.callWith_K0 I.kIn T.kp (run_mkE (us := []) E T iC tI F1 hr hb hd hx I .nil h.1 h.2)
/-! ### e.f of such a value -/
def tXo (K : PySem.W.Frag) (f : Str) (te : TE) : TE := fun σ H Q => te σ H fun x H1 => ∃ (a C d : Addr) (nw : String) (bm : List Value) (fs : List (Str × V)) (v : V), x = .ref a ∧ H1 a = some (exo a C (some d)) ∧ H1 d = some (exd d fs) ∧ fs.lookup f = some v ∧
  PySem.W.findIn K (.ref C) f = some none ∧ ErC K C nw bm ∧ Q v H1
theorem inst_exo {pins : List (Addr × Obj)} {σ : L2.St} {H : Hp} {s : Shared} {a C d : Addr} {fs : List (Str × V)} (I : Inv X pins σ H s) (ea : H a = some (exo a C (some d))) (ed : H d = some (exd d fs)) :
    ∃ (ox od : Obj) (mA : Str → Option Value), PySem.W.InstAt s.heap a ox C (some od) ∧ (∀ n, PySem.W.lookIn n od = some (mA n)) ∧ ∀ f, RelO (fs.lookup f) (mA f) := by
  obtain ⟨t1, ho⟩ := exo_at I.hok ea
  obtain ⟨mA, hns, rel⟩ := exd_at I.hok ed
  obtain ⟨od, hod, hl⟩ := lookIn_ns hns
  exact ⟨_, od, mA, ⟨ho, rfl, rfl, hod⟩, hl, rel⟩
theorem pe_xo {n : Str} (he : PE X e te) (hb : attributeBase e n X.env (eval e X.env) = eval e X.env := by rfl) : PE X (.Attribute e n pos) (tXo X.K n te) := by
  refine ⟨fun pins s σ H Q I h => ?_⟩
  refine attr_of hb (thn (he.run pins s σ H _ I h) fun u s1 hh => ?_)
  obtain ⟨x, H1, I1, rx, a, C, d, nw, bm, fs, v, ex, ea, ed, l, hno, T, q⟩ := hh
  subst ex
  obtain rfl : u = Value.ref a := rx
  obtain ⟨ox, od, mA, J, hl, rel⟩ := inst_exo I1 ea ed
  obtain ⟨u, hu, ru⟩ := RelO.some_of (v := v) (o := mA n) (l ▸ rel n)
  exact HandSPX.exc_get I1.kIn J T.ga T.gt T.ex (PySem.W.findObj_own T.has.1 hno rfl ((hl n).trans (congrArg some hu))) (handed_of ru) ⟨v, H1, I1.tok _, ru, q⟩
/-! ### isinstance of such a value -/
def rIsO (K : PySem.W.Frag) : List V → Hp → VK → Prop := fun xs H Q => ∃ (a C d : Addr) (nw : String) (bm : List Value) (fs : List (Str × V)) (c : V) (cv : Value) (b : Bool), xs = [.ref a, c] ∧ H a = some (exo a C (some d)) ∧ H d = some (exd d fs) ∧ ErC K C nw bm ∧ ClsV c cv ∧
  PySem.W.kitOne K (.ref C) cv = some b ∧ Q (.bl b) H
theorem call_isO (hn : PySem.W.specialIn X.K (.builtin "object.__class__") "__get__" = some (some (.builtin "getset_descriptor.__get__"))) (ht : PySem.W.takesIn X.K (.builtin "object.__class__") = some true) : CallR X (.builtin "isinstance") (rIsO X.K) := by
  intro pins s σ H xs us Q I r h
  obtain ⟨a, C, d, nw, bm, fs, c, cv, b, rfl, ea, ed, T, hc, e, q⟩ := h
  obtain ⟨u1, u2, rfl, r1, r2⟩ := vals2 r
  have e2 := hc.eq r2
  subst e2
  cases (show u1 = Value.ref a from r1)
  obtain ⟨ox, od, mA, J, _, _⟩ := inst_exo I ea ed
  exact PySem.W.kia_one (PySem.W.kitx_exc T.has.2 T.ga T.gt T.ex T.cl hn ht T.ob) I.kIn J e (fun z => nomatch z) fun tk => ⟨.bl b, H, I.tok tk, rfl, q⟩
end
/-! ### an own error made -/
/-- what __init__ leaves: the object at a with its dict at d -/
def Made (H H' : Hp) (a C d : Addr) (fs : List (Str × V)) : Prop := H d = none ∧ d ≠ a ∧ H' a = some (exo a C (some d)) ∧ H' d = some (exd d fs) ∧ ∀ b o, b ≠ a → H b = some o → H' b = some o
def spIni (C : Addr) (n : Nat) (fs : List V → List (Str × V)) : Sp := fun vs H Q _ => ∃ (a : Addr) (ws : List V), vs = .ref a :: ws ∧ ws.length = n ∧ H a = some (exo a C none) ∧ ∀ d H', Made H H' a C d (fs ws) → Q .non H'
abbrev NFI (st : Stmt) (qual : Str) (cc c : Addr) : NF := ⟨"__init__", qual, defArgs st, defBody st, defScope st, [(("__class__" : Str), cc)], c⟩
theorem made1 {H : Hp} {a C d : Addr} {f : Str} {y : V} (ha : H a = some (exo a C none)) (hd : H d = none) (ne : d ≠ a) : Made H (upd (upd H d (exd d [(f, y)])) a (exo a C (some d))) a C d [(f, y)] :=
  ⟨hd, ne, upd_same, (upd_ne ne).trans upd_same, fun b o hb e => (upd_ne hb).trans ((upd_ne (ne_of_none e hd)).trans e)⟩
theorem made2 {H H' : Hp} {a C d : Addr} {f : Str} {y : V} {fs : List (Str × V)} (m : Made H H' a C d fs) : Made H (upd H' d (exd d ((f, y) :: fs))) a C d ((f, y) :: fs) :=
  ⟨m.1, m.2.1, (upd_ne m.2.1.symm).trans m.2.2.1, upd_same, fun b o hb e => (upd_ne (ne_of_none e m.1)).trans (m.2.2.2.2 b o hb e)⟩
/-- the value x is an error of the class at C with the fields fs -/
def IsE (H : Hp) (C : Addr) (fs : List (Str × V)) (x : V) : Prop := ∃ a d : Addr, x = .ref a ∧ H a = some (exo a C (some d)) ∧ H d = some (exd d fs)
theorem IsE.same {H H' : Hp} {C : Addr} {fs : List (Str × V)} {x : V} (h : IsE H C fs x) (s : Same H H') : IsE H' C fs x := by
  obtain ⟨a, d, rfl, ea, ed⟩ := h
  exact ⟨a, d, rfl, s _ _ ea, s _ _ ed⟩
theorem mkv_use {H1 : Hp} {Q : VK} {C : Addr} {n : Nat} {fs : List V → List (Str × V)} {vs : List V} (hn : vs.length = n) (h0 : n ≤ 1000) (h : ∀ x H', Same H1 H' → IsE H' C (fs vs) x → Q x H') :
    vs.length ≤ 1000 ∧ ∀ a, H1 a = none → spIni C n fs (.ref a :: (vs ++ [])) (upd H1 a (exo a C none)) (fun v H2 => v = .non ∧ Q (.ref a) H2) (fun _ _ _ => False) := by
  refine ⟨by omega, fun a ha => ?_⟩
  rw [List.append_nil]
  refine ⟨a, vs, rfl, hn, upd_same, fun d H2 m => ⟨rfl, h _ _ (fun b o e => ?_) ⟨a, d, rfl, m.2.2.1, m.2.2.2.1⟩⟩⟩
  exact m.2.2.2.2 b o (ne_of_none e ha) ((upd_ne (ne_of_none e ha)).trans e)
/-- the class nm, an own error over B: its mro behind itself is pre and then bmB -/
structure Er (P : Program) (K : PySem.W.Frag) (mg : Str → Option Value) (B newId initId : String) (bmB pre : List Value) (st : Stmt) (nm qual : Str) where
  C : Addr
  f : Addr
  cc : Addr
  c : Addr
  ar : Arg
  doc : Value
  pm : Value
  ctv : Value
  T : IniM P K mg B newId initId bmB f C (NFI st qual cc c) ar doc pm ctv
  iC : PySem.W.findIn K (.ref C) "__init__" = some (some (.ref f))
  tI : PySem.W.typeIn K (.ref f) = some (.type "function")
  g : mg nm = some (.ref C)
  har : ar.arg = "self"
  lk : ∃ q N bs sn sub ab col dd k0 k1 k2 k3 k5, K.lookup C = some (excClassObj nm q C N bs (pre ++ bmB) true sn sub ab col dd k0 k1 k2 k3 k5 newId)
section
variable {base : Heap} {K : PySem.W.Frag} {mg : Str → Option Value} {P : Program} {w : World} {B newId initId : String} {bmB pre : List Value} {st : Stmt} {nm qual : Str}
theorem ok_ini1 {fl pn wd m : Str} {p0 p1 p2 p3 p4 p5 q0 q1 q2 q3 r0 r1 r2 r3 : Pos} {n1 n2 : Nat} {pl : Addr → Sem Bool} (EB : ErB B newId initId bmB) (T : Er P K mg B newId initId bmB pre st nm qual) (S : NScope ["self", pn, "__class__"] ["self", pn] ["__class__"] (defScope st))
    (hbd : defBody st = [.Expr (.Call (.Attribute (.Call (.Name "super" p0) [] [] p1) "__init__" p2) [.Constant (.str m) n1 p3] [] p4) p5, .Assign [.Attribute (.Name "self" q0) "word" q1] (.Constant (.str wd) n2 q2) q3, .Assign [.Attribute (.Name "self" r0) fl r1] (.Name pn r2) r3])
    (e1 : PySem.W.findIn K (.ref T.C) "word" = some none) (e2 : PySem.W.findIn K (.ref T.C) fl = some none) (hn1 : (pn == ("__debug__" : Str)) = false := by decide) (hn2 : (pn == ("__classdict__" : Str)) = false := by decide)
    (he : ∀ L, eval (.Call (.Attribute (.Call (.Name "super" p0) [] [] p1) "__init__" p2) [.Constant (.str m) n1 p3] [] p4) (envF (NFI st qual T.cc T.c) T.f L) = (do
      let ov ← attributeBase (.Call (.Name "super" p0) [] [] p1) "__init__" (envF (NFI st qual T.cc T.c) T.f L) (eval (.Call (.Name "super" p0) [] [] p1) (envF (NFI st qual T.cc T.c) T.f L))
      standAt p2.atName
      let (g, first) ← holding [ov] (getMethod ov "__init__" (pl L))
      callWith p4 g first (backTo p4 (starEach [.Constant (.str m) n1 p3] (envF (NFI st qual T.cc T.c) T.f L))) []) := by intro _; rfl)
    (hint : ∀ L, interactive (envF (NFI st qual T.cc T.c) T.f L) = false := by intro _; rfl)
    (hsw : ∀ L, swapsWith (.Call (.Attribute (.Call (.Name "super" p0) [] [] p1) "__init__" p2) [.Constant (.str m) n1 p3] [] p4) none p5.line (envF (NFI st qual T.cc T.c) T.f L) = pure false := by intro _; rfl)
    (hs1 : ∀ L, swapsWith (.Constant (.str wd) n2 q2) (some (.Attribute (.Name "self" q0) "word" q1)) q3.line (envF (NFI st qual T.cc T.c) T.f L) = pure false := by intro _; rfl)
    (hs2 : ∀ L, swapsWith (.Name pn r2) (some (.Attribute (.Name "self" r0) fl r1)) r3.line (envF (NFI st qual T.cc T.c) T.f L) = pure false := by intro _; rfl) :
    FnOk P w K mg base CX0 1 T.f ((NFI st qual T.cc T.c).fd T.doc T.pm T.ctv) ["self", pn] (spIni T.C 1 fun ws => [(fl, ws.getD 0 .non), ("word", .str wd)]) := by
  refine init_fn (i := 0) (j := 2) (N := ["self", pn, "__class__"]) EB T.T S (fun vs H Q E h => ?_) (by rw [T.har]; rfl) rfl hbd (fun vs H Q E h => ?_) (fun A outer s H vs Q E hr h => ?_) he hint hsw
  · obtain ⟨a, ws, rfl, hn, _⟩ := h
    show ws.length + 1 = 2
    omega
  · obtain ⟨a, ws, rfl, hn, ha, _⟩ := h
    match ws, hn with
    | [v], _ => exact ⟨a, rfl, rfl, ha⟩
  · obtain ⟨a, ws, rfl, hn, ha, q⟩ := h
    match ws, hn, q with
    | [v], _, q =>
      refine ⟨_, pss_cons (ps_gst EB (pe_var (i := 0) rfl (Or.inl (S.par _ (by simp)))) pe_str (hs1 _)) (pss_one (ps_gst EB (pe_var (i := 0) rfl (Or.inl (S.par _ (by simp)))) (pe_var (i := 1) rfl (Or.inl (S.par _ (by simp))) hn1 hn2) (hs2 _))), ?_⟩
      refine ⟨_, rfl, a, T.C, rfl, T.T.ox, e1, .inl ⟨ha, fun d hd ne => ?_⟩⟩
      have m1 := made1 (f := "word") (y := .str wd) ha hd ne
      exact ⟨_, rfl, _, rfl, a, T.C, rfl, T.T.ox, e2, .inr ⟨d, _, m1.2.2.1, m1.2.2.2.1, by simp, q d _ (made2 m1)⟩⟩
theorem ok_ini0 {wd m : Str} {p0 p1 p2 p3 p4 p5 q0 q1 q2 q3 : Pos} {n1 n2 : Nat} {pl : Addr → Sem Bool} (EB : ErB B newId initId bmB) (T : Er P K mg B newId initId bmB pre st nm qual) (S : NScope ["self", "__class__"] ["self"] ["__class__"] (defScope st))
    (hbd : defBody st = [.Expr (.Call (.Attribute (.Call (.Name "super" p0) [] [] p1) "__init__" p2) [.Constant (.str m) n1 p3] [] p4) p5, .Assign [.Attribute (.Name "self" q0) "word" q1] (.Constant (.str wd) n2 q2) q3])
    (e1 : PySem.W.findIn K (.ref T.C) "word" = some none)
    (he : ∀ L, eval (.Call (.Attribute (.Call (.Name "super" p0) [] [] p1) "__init__" p2) [.Constant (.str m) n1 p3] [] p4) (envF (NFI st qual T.cc T.c) T.f L) = (do
      let ov ← attributeBase (.Call (.Name "super" p0) [] [] p1) "__init__" (envF (NFI st qual T.cc T.c) T.f L) (eval (.Call (.Name "super" p0) [] [] p1) (envF (NFI st qual T.cc T.c) T.f L))
      standAt p2.atName
      let (g, first) ← holding [ov] (getMethod ov "__init__" (pl L))
      callWith p4 g first (backTo p4 (starEach [.Constant (.str m) n1 p3] (envF (NFI st qual T.cc T.c) T.f L))) []) := by intro _; rfl)
    (hint : ∀ L, interactive (envF (NFI st qual T.cc T.c) T.f L) = false := by intro _; rfl)
    (hsw : ∀ L, swapsWith (.Call (.Attribute (.Call (.Name "super" p0) [] [] p1) "__init__" p2) [.Constant (.str m) n1 p3] [] p4) none p5.line (envF (NFI st qual T.cc T.c) T.f L) = pure false := by intro _; rfl)
    (hs1 : ∀ L, swapsWith (.Constant (.str wd) n2 q2) (some (.Attribute (.Name "self" q0) "word" q1)) q3.line (envF (NFI st qual T.cc T.c) T.f L) = pure false := by intro _; rfl) :
    FnOk P w K mg base CX0 1 T.f ((NFI st qual T.cc T.c).fd T.doc T.pm T.ctv) ["self"] (spIni T.C 0 fun _ => [("word", .str wd)]) := by
  refine init_fn (i := 0) (j := 1) (N := ["self", "__class__"]) EB T.T S (fun vs H Q E h => ?_) (by rw [T.har]; rfl) rfl hbd (fun vs H Q E h => ?_) (fun A outer s H vs Q E hr h => ?_) he hint hsw
  · obtain ⟨a, ws, rfl, hn, _⟩ := h
    show ws.length + 1 = 1
    omega
  · obtain ⟨a, ws, rfl, hn, ha, _⟩ := h
    match ws, hn with
    | [], _ => exact ⟨a, rfl, rfl, ha⟩
  · obtain ⟨a, ws, rfl, hn, ha, q⟩ := h
    match ws, hn, q with
    | [], _, q =>
      refine ⟨_, pss_one (ps_gst EB (pe_var (i := 0) rfl (Or.inl (S.par _ (by simp)))) pe_str (hs1 _)), ?_⟩
      refine ⟨_, rfl, a, T.C, rfl, T.T.ox, e1, .inl ⟨ha, fun d hd ne => ?_⟩⟩
      exact q d _ (made1 (f := "word") (y := .str wd) ha hd ne)
/-! ### isinstance between own errors -/
theorem Er.cl (T : Er P K mg B newId initId bmB pre st nm qual) : ∃ cd : ClassData, PySem.W.clsIn K T.C = some cd ∧ cd.name = nm ∧ cd.mro = .ref T.C :: (pre ++ bmB) := by
  obtain ⟨q, N, bs, sn, sub, ab, col, dd, k0, k1, k2, k3, k5, h⟩ := T.lk
  exact ⟨{ name := nm, bases := bs, mro := .ref T.C :: (pre ++ bmB), ns := N, qualname := q, hasDict := true, slotNames := sn, subclasses := sub, abstract := ab, collection := col, hasDel := false }, by unfold PySem.W.clsIn; rw [h] <;> rfl, rfl, rfl⟩
theorem kit_ref {C D : Addr} {l : List Value} {cd cd' : ClassData} (hC : PySem.W.clsIn K C = some cd) (hm : cd.mro = .ref C :: l) (hD : PySem.W.clsIn K D = some cd') (hT : PySem.W.typeIn K (.ref D) = some (.type "type")) :
    PySem.W.kitOne K (.ref C) (.ref D) = some ((Value.ref C :: l).contains (.ref D)) := by
  unfold PySem.W.kitOne
  split
  · rename_i h
    rw [List.contains_cons, show (Value.ref D == Value.ref C) = true by rw [eq_of_beq h]; exact beq_self_eq_true _]
    rfl
  · unfold PySem.W.kitCls
    dsimp only
    rw [hD, hT, if_pos (show ((some cd').isSome && some (Value.type "type") == some (Value.type "type")) = true from show (true && some (Value.type "type") == some (Value.type "type")) = true by decide +kernel)]
    show PySem.W.mroIn K C (.ref D) = _
    unfold PySem.W.mroIn
    rw [hC, Option.bind_some, hm]
    rfl
theorem kit_typ {C : Addr} {T : String} {l : List Value} {cd : ClassData} (hC : PySem.W.clsIn K C = some cd) (hm : cd.mro = .ref C :: l) (hT : PySem.W.kitMeta T = true) :
    PySem.W.kitOne K (.ref C) (.type T) = some ((Value.ref C :: l).contains (.type T)) := by
  unfold PySem.W.kitOne
  rw [if_neg (by intro h; cases eq_of_beq h)]
  unfold PySem.W.kitCls
  dsimp only
  rw [if_pos hT]
  show PySem.W.mroIn K C (.type T) = _
  unfold PySem.W.mroIn
  rw [hC, Option.bind_some, hm]
  rfl
theorem cls_ne {C D : Addr} {c d : ClassData} (hC : PySem.W.clsIn K C = some c) (hD : PySem.W.clsIn K D = some d) (hn : c.name ≠ d.name) : C ≠ D := by
  intro e
  subst e
  rw [hC] at hD
  cases hD
  exact hn rfl
end
section
variable {P : Program} {K : PySem.W.Frag} {h : Heap} {mg : Str → Option Value} {B newId initId : String} {bmB pre : List Value} {st : Stmt} {nm qual : Str}
theorem mro_at {C : Addr} {q : Str} {N : Addr} {bs : List Value} {sn : List Str} {sub : List Value} {ab : Bool} {col : Option Bool} {dd : Option Addr} {k0 k1 k2 k3 k5 : Option Value} (lC : K.lookup C = some (excClassObj nm q C N bs (pre ++ bmB) true sn sub ab col dd k0 k1 k2 k3 k5 newId)) (v : Value) :
    PySem.W.mroIn K C v = some ((Value.ref C :: (pre ++ bmB)).contains v) := by
  have hcl : PySem.W.clsIn K C = some { name := nm, bases := bs, mro := .ref C :: (pre ++ bmB), ns := N, qualname := q, hasDict := true, slotNames := sn, subclasses := sub, abstract := ab, collection := col, hasDel := false } := by unfold PySem.W.clsIn; rw [lC] <;> rfl
  unfold PySem.W.mroIn
  rw [hcl, Option.bind_some]
  rfl
theorem mro_ty {C : Addr} {X : String} (ht : PySem.W.excTail bmB (pre ++ bmB) = true) (hx : bmB.contains (.type X) = true) : (Value.ref C :: (pre ++ bmB)).contains (.type X) = true := by
  rw [List.contains_cons, PySem.W.excTail_contains X _ ht, hx, Bool.or_true]
theorem ov_at {C : Addr} {q : Str} {N : Addr} {bs : List Value} {sn : List Str} {sub : List Value} {ab : Bool} {col : Option Bool} {dd : Option Addr} {k0 k1 k2 k3 k5 : Option Value} (lC : K.lookup C = some (excClassObj nm q C N bs (pre ++ bmB) true sn sub ab col dd k0 k1 k2 k3 k5 newId)) (ht : PySem.W.excTail bmB (pre ++ bmB) = true) : PySem.W.excOver K C bmB = true := by
  have hcl : PySem.W.clsIn K C = some { name := nm, bases := bs, mro := .ref C :: (pre ++ bmB), ns := N, qualname := q, hasDict := true, slotNames := sn, subclasses := sub, abstract := ab, collection := col, hasDel := false } := by unfold PySem.W.clsIn; rw [lC] <;> rfl
  unfold PySem.W.excOver
  rw [hcl]
  show (C == C && PySem.W.excTail bmB (pre ++ bmB)) = true
  rw [beq_self_eq_true, ht]
  rfl
@[reducible] def er_mk (X : K.In h) (G : h.Ns mainGlobals mg) {C f c cc : Addr} {od cld cdd : Option Addr} {sl csl ccs : Array (Option Value)} {doc pm ctv clc ccl : Value} {vs : Array Value} {file : Str} {tf : Tok} {ar : Arg}
    {q : Str} {N : Addr} {bs : List Value} {sn : List Str} {sub : List Value} {ab : Bool} {col : Option Bool} {dd : Option Addr} {k0 k1 k2 k3 k5 : Option Value}
    (op : PySem.W.nsIn K cStatics "thirdparty.any" = some none) (no : PySem.W.nsIn K mainGlobals "super" = some none)
    (h1 : bmB.contains (.type "BaseException") = true) (h2 : bmB.contains (.type B) = true) (h3 : bmB.contains (.type "object") = true)
    (ht : PySem.W.excTail bmB (pre ++ bmB) = true)
    (hh : ((defArgs st).posonlyargs ++ (defArgs st).args).head? = some ar) (har : ar.arg = "self")
    (ks : (defScope st).names.lookup ("super" : Str) = some .globalImplicit) (kc : (defScope st).names.lookup ("__class__" : Str) = some .free) (ka : (defScope st).names.lookup ar.arg = some .local)
    (top : (P.main.scope.names.lookup ("super" : Str)).isSome = false)
    (aC : PySem.W.nsIn K mainGlobals nm = some (some (.ref C)))
    (lC : K.lookup C = some (excClassObj nm q C N bs (pre ++ bmB) true sn sub ab col dd k0 k1 k2 k3 k5 newId))
    (aI : PySem.W.findIn K (.ref C) "__init__" = some (some (.ref f)))
    (lI : K.lookup f = some ⟨.type "function", od, .func (PySem.W.fnX "__init__" qual (defArgs st) (defBody st) (defScope st) [(("__class__" : Str), cc)] .none .none doc pm none (.ref c) ctv), sl⟩)
    (cI : PySem.W.codeIn K (.ref c) qual = true)
    (lc : K.lookup cc = some ⟨clc, cld, .cell (some (.ref C)), csl⟩)
    (lco : K.lookup c = some ⟨ccl, cdd, .fields vs, ccs⟩)
    (sa : PySem.W.findIn K (.ref C) "__setattr__" = some (some (.builtin "object.__setattr__")))
    (ga : PySem.W.findIn K (.ref C) "__getattribute__" = some (some (.builtin "BaseException.__getattribute__")))
    (gt : PySem.W.findIn K (.ref C) "__getattr__" = some none)
    (kp : PySem.W.keepIn K (.ref C) = true)
    (cl : PySem.W.findIn K (.ref C) "__class__" = some (some (.builtin "object.__class__")))
    (su : PySem.W.ks_superIn K C C "__init__" = some (some (.builtin initId)))
    (hvs : vs[2]? = some (.str file tf)) (hfile : ((P.main.file : Str) == file) = true) : Er P K mg B newId initId bmB pre st nm qual where
  C := C
  f := f
  cc := cc
  c := c
  ar := ar
  doc := doc
  pm := pm
  ctv := ctv
  T := {
    lk := ⟨od, sl, lI⟩
    cd := cI
    cl := ⟨cc, _, rfl, lc, rfl⟩
    hd := hh
    fl := ⟨_, vs, file, tf, lco, rfl, hvs, hfile⟩
    ks := ks
    kc := kc
    ka := ka
    top := top
    no := PySem.W.mg_none_of X G no
    op := op
    ox := {
      cls := ⟨nm, q, N, bs, pre ++ bmB, sn, sub, ab, col, dd, k0, k1, k2, k3, k5, lC, ht⟩
      ov := ov_at lC ht
      sa := sa
      ga := ga
      gt := gt
      ex := (mro_at lC _).trans (congrArg some (mro_ty ht h1))
      ty := congrArg (Option.map fun o : Obj => o.cls) lC
      kp := kp
      cl := cl
      ob := (mro_at lC _).trans (congrArg some (mro_ty ht h3)) }
    su := su
    sb := (mro_at lC _).trans (congrArg some (mro_ty ht h2))
    mr := (mro_at lC _).trans (by rw [List.contains_cons, beq_self_eq_true, Bool.true_or]) }
  iC := aI
  tI := congrArg (Option.map fun o : Obj => o.cls) lI
  g := PySem.W.mg_of X G aC
  har := har
  lk := ⟨q, N, bs, sn, sub, ab, col, dd, k0, k1, k2, k3, k5, lC⟩
/-- an own error and the fields that its class lacks -/
structure ErW (P : Program) (K : PySem.W.Frag) (mg : Str → Option Value) (B newId initId : String) (bmB pre : List Value) (st : Stmt) (nm qual : Str) (fl : List Str) where
  e : Er P K mg B newId initId bmB pre st nm qual
  no : ∀ x ∈ fl, PySem.W.findIn K (.ref e.C) x = some none
def erw1 (X : K.In h) (G : h.Ns mainGlobals mg) {C f c cc : Addr} {od cld cdd : Option Addr} {sl csl ccs : Array (Option Value)} {doc pm ctv clc ccl : Value} {vs : Array Value} {file : Str} {tf : Tok} {ar : Arg}
    {q : Str} {N : Addr} {bs : List Value} {sn : List Str} {sub : List Value} {ab : Bool} {col : Option Bool} {dd : Option Addr} {k0 k1 k2 k3 k5 : Option Value}
    (op : PySem.W.nsIn K cStatics "thirdparty.any" = some none) (no : PySem.W.nsIn K mainGlobals "super" = some none)
    (h1 : bmB.contains (.type "BaseException") = true) (h2 : bmB.contains (.type B) = true) (h3 : bmB.contains (.type "object") = true)
    (ht : PySem.W.excTail bmB (pre ++ bmB) = true)
    (hh : ((defArgs st).posonlyargs ++ (defArgs st).args).head? = some ar) (har : ar.arg = "self")
    (ks : (defScope st).names.lookup ("super" : Str) = some .globalImplicit) (kc : (defScope st).names.lookup ("__class__" : Str) = some .free) (ka : (defScope st).names.lookup ar.arg = some .local)
    (top : (P.main.scope.names.lookup ("super" : Str)).isSome = false)
    (aC : PySem.W.nsIn K mainGlobals nm = some (some (.ref C)))
    (lC : K.lookup C = some (excClassObj nm q C N bs (pre ++ bmB) true sn sub ab col dd k0 k1 k2 k3 k5 newId))
    (aI : PySem.W.findIn K (.ref C) "__init__" = some (some (.ref f)))
    (lI : K.lookup f = some ⟨.type "function", od, .func (PySem.W.fnX "__init__" qual (defArgs st) (defBody st) (defScope st) [(("__class__" : Str), cc)] .none .none doc pm none (.ref c) ctv), sl⟩)
    (cI : PySem.W.codeIn K (.ref c) qual = true)
    (lc : K.lookup cc = some ⟨clc, cld, .cell (some (.ref C)), csl⟩)
    (lco : K.lookup c = some ⟨ccl, cdd, .fields vs, ccs⟩)
    (sa : PySem.W.findIn K (.ref C) "__setattr__" = some (some (.builtin "object.__setattr__")))
    (ga : PySem.W.findIn K (.ref C) "__getattribute__" = some (some (.builtin "BaseException.__getattribute__")))
    (gt : PySem.W.findIn K (.ref C) "__getattr__" = some none)
    (kp : PySem.W.keepIn K (.ref C) = true)
    (cl : PySem.W.findIn K (.ref C) "__class__" = some (some (.builtin "object.__class__")))
    (su : PySem.W.ks_superIn K C C "__init__" = some (some (.builtin initId)))
    (hvs : vs[2]? = some (.str file tf)) (hfile : ((P.main.file : Str) == file) = true) {f1 : Str} (x1 : PySem.W.findIn K (.ref C) f1 = some none) : ErW P K mg B newId initId bmB pre st nm qual [f1] :=
  ⟨er_mk (C := C) X G op no h1 h2 h3 ht hh har ks kc ka top aC lC aI lI cI lc lco sa ga gt kp cl su hvs hfile, fun x hx => by
    rcases List.mem_cons.mp hx with rfl | e
    · exact x1
    · cases e⟩
def erw2 (X : K.In h) (G : h.Ns mainGlobals mg) {C f c cc : Addr} {od cld cdd : Option Addr} {sl csl ccs : Array (Option Value)} {doc pm ctv clc ccl : Value} {vs : Array Value} {file : Str} {tf : Tok} {ar : Arg}
    {q : Str} {N : Addr} {bs : List Value} {sn : List Str} {sub : List Value} {ab : Bool} {col : Option Bool} {dd : Option Addr} {k0 k1 k2 k3 k5 : Option Value}
    (op : PySem.W.nsIn K cStatics "thirdparty.any" = some none) (no : PySem.W.nsIn K mainGlobals "super" = some none)
    (h1 : bmB.contains (.type "BaseException") = true) (h2 : bmB.contains (.type B) = true) (h3 : bmB.contains (.type "object") = true)
    (ht : PySem.W.excTail bmB (pre ++ bmB) = true)
    (hh : ((defArgs st).posonlyargs ++ (defArgs st).args).head? = some ar) (har : ar.arg = "self")
    (ks : (defScope st).names.lookup ("super" : Str) = some .globalImplicit) (kc : (defScope st).names.lookup ("__class__" : Str) = some .free) (ka : (defScope st).names.lookup ar.arg = some .local)
    (top : (P.main.scope.names.lookup ("super" : Str)).isSome = false)
    (aC : PySem.W.nsIn K mainGlobals nm = some (some (.ref C)))
    (lC : K.lookup C = some (excClassObj nm q C N bs (pre ++ bmB) true sn sub ab col dd k0 k1 k2 k3 k5 newId))
    (aI : PySem.W.findIn K (.ref C) "__init__" = some (some (.ref f)))
    (lI : K.lookup f = some ⟨.type "function", od, .func (PySem.W.fnX "__init__" qual (defArgs st) (defBody st) (defScope st) [(("__class__" : Str), cc)] .none .none doc pm none (.ref c) ctv), sl⟩)
    (cI : PySem.W.codeIn K (.ref c) qual = true)
    (lc : K.lookup cc = some ⟨clc, cld, .cell (some (.ref C)), csl⟩)
    (lco : K.lookup c = some ⟨ccl, cdd, .fields vs, ccs⟩)
    (sa : PySem.W.findIn K (.ref C) "__setattr__" = some (some (.builtin "object.__setattr__")))
    (ga : PySem.W.findIn K (.ref C) "__getattribute__" = some (some (.builtin "BaseException.__getattribute__")))
    (gt : PySem.W.findIn K (.ref C) "__getattr__" = some none)
    (kp : PySem.W.keepIn K (.ref C) = true)
    (cl : PySem.W.findIn K (.ref C) "__class__" = some (some (.builtin "object.__class__")))
    (su : PySem.W.ks_superIn K C C "__init__" = some (some (.builtin initId)))
    (hvs : vs[2]? = some (.str file tf)) (hfile : ((P.main.file : Str) == file) = true) {f1 f2 : Str} (x1 : PySem.W.findIn K (.ref C) f1 = some none) (x2 : PySem.W.findIn K (.ref C) f2 = some none) : ErW P K mg B newId initId bmB pre st nm qual [f1, f2] :=
  ⟨er_mk (C := C) X G op no h1 h2 h3 ht hh har ks kc ka top aC lC aI lI cI lc lco sa ga gt kp cl su hvs hfile, fun x hx => by
    rcases List.mem_cons.mp hx with rfl | e
    · exact x1
    · rcases List.mem_cons.mp e with rfl | e
      · exact x2
      · cases e⟩
end
/-! ### raise of an own error -/
section
variable {P : Program} {K : PySem.W.Frag} {mg : Str → Option Value} {G : Addr} {st : Stmt} {nm qual : Str}
theorem oex_of (T : Er P K mg "ValueError" "ValueError.__new__" "ValueError.__init__" [.type "ValueError", .type "Exception", .type "BaseException", .type "object"] [.ref G] st nm qual) : OexC K T.C := by
  obtain ⟨q, N, bs, sn, sub, ab, col, dd, k0, k1, k2, k3, k5, lk⟩ := T.lk
  exact ⟨⟨nm, q, N, bs, _, sn, sub, ab, col, dd, k0, k1, k2, k3, k5, lk, rfl⟩, T.T.ox.sa, T.T.ox.ex, T.T.ox.ty, T.T.ox.kp⟩
theorem xfc_of {B newId initId : String} {bmB pre : List Value} (T : Er P K mg B newId initId bmB pre st nm qual) : XfC K T.C := ⟨T.T.ox.ga, T.T.ox.gt, T.T.ox.ex, T.T.ox.has.1⟩
/-- what the making of an error asks, ahead of its raise -/
theorem mk_use {H1 : Hp} {C : Addr} {n : Nat} {fF : List V → List (Str × V)} {vs : List V} {R : Value → Option Addr → Hp → Prop} (hn : vs.length = n) (h0 : n ≤ 1000) (k : ∀ d Hf, H1 d = none → Same H1 Hf → Hf d = some (.xd (fF vs)) → R (.ref C) (some d) Hf) :
    vs.length ≤ 1000 ∧ ∀ a, H1 a = none → spIni C n fF (.ref a :: (vs ++ [])) (upd H1 a (exo a C none)) (fun v H2 => v = .non ∧ ∃ (d : Addr) (fs : List (Str × V)), H2 a = some (exo a C (some d)) ∧ H2 d = some (exd d fs) ∧ H1 d = none ∧ R (.ref C) (some d) (upd (del H2 a) d (.xd fs))) (fun _ _ _ => False) := by
  refine ⟨by omega, fun a na => ?_⟩
  rw [List.append_nil]
  refine ⟨a, vs, rfl, hn, upd_same, fun d H2 M => ?_⟩
  obtain ⟨m1, m2, m3, m4, m5⟩ := M
  have hd : H1 d = none := by
    rw [upd_ne m2] at m1
    exact m1
  refine ⟨rfl, d, _, m3, m4, hd, k d _ hd (fun b o z => ?_) upd_same⟩
  have hb : b ≠ a := ne_of_none z na
  rw [upd_ne (ne_of_none z hd), del_ne hb]
  exact m5 b o hb ((upd_ne hb).trans z)
end
/-! ### raise of an own error that takes no arguments
By the statements of call_own, FnOk.run and mk_end; the first two are met in the order in which the model makes an object, as in every rule of this kind. -/
section
variable {X : Cx} {pins : List (Addr × Obj)} {σ : L2.St} {H : Hp} {s : Shared} {C : Addr}
/-- an error just made, with nothing in it -/
def bare (C : Addr) (h : Heap) : Heap := (h.push (PySem.W.kdv_tup [])).push (PySem.HandSPX.excO C h.objs.size)
theorem bare_keeps {h : Heap} : ∀ b o, h.get? b = some o → (bare C h).get? b = some o := by
  intro b o z
  unfold bare
  apply Heap.get?_push_of_some
  apply Heap.get?_push_of_some
  exact z
theorem bare_at {h : Heap} : (bare C h).get? (h.objs.size + 1) = some (PySem.HandSPX.excO C h.objs.size) := by
  have z := Heap.get?_push_size (h.push (PySem.W.kdv_tup [])) (o := PySem.HandSPX.excO C h.objs.size) rfl
  rwa [Heap.size_push] at z
theorem bare_inv (I : Inv X pins σ H s) : Inv X pins σ (upd H (s.heap.objs.size + 1) (exo (s.heap.objs.size + 1) C none)) { s with heap := bare C s.heap } := by
  have ok : ObjOk X.prog X.w (upd H (s.heap.objs.size + 1) (exo (s.heap.objs.size + 1) C none)) (bare C s.heap) (s.heap.objs.size + 1) (exo (s.heap.objs.size + 1) C none) := exo_ok bare_at
  exact I.laid (t' := s.toks) bare_keeps (Nat.le_succ _) ok
/-- what is told of the raise: a table of fields at a new place, the rest as before -/
def ToldE (C : Addr) (fs : List (Str × V)) : L2.St → Hp → XK → Prop := fun _ H Q => ∀ d G, H d = none → Same H G → G d = some (.xd fs) → Q (.ref C) (some d) G
theorem told_end {fs : List (Str × V)} {Q : XK} {a d : Addr} {G : Hp} (na : H a = none) (q : ToldE C fs σ H Q) (m : Made (upd H a (exo a C none)) G a C d fs) : H d = none ∧ Q (.ref C) (some d) (upd (del G a) d (.xd fs)) := by
  have free : H d = none := (upd_ne m.2.1).symm.trans m.1
  refine ⟨free, q d _ free ?_ upd_same⟩
  intro b o z
  have nb := ne_of_none z na
  calc (upd (del G a) d (.xd fs)) b = del G a b := upd_ne (ne_of_none z free)
    _ = G b := del_ne nb
    _ = some o := m.2.2.2.2 b o nb ((upd_ne nb).trans z)
theorem pmkE0 {B newId initId : String} {bmB : List Value} {CX : CXT} {x : Str} {fI : Addr} {k : Nat} {fd : FuncData} {ps : List Str} {fF : List V → List (Str × V)} {p pos : Pos} (E : ErB B newId initId bmB) (T : ErC X.K C newId bmB)
    (iC : PySem.W.findIn X.K (.ref C) "__init__" = some (some (.ref fI))) (tI : PySem.W.typeIn X.K (.ref fI) = some (.type "function")) (ini : FnOk X.prog X.w X.K X.mg X.base CX k fI fd ps (spIni C 0 fF)) (room : Room (k + 1) X.A)
    (binds : Binds X.K fd ps []) (none : Vals [] []) (never : Passes CX X (fun _ _ _ => False)) (gl : Gl X x) (named : X.mg x = some (.ref C)) (plain : (x == ("__debug__" : Str)) = false := by decide) : PMk X (.Call (.Name x p) [] [] pos) (ToldE C (fF [])) := by
  intro pins s σ H Q I q
  apply wpAny_Call_Name_kw
  refine ld_glob I gl named ?_ plain
  refine PySem.W.callWith_K0 I.kIn T.kp (wpAny_call ?_)
  have J := bare_inv (C := C) I
  have na : H (s.heap.objs.size + 1) = .none := I.hok.fresh (Nat.le_succ _)
  -- the initializer, at the bare error
  have asked : spIni C 0 fF [.ref (s.heap.objs.size + 1)] (upd H (s.heap.objs.size + 1) (exo (s.heap.objs.size + 1) C .none)) (fun v G => v = .non ∧ ∃ d, Made (upd H (s.heap.objs.size + 1) (exo (s.heap.objs.size + 1) C .none)) G (s.heap.objs.size + 1) C d (fF [])) (fun _ _ _ => False) := ⟨_, [], rfl, rfl, upd_same, fun d G m => ⟨rfl, d, m⟩⟩
  have one : Vals [V.ref (s.heap.objs.size + 1)] [Value.ref (s.heap.objs.size + 1)] := .cons rfl .nil
  have count : ([Value.ref (s.heap.objs.size + 1)] ++ []).length = ps.length := (ini.len _ _ _ _ asked)
  have ran := ini.run _ X.stack _ _ ⟨[.ref (s.heap.objs.size + 1)], []⟩ _ _ _ _ (room.make C [] []) (J.env0.make C [] []) (binds _ [.ref (s.heap.objs.size + 1)] J.kIn count) one asked
  obtain ⟨_, _, _, _, bm, _, _, _, _, _, _, _, _, _, _, hC, hbm⟩ := T.cls
  refine PySem.HandSPX.call_own (rest := []) E.fb (fun Y => PySem.W.excTail_contains Y bm hbm) (I.kIn _ _ hC) (PySem.W.looks_findIn I.kIn iC) (fun self => PySem.W.bind_fn I.kIn self tI) (Nat.zero_le _) (codeAny_mono ran ?_)
  intro r s' back
  cases r with
  | error er => exact never pins σ _ _ er s' J back
  | ok f =>
    cases f with
    | ret u =>
      obtain ⟨v, G, os', bare', un, hok, rv, rfl, d, m⟩ := back
      obtain ⟨free, q'⟩ := told_end na q m
      exact ⟨rv, mk_end (raises_own T.ex T.ty) I (Nat.le_succ _) bare_keeps un hok os' bare' m.2.2.1 m.2.2.2.1 free q'⟩
    | _ => exact back.elim
end
theorem sq_nn (x : Int) : 0 ≤ x * x := by
  rcases Int.le_total 0 x with h | h
  · exact Int.mul_nonneg h h
  · exact Int.mul_nonneg_of_nonpos_of_nonpos h h
theorem sq_le {x y : Int} (h0 : 0 ≤ x) (h : x ≤ y) : x * x ≤ y * y := Int.mul_le_mul h h h0 (Int.le_trans h0 h)
theorem sq_lt {x y : Int} (h0 : 0 ≤ x) (h : x < y) : x * x < y * y := by
  have h1 : (x + 1) * (x + 1) ≤ y * y := sq_le (by omega) (by omega)
  grind
theorem lt_of_sq {x y : Int} (h0 : 0 ≤ y) (h : x * x < y * y) : x < y := by
  rcases Int.lt_or_le x y with z | z
  · exact z
  · have := sq_le h0 z
    omega
theorem le_of_sq {x y : Int} (h0 : 0 ≤ y) (h : x * x ≤ y * y) : x ≤ y := by
  rcases Int.lt_or_le y x with z | z
  · have := sq_lt h0 z
    omega
  · exact z
/-- Newton's step from above -/
theorem newton_up {g n : Int} (hg : 0 < g) (hn : 0 ≤ n) : n < ((g + n / g) / 2 + 1) * ((g + n / g) / 2 + 1) := by
  have hq : 0 ≤ n / g := Int.ediv_nonneg hn (by omega)
  have h1 : n < g * (n / g + 1) := by
    have := Int.lt_ediv_add_one_mul_self n hg
    grind
  generalize n / g = q at hq h1 ⊢
  have h2 : g + q + 1 ≤ 2 * ((g + q) / 2 + 1) := by omega
  generalize (g + q) / 2 = r at h2 ⊢
  have h3 := sq_nn (g - (q + 1))
  have h4 := sq_le (show 0 ≤ g + q + 1 by omega) h2
  grind
theorem newton_dn {g n : Int} (hg : 0 < g) (h : n < g * g) : (g + n / g) / 2 < g := by
  have h1 : n / g < g := Int.ediv_lt_of_lt_mul hg h
  omega
theorem newton_nn {g n : Int} (hg : 0 < g) (hn : 0 ≤ n) : 0 ≤ (g + n / g) / 2 := by
  have hq : 0 ≤ n / g := Int.ediv_nonneg hn (by omega)
  omega
/-- no root times a square is a square -/
theorem no_square {d k : Int} (hk : 0 ≤ k) (h1 : k * k < d) (h2 : d < (k + 1) * (k + 1)) : ∀ (n : Nat) (b w : Int), 0 < b → 0 ≤ w → b.toNat ≤ n → w * w ≠ d * b * b
  | 0, b, w, hb, _, hn => by omega
  | n + 1, b, w, hb, hw, hn => fun e => by
    have hbb : 0 < b * b := Int.mul_pos hb hb
    have l1 : (k * b) * (k * b) < w * w := by
      have := Int.mul_lt_mul_of_pos_right h1 hbb
      grind
    have l2 : w * w < ((k + 1) * b) * ((k + 1) * b) := by
      have := Int.mul_lt_mul_of_pos_right h2 hbb
      grind
    have m1 : k * b < w := lt_of_sq hw l1
    have m2 : w < (k + 1) * b := lt_of_sq (Int.mul_nonneg (by omega) (by omega)) l2
    have m3 : w - k * b < b := by grind
    refine no_square hk h1 h2 n (w - k * b) (d * b - k * w) (by omega) ?_ (by omega) (by grind)
    have : (k * w) * b ≤ (d * b) * b := by
      have z := Int.mul_le_mul_of_nonneg_right (Int.le_of_lt m1) hw
      grind
    have z : k * w ≤ d * b := Int.le_of_mul_le_mul_right this hb
    omega
/-! ### defs with defaults, methods by keywords -/
inductive Dflt (K : PySem.W.Frag) (r : Addr) : Prop
  | mk {y1 y2 : Addr} {d e f : Option Addr} {m n o : Nat} {s t u : Array (Option Value)} {v w x y : Tok} (a : K.lookup r = some ⟨.type "tuple", d, .seq #[.ref y1, .ref y2] m, s⟩)
      (b : K.lookup y1 = some ⟨.type "tuple", e, .seq #[.int 0 v, .int 0 w] n, t⟩) (c : K.lookup y2 = some ⟨.type "tuple", f, .seq #[.int 0 x, .int 0 y] o, u⟩) : Dflt K r
section
variable {K : PySem.W.Frag} {f T D : Addr} {oc tc u : Value} {od td : Option Addr} {fd : FuncData} {sl ts : Array (Option Value)} {tn : Nat} {its : Array Value} {ps : List Str} {x : Str}
theorem bd_given (l : K.lookup f = some ⟨oc, od, .func fd, sl⟩) (t : K.lookup T = some ⟨tc, td, .seq its tn, ts⟩) (h : ∀ us : List Value, us.length = ps.length → ∃ k, bindArgs fd ⟨us, []⟩ = seqItems? (.ref T) >>= k ∧ k (some its) = pure (ps.zip us)) : Binds K fd ps [] := fun s us X hl => by
  rw [List.append_nil] at hl ⊢
  obtain ⟨k, e1, e2⟩ := h us hl
  refine BindsTo.of_looks fun M => ?_
  rw [e1]
  exact looks_items X t rfl (.of_pure e2)
theorem bd_dflt {v : Value} (l : K.lookup f = some ⟨oc, od, .func fd, sl⟩) (t : K.lookup T = some ⟨tc, td, .seq #[v] tn, ts⟩) (h : ∀ us : List Value, us.length + 1 = ps.length → ∃ k, bindArgs fd ⟨us, []⟩ = seqItems? (.ref T) >>= k ∧ k (some #[v]) = pure (ps.zip (us ++ [v]))) : Binds K fd ps [v] := fun s us X hl => by
  rw [List.length_append] at hl
  obtain ⟨k, e1, e2⟩ := h us hl
  refine BindsTo.of_looks fun M => ?_
  rw [e1]
  exact looks_items X t rfl (.of_pure e2)
theorem bd_kw (l : K.lookup f = some ⟨oc, od, .func fd, sl⟩) (kd : PySem.W.nsIn K D x = some (some u)) (h : ∀ us : List Value, us.length + 1 = ps.length → KwChain D [(x, u)] (bindArgs fd ⟨us, []⟩) (ps.zip (us ++ [u]))) : Binds K fd ps [u] := fun s us X hl => by
  rw [List.length_append] at hl
  refine BindsTo.of_looks fun M => ?_
  refine KwChain.looks X ?_ (h us hl)
  intro q hq
  rcases List.mem_cons.mp hq with e | e
  · rw [e]
    exact kd
  · cases e
end
section
variable {X : Cx} {CX : CXT} {k : Nat} {f C : Addr} {fd : FuncData} {ps ks : List Str} {sp : Sp} {E : XK} {m : Str} {pos apos : Pos} {o : Expr} {kws : List Keyword} {ta : TE} {tk : TA}
theorem pe_methK0 {pl : Sem Bool} {g : List Value → List Value → List Value} {gV : List V → List V → List V} (he : PE X o ta) (c : Cls X.K C) (hm : Meth X.K C m f) (F : FnOk X.prog X.w X.K X.mg X.base CX k f fd ps sp) (hr : Room k X.A) (hb : KBn X.K fd ps 1 ks g gV) (hx : Passes CX X E) (hkw : PK X kws tk)
    (hall : (backToKw pos (keywordEach kws X.env)).all (·.1.isSome) = true := by rfl)
    (hks : (backToKw pos (keywordEach kws X.env)).filterMap (·.1) = ks := by rfl)
    (hpl : ((backTo pos (starEach [] X.env)).any (·.1) || (backToKw pos (keywordEach kws X.env)).any (·.1.isNone)) = false := by rfl)
    (ht : eval (.Call (.Attribute o m apos) [] kws pos) X.env = (do
      let ov ← eval o X.env
      standAt apos.atName
      let (f, first) ← holding [ov] (getMethod ov m pl)
      callWith pos f first (backTo pos (starEach [] X.env)) (backToKw pos (keywordEach kws X.env))) := by rfl) :
    PE X (.Call (.Attribute o m apos) [] kws pos) (fun σ H Q => ta σ H fun x H1 => ∃ a dx fs, x = .ref a ∧ H1 a = some (.ins C dx fs) ∧ fs.lookup m = none ∧ tk σ H1 fun zs H2 => zs.length = ks.length ∧ sp (gV [.ref a] zs) H2 Q E) := by
  refine ⟨fun pins s σ H Q I h => ?_⟩
  refine PySem.W.methodCall_KW (pl := pl) (thn (he.run pins s σ H _ I h) fun u s1 ⟨x, H1, I1, rx, a, dx, fs, ex, ea, l, q⟩ => ?_) ht
  subst ex
  obtain rfl : u = Value.ref a := rx
  refine getmeth_ok I1 ea c hm l ?_
  refine PySem.W.callWith_KW0 (first := [.ref a]) (h₀ := X.base) I.ok.mod.kin hm.kp hall ?_ hpl
  refine thn (hkw.run pos pins s1 σ H1 _ I1 q) fun ws s2 ⟨zs, H2, I2, rz, l2, q2⟩ => ⟨I2.kIn, ?_⟩
  rw [hks]
  exact run_fnN (us := [.ref a]) (vs := [.ref a]) F hr hb hx I2 (.cons rfl .nil) rz rfl l2 q2
end
/-! ### a dict of the module's top, from texts to numbers -/
def NsI (K : PySem.W.Frag) (d : Addr) (kvs : List (Str × Int)) : Prop := ∀ z, (∃ i t, kvs.lookup z = some i ∧ PySem.W.nsIn K d z = some (some (.int i t))) ∨ (kvs.lookup z = none ∧ PySem.W.nsIn K d z = some none)
def LitI : List DictEntry → List (Str × Int) → Prop
  | [], [] => True
  | e :: es, kv :: kvs => (∃ t, e.key = .str kv.1 t) ∧ (∃ t, e.val = .int kv.2 t) ∧ e.refKey = false ∧ LitI es kvs
  | _, _ => False
theorem litI_find (z : Str) : ∀ {es : List DictEntry} {kvs : List (Str × Int)}, LitI es kvs → es.any (·.refKey) = false ∧ ((∃ e i t, es.find? (·.key.isStr z) = some e ∧ e.val = .int i t ∧ kvs.lookup z = some i) ∨ (es.find? (·.key.isStr z) = none ∧ kvs.lookup z = none))
  | [], [], _ => ⟨rfl, .inr ⟨rfl, rfl⟩⟩
  | e :: es, kv :: kvs, h => by
    obtain ⟨⟨t, hk⟩, ⟨t', hv⟩, hr, hl⟩ := h
    obtain ⟨h1, h2⟩ := litI_find z hl
    refine ⟨by rw [List.any_cons, hr, h1]; rfl, ?_⟩
    by_cases c : z = kv.1
    · have b : e.key.isStr z = true := by rw [hk, c]; exact beq_self_eq_true _
      have b2 : (z == kv.1) = true := by rw [c]; exact beq_self_eq_true _
      exact .inl ⟨e, kv.2, t', List.find?_cons_of_pos b, hv, by rw [List.lookup_cons, b2]⟩
    · have b : ¬ e.key.isStr z = true := by
        rw [hk]
        exact fun w => c (eq_of_beq w).symm
      have b2 : (z == kv.1) = false := beq_eq_false_iff_ne.mpr c
      rw [List.find?_cons_of_neg (p := fun x : DictEntry => x.key.isStr z) b, List.lookup_cons, b2]
      exact h2
  | [], _ :: _, h => h.elim
  | _ :: _, [], h => h.elim
theorem nsI_of {K : PySem.W.Frag} {d : Addr} {es : Array DictEntry} {n : Nat} {kvs : List (Str × Int)} (h : K.lookup d = some ⟨.type "dict", none, .dict es n, #[]⟩) (l : LitI es.toList kvs) : NsI K d kvs := by
  intro z
  obtain ⟨h1, h2⟩ := litI_find z l
  unfold PySem.W.nsIn
  rw [h]
  dsimp only
  rcases h2 with ⟨e, i, t, f, v, k⟩ | ⟨f, k⟩
  · rw [f]
    exact .inl ⟨i, t, k, congrArg (fun u => some (some u)) v⟩
  · rw [f, h1]
    exact .inr ⟨k, rfl⟩
/-- d.get(text, default), d such a dict -/
theorem pe_kdgetI {X : Cx} {d : Addr} {es : Array DictEntry} {n : Nat} {kvs : List (Str × Int)} {o e f : Expr} {apos cpos : Pos} {td ty tx : TE} (D : KDict X.K X.w d es n) (N : NsI X.K d kvs) (ho : PE X o td) (he : PE X e ty) (hf : PE X f tx) (m : M2 X o "get" apos e f cpos) :
    PE X (.Call (.Attribute o "get" apos) [e, f] [] cpos) (fun σ H Q => td σ H fun v H1 => v = .ref d ∧ ty σ H1 fun y H2 => tx σ H2 fun x H3 => ∃ z i, y = .str z ∧ x = .int i ∧ Q (.int ((kvs.lookup z).getD i)) H3) := by
  constructor
  intro pins s σ H Q I h
  refine wpAny_Call_method m.base m.few m.line PySem.F.plainAttrs_dict PySem.F.slot_dict_get PySem.F.type_dict_get ?_
  refine thn (ho.run pins s σ H _ I h) ?_
  rintro u s1 ⟨v, H1, I1, rv, rfl, q1⟩
  cases rv
  have M1 := PySem.W.mapOf_K (prog := X.prog) (w := X.w) I1.kIn D.at_ D.lit
  refine ⟨M1.typeIs, fun a ea => ?_, ?_⟩
  · cases ea
    exact ⟨_, I1.kIn _ _ D.at_, rfl⟩
  rw [m.trees]
  refine Calls.callWith_builtin rfl (Calls.evalArgs_plain (Calls.spliced_cons (thn (he.run pins s1 σ H1 _ I1 q1) ?_)))
  rintro iv s2 ⟨y, H2, I2, ry, q2⟩
  refine Calls.spliced_cons (thn (hf.run pins s2 σ H2 _ I2 q2) ?_)
  rintro fv s3 ⟨x, H3, I3, rx, z, i, rfl, rfl, q3⟩
  obtain ⟨t, rfl⟩ := ry
  obtain ⟨t', rfl⟩ := rx
  have M3 := PySem.W.mapOf_K (prog := X.prog) (w := X.w) I3.kIn D.at_ D.lit
  refine Calls.spliced_nil (call_meetsIn PySem.F.slot_dict_get M3.typeIs PySem.F.entry_dict_get (PySem.F.args_dict_get_3 _ _ _) (meets_dict_get_default (PySem.strKind X.prog X.w) d (PySem.strKind_is X.prog X.w z t) D.low (.int i t')) ⟨_, M3, ?_⟩)
  refine ⟨.int ((kvs.lookup z).getD i), H3, I3.tok _, ?_, q3⟩
  rcases N z with ⟨j, u, k, e⟩ | ⟨k, e⟩
  · rw [k, PySem.W.find_K D.at_ e]
    exact ⟨u, rfl⟩
  · rw [k, PySem.W.find_K D.at_ e]
    exact ⟨t', rfl⟩
structure Szs (K : PySem.W.Frag) (w : World) (d : Addr) : Prop where
  ex : ∃ es n, KDict K w d es n
def topS (i : Nat) : Stmt := PySem.Challenge.pw_grainyard_k64_texts_of_sheets_and_steps.main.body.getD i (.Pass ⟨0, 0, 0, 0⟩)
abbrev s_decimal_text : Stmt := topS 14
theorem sc_decimal_text : FnScope ["number", "rest", "groups", "group"] ["number"] (defScope s_decimal_text) := ⟨rfl, rfl, rfl, by decide +kernel, rfl, by decide +kernel, by decide +kernel⟩
abbrev s_whole_root : Stmt := topS 16
theorem sc_whole_root : FnScope ["number", "guess"] ["number"] (defScope s_whole_root) := ⟨rfl, rfl, rfl, by decide +kernel, rfl, by decide +kernel, by decide +kernel⟩
abbrev s_is_root : Stmt := topS 17
theorem sc_is_root : FnScope ["number", "whole"] ["number"] (defScope s_is_root) := ⟨rfl, rfl, rfl, by decide +kernel, rfl, by decide +kernel, by decide +kernel⟩
abbrev s_check_root : Stmt := topS 18
theorem sc_check_root : FnScope ["root"] ["root"] (defScope s_check_root) := ⟨rfl, rfl, rfl, by decide +kernel, rfl, by decide +kernel, by decide +kernel⟩
abbrev s_sign : Stmt := topS 19
theorem sc_sign : FnScope ["pair", "root", "worth", "a", "b"] ["pair", "root"] (defScope s_sign) := ⟨rfl, rfl, rfl, by decide +kernel, rfl, by decide +kernel, by decide +kernel⟩
abbrev s_is_length : Stmt := topS 20
theorem sc_is_length : FnScope ["pair", "root"] ["pair", "root"] (defScope s_is_length) := ⟨rfl, rfl, rfl, by decide +kernel, rfl, by decide +kernel, by decide +kernel⟩
abbrev s_is_sheet : Stmt := topS 22
theorem sc_is_sheet : FnScope ["sheet", "root", "across", "along"] ["sheet", "root"] (defScope s_is_sheet) := ⟨rfl, rfl, rfl, by decide +kernel, rfl, by decide +kernel, by decide +kernel⟩
abbrev s_turned : Stmt := topS 23
theorem sc_turned : FnScope ["sheet", "across", "along"] ["sheet"] (defScope s_turned) := ⟨rfl, rfl, rfl, by decide +kernel, rfl, by decide +kernel, by decide +kernel⟩
abbrev s_check_rows : Stmt := topS 24
theorem sc_check_rows : FnScope ["rows", "root", "at", "sheet", "count"] ["rows", "root"] (defScope s_check_rows) := ⟨rfl, rfl, rfl, by decide +kernel, rfl, by decide +kernel, by decide +kernel⟩
abbrev s_merged : Stmt := topS 25
theorem sc_merged : FnScope ["rows", "counts", "sheet", "count"] ["rows"] (defScope s_merged) := ⟨rfl, rfl, rfl, by decide +kernel, rfl, by decide +kernel, by decide +kernel⟩
abbrev s_check_same_root : Stmt := topS 26
theorem sc_check_same_root : FnScope ["one", "other"] ["one", "other"] (defScope s_check_same_root) := ⟨rfl, rfl, rfl, by decide +kernel, rfl, by decide +kernel, by decide +kernel⟩
abbrev s_is_pair : Stmt := topS 30
theorem sc_is_pair : FnScope ["item"] ["item"] (defScope s_is_pair) := ⟨rfl, rfl, rfl, by decide +kernel, rfl, by decide +kernel, by decide +kernel⟩
abbrev s_is_two_pairs : Stmt := topS 31
theorem sc_is_two_pairs : FnScope ["item"] ["item"] (defScope s_is_two_pairs) := ⟨rfl, rfl, rfl, by decide +kernel, rfl, by decide +kernel, by decide +kernel⟩
abbrev s_fits : Stmt := topS 32
theorem sc_fits : FnScope ["item", "kind", "least"] ["item", "kind"] (defScope s_fits) := ⟨rfl, rfl, rfl, by decide +kernel, rfl, by decide +kernel, by decide +kernel⟩
abbrev s_has_shape : Stmt := topS 33
theorem sc_has_shape : FnScope ["step", "shape", "item", "kind"] ["step"] (defScope s_has_shape) := ⟨rfl, rfl, rfl, by decide +kernel, rfl, by decide +kernel, by decide +kernel⟩
abbrev s_side_of : Stmt := topS 34
theorem sc_side_of : FnScope ["sheet", "side", "across", "along"] ["sheet", "side"] (defScope s_side_of) := ⟨rfl, rfl, rfl, by decide +kernel, rfl, by decide +kernel, by decide +kernel⟩
abbrev s_is_even_split : Stmt := topS 35
theorem sc_is_even_split : FnScope ["step", "word", "sheet", "side", "pieces", "copies", "a", "b"] ["step"] (defScope s_is_even_split) := ⟨rfl, rfl, rfl, by decide +kernel, rfl, by decide +kernel, by decide +kernel⟩
abbrev s_is_even_glue : Stmt := topS 36
theorem sc_is_even_glue : FnScope ["step", "word", "sheet", "second", "side", "copies"] ["step"] (defScope s_is_even_glue) := ⟨rfl, rfl, rfl, by decide +kernel, rfl, by decide +kernel, by decide +kernel⟩
abbrev s_is_step : Stmt := topS 37
theorem sc_is_step : FnScope ["step"] ["step"] (defScope s_is_step) := ⟨rfl, rfl, rfl, by decide +kernel, rfl, by decide +kernel, by decide +kernel⟩
abbrev s_check_steps : Stmt := topS 38
theorem sc_check_steps : FnScope ["steps", "at", "step"] ["steps"] (defScope s_check_steps) := ⟨rfl, rfl, rfl, by decide +kernel, rfl, by decide +kernel, by decide +kernel⟩
abbrev s_pair_text : Stmt := topS 42
theorem sc_pair_text : FnScope ["pair", "sign", "a", "b"] ["pair"] (defScope s_pair_text) := ⟨rfl, rfl, rfl, by decide +kernel, rfl, by decide +kernel, by decide +kernel⟩
abbrev s_sheet_text : Stmt := topS 43
theorem sc_sheet_text : FnScope ["sheet", "across", "along"] ["sheet"] (defScope s_sheet_text) := ⟨rfl, rfl, rfl, by decide +kernel, rfl, by decide +kernel, by decide +kernel⟩
abbrev s_sawing_text : Stmt := topS 44
theorem sc_sawing_text : FnScope ["step", "word", "sheet", "side", "part", "copies"] ["step"] (defScope s_sawing_text) := ⟨rfl, rfl, rfl, by decide +kernel, rfl, by decide +kernel, by decide +kernel⟩
abbrev s_gluing_text : Stmt := topS 45
theorem sc_gluing_text : FnScope ["step", "word", "sheet", "second", "side", "copies", "pieces"] ["step"] (defScope s_gluing_text) := ⟨rfl, rfl, rfl, by decide +kernel, rfl, by decide +kernel, by decide +kernel⟩
abbrev s_step_text : Stmt := topS 46
theorem sc_step_text : FnScope ["step", "head"] ["step"] (defScope s_step_text) := ⟨rfl, rfl, rfl, by decide +kernel, rfl, by decide +kernel, by decide +kernel⟩
abbrev s_read_number : Stmt := topS 47
theorem sc_read_number : FnScope ["text", "digits", "number", "digit"] ["text"] (defScope s_read_number) := ⟨rfl, rfl, rfl, by decide +kernel, rfl, by decide +kernel, by decide +kernel⟩
abbrev s_read_numbers : Stmt := topS 48
theorem sc_read_numbers : FnScope ["texts", "numbers", "text"] ["texts"] (defScope s_read_numbers) := ⟨rfl, rfl, rfl, by decide +kernel, rfl, by decide +kernel, by decide +kernel⟩
abbrev s_read_pair : Stmt := topS 49
theorem sc_read_pair : FnScope ["text", "body", "at", "pair"] ["text"] (defScope s_read_pair) := ⟨rfl, rfl, rfl, by decide +kernel, rfl, by decide +kernel, by decide +kernel⟩
abbrev s_read_sheet : Stmt := topS 50
theorem sc_read_sheet : FnScope ["text", "pairs", "part"] ["text"] (defScope s_read_sheet) := ⟨rfl, rfl, rfl, by decide +kernel, rfl, by decide +kernel, by decide +kernel⟩
abbrev s_items_of_step : Stmt := topS 51
theorem sc_items_of_step : FnScope ["words", "copies", "sheet"] ["words"] (defScope s_items_of_step) := ⟨rfl, rfl, rfl, by decide +kernel, rfl, by decide +kernel, by decide +kernel⟩
abbrev s_read_step : Stmt := topS 52
theorem sc_read_step : FnScope ["text", "step"] ["text"] (defScope s_read_step) := ⟨rfl, rfl, rfl, by decide +kernel, rfl, by decide +kernel, by decide +kernel⟩
abbrev s_found_in_text : Stmt := topS 53
theorem sc_found_in_text : FnScope ["item"] ["item"] (defScope s_found_in_text) := ⟨rfl, rfl, rfl, by decide +kernel, rfl, by decide +kernel, by decide +kernel⟩
abbrev s_parse_sheet : Stmt := topS 54
theorem sc_parse_sheet : FnScope ["text"] ["text"] (defScope s_parse_sheet) := ⟨rfl, rfl, rfl, by decide +kernel, rfl, by decide +kernel, by decide +kernel⟩
abbrev s_parse_step : Stmt := topS 55
theorem sc_parse_step : FnScope ["text"] ["text"] (defScope s_parse_step) := ⟨rfl, rfl, rfl, by decide +kernel, rfl, by decide +kernel, by decide +kernel⟩
abbrev s_source : Stmt := topS 57
theorem sc_source : FnScope ["_law_script", "_law_mix", "_law_cell"] ["_law_script"] (defScope s_source) := ⟨rfl, rfl, rfl, by decide +kernel, rfl, by decide +kernel, by decide +kernel⟩
abbrev s_pull : Stmt := topS 58
theorem sc_pull : FnScope ["_law_bag", "_law_size", "_law_mix", "_law_cell", "_law_found"] ["_law_bag", "_law_size"] (defScope s_pull) := ⟨rfl, rfl, rfl, by decide +kernel, rfl, by decide +kernel, by decide +kernel⟩
abbrev s_of : Stmt := topS 59
theorem sc_of : FnScope ["_law_bag", "_law_some"] ["_law_bag", "_law_some"] (defScope s_of) := ⟨rfl, rfl, rfl, by decide +kernel, rfl, by decide +kernel, by decide +kernel⟩
abbrev s_roots : Stmt := topS 60
theorem sc_roots : FnScope ["_law_d"] [] (defScope s_roots) := ⟨rfl, rfl, rfl, by decide +kernel, rfl, by decide +kernel, by decide +kernel⟩
abbrev s_a_root : Stmt := topS 61
theorem sc_a_root : FnScope ["_law_bag"] ["_law_bag"] (defScope s_a_root) := ⟨rfl, rfl, rfl, by decide +kernel, rfl, by decide +kernel, by decide +kernel⟩
abbrev s_any_pair : Stmt := topS 62
theorem sc_any_pair : FnScope ["_law_bag", "_law_size"] ["_law_bag"] (defScope s_any_pair) := ⟨rfl, rfl, rfl, by decide +kernel, rfl, by decide +kernel, by decide +kernel⟩
abbrev s_a_number : Stmt := topS 63
theorem sc_a_number : FnScope ["_law_bag", "_law_size"] ["_law_bag"] (defScope s_a_number) := ⟨rfl, rfl, rfl, by decide +kernel, rfl, by decide +kernel, by decide +kernel⟩
abbrev s_lsign : Stmt := topS 64
theorem sc_lsign : FnScope ["_law_pair", "_law_root", "_law_value"] ["_law_pair", "_law_root"] (defScope s_lsign) := ⟨rfl, rfl, rfl, by decide +kernel, rfl, by decide +kernel, by decide +kernel⟩
abbrev s_a_length : Stmt := topS 65
theorem sc_a_length : FnScope ["_law_bag", "_law_root", "_law_pair"] ["_law_bag", "_law_root"] (defScope s_a_length) := ⟨rfl, rfl, rfl, by decide +kernel, rfl, by decide +kernel, by decide +kernel⟩
abbrev s_a_sheet : Stmt := topS 66
theorem sc_a_sheet : FnScope ["_law_bag", "_law_root", "_law_one"] ["_law_bag", "_law_root"] (defScope s_a_sheet) := ⟨rfl, rfl, rfl, by decide +kernel, rfl, by decide +kernel, by decide +kernel⟩
abbrev s_lscaled : Stmt := topS 67
theorem sc_lscaled : FnScope ["_law_pair", "_law_number"] ["_law_pair", "_law_number"] (defScope s_lscaled) := ⟨rfl, rfl, rfl, by decide +kernel, rfl, by decide +kernel, by decide +kernel⟩
abbrev s_lside_of : Stmt := topS 68
theorem sc_lside_of : FnScope ["_law_sheet", "_law_side"] ["_law_sheet", "_law_side"] (defScope s_lside_of) := ⟨rfl, rfl, rfl, by decide +kernel, rfl, by decide +kernel, by decide +kernel⟩
abbrev s_with : Stmt := topS 69
theorem sc_with : FnScope ["_law_sheet", "_law_side", "_law_pair"] ["_law_sheet", "_law_side", "_law_pair"] (defScope s_with) := ⟨rfl, rfl, rfl, by decide +kernel, rfl, by decide +kernel, by decide +kernel⟩
abbrev s_any_step : Stmt := topS 70
theorem sc_any_step : FnScope ["_law_bag", "_law_root", "_law_sheet", "_law_side", "_law_copies", "_law_way", "_law_second", "_law_pieces", "_law_whole"] ["_law_bag", "_law_root"] (defScope s_any_step) := ⟨rfl, rfl, rfl, by decide +kernel, rfl, by decide +kernel, by decide +kernel⟩
abbrev s_like : Stmt := topS 71
theorem sc_like : FnScope ["_law_found", "_law_due", "_law_k"] ["_law_found", "_law_due"] (defScope s_like) := ⟨rfl, rfl, rfl, by decide +kernel, rfl, by decide +kernel, by decide +kernel⟩
abbrev s_lpair_text : Stmt := topS 72
theorem sc_lpair_text : FnScope ["_law_pair", "_law_a", "_law_b"] ["_law_pair"] (defScope s_lpair_text) := ⟨rfl, rfl, rfl, by decide +kernel, rfl, by decide +kernel, by decide +kernel⟩
abbrev s_lsheet_text : Stmt := topS 73
theorem sc_lsheet_text : FnScope ["_law_sheet"] ["_law_sheet"] (defScope s_lsheet_text) := ⟨rfl, rfl, rfl, by decide +kernel, rfl, by decide +kernel, by decide +kernel⟩
abbrev s_bent_text : Stmt := topS 74
theorem sc_bent_text : FnScope ["_law_bag", "_law_text_z", "_law_signs", "_law_at", "_law_sign_z"] ["_law_bag", "_law_text_z", "_law_signs"] (defScope s_bent_text) := ⟨rfl, rfl, rfl, by decide +kernel, rfl, by decide +kernel, by decide +kernel⟩
abbrev s_number_read : Stmt := topS 75
theorem sc_number_read : FnScope ["_law_word", "_law_digits", "_law_sign_z"] ["_law_word"] (defScope s_number_read) := ⟨rfl, rfl, rfl, by decide +kernel, rfl, by decide +kernel, by decide +kernel⟩
abbrev s_pair_read : Stmt := topS 76
theorem sc_pair_read : FnScope ["_law_text_z", "_law_signs", "_law_at", "_law_first", "_law_second", "_law_number", "_law_one", "_law_other", "_law_k"] ["_law_text_z"] (defScope s_pair_read) := ⟨rfl, rfl, rfl, by decide +kernel, rfl, by decide +kernel, by decide +kernel⟩
abbrev s_sheet_read : Stmt := topS 77
theorem sc_sheet_read : FnScope ["_law_text_z", "_law_pairs", "_law_part"] ["_law_text_z"] (defScope s_sheet_read) := ⟨rfl, rfl, rfl, by decide +kernel, rfl, by decide +kernel, by decide +kernel⟩
abbrev s_field_of : Stmt := topS 78
theorem sc_field_of : FnScope ["_law_e"] ["_law_e"] (defScope s_field_of) := ⟨rfl, rfl, rfl, by decide +kernel, rfl, by decide +kernel, by decide +kernel⟩
abbrev s_try : Stmt := topS 79
theorem sc_try : FnScope ["_law_ask", "_law_e"] ["_law_ask"] (defScope s_try) := ⟨rfl, rfl, rfl, by decide +kernel, rfl, by decide +kernel, by decide +kernel⟩
abbrev s_lis_pair : Stmt := topS 80
theorem sc_lis_pair : FnScope ["_law_x"] ["_law_x"] (defScope s_lis_pair) := ⟨rfl, rfl, rfl, by decide +kernel, rfl, by decide +kernel, by decide +kernel⟩
abbrev s_is_pairs : Stmt := topS 81
theorem sc_is_pairs : FnScope ["_law_x"] ["_law_x"] (defScope s_is_pairs) := ⟨rfl, rfl, rfl, by decide +kernel, rfl, by decide +kernel, by decide +kernel⟩
abbrev s_at_least : Stmt := topS 82
theorem sc_at_least : FnScope ["_law_x", "_law_least"] ["_law_x", "_law_least"] (defScope s_at_least) := ⟨rfl, rfl, rfl, by decide +kernel, rfl, by decide +kernel, by decide +kernel⟩
abbrev s_good_step : Stmt := topS 83
theorem sc_good_step : FnScope ["_law_step_z", "_law_sizes", "_law_word", "_law_side", "_law_length", "_law_other"] ["_law_step_z"] (defScope s_good_step) := ⟨rfl, rfl, rfl, by decide +kernel, rfl, by decide +kernel, by decide +kernel⟩
abbrev s_lstep_text : Stmt := topS 84
theorem sc_lstep_text : FnScope ["_law_step_z", "_law_word", "_law_sheet", "_law_times"] ["_law_step_z"] (defScope s_lstep_text) := ⟨rfl, rfl, rfl, by decide +kernel, rfl, by decide +kernel, by decide +kernel⟩
abbrev s_step_made : Stmt := topS 85
theorem sc_step_made : FnScope ["_law_word", "_law_found", "_law_step_z"] ["_law_word", "_law_found"] (defScope s_step_made) := ⟨rfl, rfl, rfl, by decide +kernel, rfl, by decide +kernel, by decide +kernel⟩
abbrev s_step_read : Stmt := topS 86
theorem sc_step_read : FnScope ["_law_text_z", "_law_words", "_law_shapes", "_law_k", "_law_shape", "_law_found"] ["_law_text_z"] (defScope s_step_read) := ⟨rfl, rfl, rfl, by decide +kernel, rfl, by decide +kernel, by decide +kernel⟩
abbrev s_law : Stmt := topS 87
theorem sc_law : FnScope ["_law_script", "_law_bag", "_law_signs", "_law_turn", "_law_long", "_law_root", "_law_text_z", "_law_due", "_law_words", "_law_bent", "_law_some", "_law_line", "_law_sheet", "_law_step_z", "_law_at", "_law_to", "_law_many"] ["_law_script"] (defScope s_law) := ⟨rfl, rfl, rfl, by decide +kernel, rfl, by decide +kernel, by decide +kernel⟩
abbrev i_BadRoot : Stmt := inClass (topS 4) 0
theorem sc_iBadRoot : NScope ["self", "number", "__class__"] ["self", "number"] ["__class__"] (defScope i_BadRoot) := nscope_by (by decide +kernel)
abbrev i_BadCount : Stmt := inClass (topS 5) 0
theorem sc_iBadCount : NScope ["self", "number", "__class__"] ["self", "number"] ["__class__"] (defScope i_BadCount) := nscope_by (by decide +kernel)
abbrev i_BadRow : Stmt := inClass (topS 6) 0
theorem sc_iBadRow : NScope ["self", "at", "__class__"] ["self", "at"] ["__class__"] (defScope i_BadRow) := nscope_by (by decide +kernel)
abbrev i_OtherRoot : Stmt := inClass (topS 7) 0
theorem sc_iOtherRoot : NScope ["self", "__class__"] ["self"] ["__class__"] (defScope i_OtherRoot) := nscope_by (by decide +kernel)
abbrev i_BadStep : Stmt := inClass (topS 8) 0
theorem sc_iBadStep : NScope ["self", "at", "__class__"] ["self", "at"] ["__class__"] (defScope i_BadStep) := nscope_by (by decide +kernel)
abbrev i_BadText : Stmt := inClass (topS 9) 0
theorem sc_iBadText : NScope ["self", "at", "__class__"] ["self", "at"] ["__class__"] (defScope i_BadText) := nscope_by (by decide +kernel)
abbrev i_NoSheet : Stmt := inClass (topS 10) 0
theorem sc_iNoSheet : NScope ["self", "sheet", "__class__"] ["self", "sheet"] ["__class__"] (defScope i_NoSheet) := nscope_by (by decide +kernel)
abbrev i_NothingLeft : Stmt := inClass (topS 11) 0
theorem sc_iNothingLeft : NScope ["self", "__class__"] ["self"] ["__class__"] (defScope i_NothingLeft) := nscope_by (by decide +kernel)
structure Txt (K : PySem.W.Frag) (mg : Str → Option Value) where
  f_decimal_text : Addr
  d_decimal_text : FuncData
  F_decimal_text : Fun K "decimal_text" "decimal_text" s_decimal_text f_decimal_text d_decimal_text
  g_decimal_text : mg "decimal_text" = some (.ref f_decimal_text)
  b_decimal_text : Binds K d_decimal_text ["number"] []
  f_whole_root : Addr
  d_whole_root : FuncData
  F_whole_root : Fun K "whole_root" "whole_root" s_whole_root f_whole_root d_whole_root
  g_whole_root : mg "whole_root" = some (.ref f_whole_root)
  b_whole_root : Binds K d_whole_root ["number"] []
  f_is_root : Addr
  d_is_root : FuncData
  F_is_root : Fun K "is_root" "is_root" s_is_root f_is_root d_is_root
  g_is_root : mg "is_root" = some (.ref f_is_root)
  b_is_root : Binds K d_is_root ["number"] []
  f_check_root : Addr
  d_check_root : FuncData
  F_check_root : Fun K "check_root" "check_root" s_check_root f_check_root d_check_root
  g_check_root : mg "check_root" = some (.ref f_check_root)
  b_check_root : Binds K d_check_root ["root"] []
  f_sign : Addr
  d_sign : FuncData
  F_sign : Fun K "sign" "sign" s_sign f_sign d_sign
  g_sign : mg "sign" = some (.ref f_sign)
  b_sign : Binds K d_sign ["pair", "root"] []
  f_is_length : Addr
  d_is_length : FuncData
  F_is_length : Fun K "is_length" "is_length" s_is_length f_is_length d_is_length
  g_is_length : mg "is_length" = some (.ref f_is_length)
  b_is_length : Binds K d_is_length ["pair", "root"] []
  f_is_sheet : Addr
  d_is_sheet : FuncData
  F_is_sheet : Fun K "is_sheet" "is_sheet" s_is_sheet f_is_sheet d_is_sheet
  g_is_sheet : mg "is_sheet" = some (.ref f_is_sheet)
  b_is_sheet : Binds K d_is_sheet ["sheet", "root"] []
  f_turned : Addr
  d_turned : FuncData
  F_turned : Fun K "turned" "turned" s_turned f_turned d_turned
  g_turned : mg "turned" = some (.ref f_turned)
  b_turned : Binds K d_turned ["sheet"] []
  f_check_rows : Addr
  d_check_rows : FuncData
  F_check_rows : Fun K "check_rows" "check_rows" s_check_rows f_check_rows d_check_rows
  g_check_rows : mg "check_rows" = some (.ref f_check_rows)
  b_check_rows : Binds K d_check_rows ["rows", "root"] []
  f_merged : Addr
  d_merged : FuncData
  F_merged : Fun K "merged" "merged" s_merged f_merged d_merged
  g_merged : mg "merged" = some (.ref f_merged)
  b_merged : Binds K d_merged ["rows"] []
  f_check_same_root : Addr
  d_check_same_root : FuncData
  F_check_same_root : Fun K "check_same_root" "check_same_root" s_check_same_root f_check_same_root d_check_same_root
  g_check_same_root : mg "check_same_root" = some (.ref f_check_same_root)
  b_check_same_root : Binds K d_check_same_root ["one", "other"] []
  f_is_pair : Addr
  d_is_pair : FuncData
  F_is_pair : Fun K "is_pair" "is_pair" s_is_pair f_is_pair d_is_pair
  g_is_pair : mg "is_pair" = some (.ref f_is_pair)
  b_is_pair : Binds K d_is_pair ["item"] []
  f_is_two_pairs : Addr
  d_is_two_pairs : FuncData
  F_is_two_pairs : Fun K "is_two_pairs" "is_two_pairs" s_is_two_pairs f_is_two_pairs d_is_two_pairs
  g_is_two_pairs : mg "is_two_pairs" = some (.ref f_is_two_pairs)
  b_is_two_pairs : Binds K d_is_two_pairs ["item"] []
  f_fits : Addr
  d_fits : FuncData
  F_fits : Fun K "fits" "fits" s_fits f_fits d_fits
  g_fits : mg "fits" = some (.ref f_fits)
  b_fits : Binds K d_fits ["item", "kind"] []
  f_has_shape : Addr
  d_has_shape : FuncData
  F_has_shape : Fun K "has_shape" "has_shape" s_has_shape f_has_shape d_has_shape
  g_has_shape : mg "has_shape" = some (.ref f_has_shape)
  b_has_shape : Binds K d_has_shape ["step"] []
  f_side_of : Addr
  d_side_of : FuncData
  F_side_of : Fun K "side_of" "side_of" s_side_of f_side_of d_side_of
  g_side_of : mg "side_of" = some (.ref f_side_of)
  b_side_of : Binds K d_side_of ["sheet", "side"] []
  f_is_even_split : Addr
  d_is_even_split : FuncData
  F_is_even_split : Fun K "is_even_split" "is_even_split" s_is_even_split f_is_even_split d_is_even_split
  g_is_even_split : mg "is_even_split" = some (.ref f_is_even_split)
  b_is_even_split : Binds K d_is_even_split ["step"] []
  f_is_even_glue : Addr
  d_is_even_glue : FuncData
  F_is_even_glue : Fun K "is_even_glue" "is_even_glue" s_is_even_glue f_is_even_glue d_is_even_glue
  g_is_even_glue : mg "is_even_glue" = some (.ref f_is_even_glue)
  b_is_even_glue : Binds K d_is_even_glue ["step"] []
  f_is_step : Addr
  d_is_step : FuncData
  F_is_step : Fun K "is_step" "is_step" s_is_step f_is_step d_is_step
  g_is_step : mg "is_step" = some (.ref f_is_step)
  b_is_step : Binds K d_is_step ["step"] []
  f_check_steps : Addr
  d_check_steps : FuncData
  F_check_steps : Fun K "check_steps" "check_steps" s_check_steps f_check_steps d_check_steps
  g_check_steps : mg "check_steps" = some (.ref f_check_steps)
  b_check_steps : Binds K d_check_steps ["steps"] []
  f_pair_text : Addr
  d_pair_text : FuncData
  F_pair_text : Fun K "pair_text" "pair_text" s_pair_text f_pair_text d_pair_text
  g_pair_text : mg "pair_text" = some (.ref f_pair_text)
  b_pair_text : Binds K d_pair_text ["pair"] []
  f_sheet_text : Addr
  d_sheet_text : FuncData
  F_sheet_text : Fun K "sheet_text" "sheet_text" s_sheet_text f_sheet_text d_sheet_text
  g_sheet_text : mg "sheet_text" = some (.ref f_sheet_text)
  b_sheet_text : Binds K d_sheet_text ["sheet"] []
  f_sawing_text : Addr
  d_sawing_text : FuncData
  F_sawing_text : Fun K "sawing_text" "sawing_text" s_sawing_text f_sawing_text d_sawing_text
  g_sawing_text : mg "sawing_text" = some (.ref f_sawing_text)
  b_sawing_text : Binds K d_sawing_text ["step"] []
  f_gluing_text : Addr
  d_gluing_text : FuncData
  F_gluing_text : Fun K "gluing_text" "gluing_text" s_gluing_text f_gluing_text d_gluing_text
  g_gluing_text : mg "gluing_text" = some (.ref f_gluing_text)
  b_gluing_text : Binds K d_gluing_text ["step"] []
  f_step_text : Addr
  d_step_text : FuncData
  F_step_text : Fun K "step_text" "step_text" s_step_text f_step_text d_step_text
  g_step_text : mg "step_text" = some (.ref f_step_text)
  b_step_text : Binds K d_step_text ["step"] []
  f_read_number : Addr
  d_read_number : FuncData
  F_read_number : Fun K "read_number" "read_number" s_read_number f_read_number d_read_number
  g_read_number : mg "read_number" = some (.ref f_read_number)
  b_read_number : Binds K d_read_number ["text"] []
  f_read_numbers : Addr
  d_read_numbers : FuncData
  F_read_numbers : Fun K "read_numbers" "read_numbers" s_read_numbers f_read_numbers d_read_numbers
  g_read_numbers : mg "read_numbers" = some (.ref f_read_numbers)
  b_read_numbers : Binds K d_read_numbers ["texts"] []
  f_read_pair : Addr
  d_read_pair : FuncData
  F_read_pair : Fun K "read_pair" "read_pair" s_read_pair f_read_pair d_read_pair
  g_read_pair : mg "read_pair" = some (.ref f_read_pair)
  b_read_pair : Binds K d_read_pair ["text"] []
  f_read_sheet : Addr
  d_read_sheet : FuncData
  F_read_sheet : Fun K "read_sheet" "read_sheet" s_read_sheet f_read_sheet d_read_sheet
  g_read_sheet : mg "read_sheet" = some (.ref f_read_sheet)
  b_read_sheet : Binds K d_read_sheet ["text"] []
  f_items_of_step : Addr
  d_items_of_step : FuncData
  F_items_of_step : Fun K "items_of_step" "items_of_step" s_items_of_step f_items_of_step d_items_of_step
  g_items_of_step : mg "items_of_step" = some (.ref f_items_of_step)
  b_items_of_step : Binds K d_items_of_step ["words"] []
  f_read_step : Addr
  d_read_step : FuncData
  F_read_step : Fun K "read_step" "read_step" s_read_step f_read_step d_read_step
  g_read_step : mg "read_step" = some (.ref f_read_step)
  b_read_step : Binds K d_read_step ["text"] []
  f_found_in_text : Addr
  d_found_in_text : FuncData
  F_found_in_text : Fun K "found_in_text" "found_in_text" s_found_in_text f_found_in_text d_found_in_text
  g_found_in_text : mg "found_in_text" = some (.ref f_found_in_text)
  b_found_in_text : Binds K d_found_in_text ["item"] []
  f_parse_sheet : Addr
  d_parse_sheet : FuncData
  F_parse_sheet : Fun K "parse_sheet" "parse_sheet" s_parse_sheet f_parse_sheet d_parse_sheet
  g_parse_sheet : mg "parse_sheet" = some (.ref f_parse_sheet)
  b_parse_sheet : Binds K d_parse_sheet ["text"] []
  f_parse_step : Addr
  d_parse_step : FuncData
  F_parse_step : Fun K "parse_step" "parse_step" s_parse_step f_parse_step d_parse_step
  g_parse_step : mg "parse_step" = some (.ref f_parse_step)
  b_parse_step : Binds K d_parse_step ["text"] []
  f_source : Addr
  d_source : FuncData
  F_source : Fun K "_law_source" "_law_source" s_source f_source d_source
  g_source : mg "_law_source" = some (.ref f_source)
  b_source : Binds K d_source ["_law_script"] []
  f_pull : Addr
  d_pull : FuncData
  F_pull : Fun K "_law_pull" "_law_pull" s_pull f_pull d_pull
  g_pull : mg "_law_pull" = some (.ref f_pull)
  b_pull : Binds K d_pull ["_law_bag", "_law_size"] []
  f_of : Addr
  d_of : FuncData
  F_of : Fun K "_law_of" "_law_of" s_of f_of d_of
  g_of : mg "_law_of" = some (.ref f_of)
  b_of : Binds K d_of ["_law_bag", "_law_some"] []
  f_roots : Addr
  d_roots : FuncData
  F_roots : Fun K "_law_roots" "_law_roots" s_roots f_roots d_roots
  g_roots : mg "_law_roots" = some (.ref f_roots)
  b_roots : Binds K d_roots [] []
  f_a_root : Addr
  d_a_root : FuncData
  F_a_root : Fun K "_law_a_root" "_law_a_root" s_a_root f_a_root d_a_root
  g_a_root : mg "_law_a_root" = some (.ref f_a_root)
  b_a_root : Binds K d_a_root ["_law_bag"] []
  f_any_pair : Addr
  d_any_pair : FuncData
  F_any_pair : Fun K "_law_any_pair" "_law_any_pair" s_any_pair f_any_pair d_any_pair
  g_any_pair : mg "_law_any_pair" = some (.ref f_any_pair)
  b_any_pair : Binds K d_any_pair ["_law_bag"] []
  f_a_number : Addr
  d_a_number : FuncData
  F_a_number : Fun K "_law_a_number" "_law_a_number" s_a_number f_a_number d_a_number
  g_a_number : mg "_law_a_number" = some (.ref f_a_number)
  b_a_number : Binds K d_a_number ["_law_bag"] []
  f_lsign : Addr
  d_lsign : FuncData
  F_lsign : Fun K "_law_sign" "_law_sign" s_lsign f_lsign d_lsign
  g_lsign : mg "_law_sign" = some (.ref f_lsign)
  b_lsign : Binds K d_lsign ["_law_pair", "_law_root"] []
  f_a_length : Addr
  d_a_length : FuncData
  F_a_length : Fun K "_law_a_length" "_law_a_length" s_a_length f_a_length d_a_length
  g_a_length : mg "_law_a_length" = some (.ref f_a_length)
  b_a_length : Binds K d_a_length ["_law_bag", "_law_root"] []
  f_a_sheet : Addr
  d_a_sheet : FuncData
  F_a_sheet : Fun K "_law_a_sheet" "_law_a_sheet" s_a_sheet f_a_sheet d_a_sheet
  g_a_sheet : mg "_law_a_sheet" = some (.ref f_a_sheet)
  b_a_sheet : Binds K d_a_sheet ["_law_bag", "_law_root"] []
  f_lscaled : Addr
  d_lscaled : FuncData
  F_lscaled : Fun K "_law_scaled" "_law_scaled" s_lscaled f_lscaled d_lscaled
  g_lscaled : mg "_law_scaled" = some (.ref f_lscaled)
  b_lscaled : Binds K d_lscaled ["_law_pair", "_law_number"] []
  f_lside_of : Addr
  d_lside_of : FuncData
  F_lside_of : Fun K "_law_side_of" "_law_side_of" s_lside_of f_lside_of d_lside_of
  g_lside_of : mg "_law_side_of" = some (.ref f_lside_of)
  b_lside_of : Binds K d_lside_of ["_law_sheet", "_law_side"] []
  f_with : Addr
  d_with : FuncData
  F_with : Fun K "_law_with" "_law_with" s_with f_with d_with
  g_with : mg "_law_with" = some (.ref f_with)
  b_with : Binds K d_with ["_law_sheet", "_law_side", "_law_pair"] []
  f_any_step : Addr
  d_any_step : FuncData
  F_any_step : Fun K "_law_any_step" "_law_any_step" s_any_step f_any_step d_any_step
  g_any_step : mg "_law_any_step" = some (.ref f_any_step)
  b_any_step : Binds K d_any_step ["_law_bag", "_law_root"] []
  f_like : Addr
  d_like : FuncData
  F_like : Fun K "_law_like" "_law_like" s_like f_like d_like
  g_like : mg "_law_like" = some (.ref f_like)
  b_like : Binds K d_like ["_law_found", "_law_due"] []
  f_lpair_text : Addr
  d_lpair_text : FuncData
  F_lpair_text : Fun K "_law_pair_text" "_law_pair_text" s_lpair_text f_lpair_text d_lpair_text
  g_lpair_text : mg "_law_pair_text" = some (.ref f_lpair_text)
  b_lpair_text : Binds K d_lpair_text ["_law_pair"] []
  f_lsheet_text : Addr
  d_lsheet_text : FuncData
  F_lsheet_text : Fun K "_law_sheet_text" "_law_sheet_text" s_lsheet_text f_lsheet_text d_lsheet_text
  g_lsheet_text : mg "_law_sheet_text" = some (.ref f_lsheet_text)
  b_lsheet_text : Binds K d_lsheet_text ["_law_sheet"] []
  f_bent_text : Addr
  d_bent_text : FuncData
  F_bent_text : Fun K "_law_bent_text" "_law_bent_text" s_bent_text f_bent_text d_bent_text
  g_bent_text : mg "_law_bent_text" = some (.ref f_bent_text)
  b_bent_text : Binds K d_bent_text ["_law_bag", "_law_text_z", "_law_signs"] []
  f_number_read : Addr
  d_number_read : FuncData
  F_number_read : Fun K "_law_number_read" "_law_number_read" s_number_read f_number_read d_number_read
  g_number_read : mg "_law_number_read" = some (.ref f_number_read)
  b_number_read : Binds K d_number_read ["_law_word"] []
  f_pair_read : Addr
  d_pair_read : FuncData
  F_pair_read : Fun K "_law_pair_read" "_law_pair_read" s_pair_read f_pair_read d_pair_read
  g_pair_read : mg "_law_pair_read" = some (.ref f_pair_read)
  b_pair_read : Binds K d_pair_read ["_law_text_z"] []
  f_sheet_read : Addr
  d_sheet_read : FuncData
  F_sheet_read : Fun K "_law_sheet_read" "_law_sheet_read" s_sheet_read f_sheet_read d_sheet_read
  g_sheet_read : mg "_law_sheet_read" = some (.ref f_sheet_read)
  b_sheet_read : Binds K d_sheet_read ["_law_text_z"] []
  f_field_of : Addr
  d_field_of : FuncData
  F_field_of : Fun K "_law_field_of" "_law_field_of" s_field_of f_field_of d_field_of
  g_field_of : mg "_law_field_of" = some (.ref f_field_of)
  b_field_of : Binds K d_field_of ["_law_e"] []
  f_try : Addr
  d_try : FuncData
  F_try : Fun K "_law_try" "_law_try" s_try f_try d_try
  g_try : mg "_law_try" = some (.ref f_try)
  b_try : Binds K d_try ["_law_ask"] []
  f_lis_pair : Addr
  d_lis_pair : FuncData
  F_lis_pair : Fun K "_law_is_pair" "_law_is_pair" s_lis_pair f_lis_pair d_lis_pair
  g_lis_pair : mg "_law_is_pair" = some (.ref f_lis_pair)
  b_lis_pair : Binds K d_lis_pair ["_law_x"] []
  f_is_pairs : Addr
  d_is_pairs : FuncData
  F_is_pairs : Fun K "_law_is_pairs" "_law_is_pairs" s_is_pairs f_is_pairs d_is_pairs
  g_is_pairs : mg "_law_is_pairs" = some (.ref f_is_pairs)
  b_is_pairs : Binds K d_is_pairs ["_law_x"] []
  f_at_least : Addr
  d_at_least : FuncData
  F_at_least : Fun K "_law_at_least" "_law_at_least" s_at_least f_at_least d_at_least
  g_at_least : mg "_law_at_least" = some (.ref f_at_least)
  b_at_least : Binds K d_at_least ["_law_x", "_law_least"] []
  f_good_step : Addr
  d_good_step : FuncData
  F_good_step : Fun K "_law_good_step" "_law_good_step" s_good_step f_good_step d_good_step
  g_good_step : mg "_law_good_step" = some (.ref f_good_step)
  b_good_step : Binds K d_good_step ["_law_step_z"] []
  f_lstep_text : Addr
  d_lstep_text : FuncData
  F_lstep_text : Fun K "_law_step_text" "_law_step_text" s_lstep_text f_lstep_text d_lstep_text
  g_lstep_text : mg "_law_step_text" = some (.ref f_lstep_text)
  b_lstep_text : Binds K d_lstep_text ["_law_step_z"] []
  f_step_made : Addr
  d_step_made : FuncData
  F_step_made : Fun K "_law_step_made" "_law_step_made" s_step_made f_step_made d_step_made
  g_step_made : mg "_law_step_made" = some (.ref f_step_made)
  b_step_made : Binds K d_step_made ["_law_word", "_law_found"] []
  f_step_read : Addr
  d_step_read : FuncData
  F_step_read : Fun K "_law_step_read" "_law_step_read" s_step_read f_step_read d_step_read
  g_step_read : mg "_law_step_read" = some (.ref f_step_read)
  b_step_read : Binds K d_step_read ["_law_text_z"] []
  n_ValueError : mg "ValueError" = none
  n_LookupError : mg "LookupError" = none
  n_IndexError : mg "IndexError" = none
  n_enumerate : mg "enumerate" = none
  n_int : mg "int" = none
  n_tuple : mg "tuple" = none
  n_max : mg "max" = none
  n_isinstance : mg "isinstance" = none
  n_range : mg "range" = none
  n_str : mg "str" = none
  n_sum : mg "sum" = none
  n_list : mg "list" = none
  n_bool : mg "bool" = none
  n_len : mg "len" = none
  n_all : mg "all" = none
  n_abs : mg "abs" = none
  n_sorted : mg "sorted" = none
  n_zip : mg "zip" = none
  u_GROUP : Value
  g_GROUP : mg "GROUP" = some u_GROUP
  rv_GROUP : RelV (.int (10 ^ 64)) u_GROUP
  u_MOST_DIGITS : Value
  g_MOST_DIGITS : mg "MOST_DIGITS" = some u_MOST_DIGITS
  rv_MOST_DIGITS : RelV (.int (20)) u_MOST_DIGITS
  u_SHAPES : Addr
  g_SHAPES : mg "SHAPES" = some (.ref u_SHAPES)
  p_SHAPES_saw : Addr
  h_SHAPES_saw : PySem.W.nsIn K u_SHAPES "saw" = some (some (.ref p_SHAPES_saw))
  q_SHAPES_saw : ∀ H, SqT K H p_SHAPES_saw [.str "sheet", .str "side", .str "pair", .str "copies"]
  p_SHAPES_split : Addr
  h_SHAPES_split : PySem.W.nsIn K u_SHAPES "split" = some (some (.ref p_SHAPES_split))
  q_SHAPES_split : ∀ H, SqT K H p_SHAPES_split [.str "sheet", .str "side", .str "pieces", .str "copies"]
  p_SHAPES_glue : Addr
  h_SHAPES_glue : PySem.W.nsIn K u_SHAPES "glue" = some (some (.ref p_SHAPES_glue))
  q_SHAPES_glue : ∀ H, SqT K H p_SHAPES_glue [.str "sheet", .str "sheet", .str "side", .str "copies"]
  p_SHAPES_stack : Addr
  h_SHAPES_stack : PySem.W.nsIn K u_SHAPES "stack" = some (some (.ref p_SHAPES_stack))
  q_SHAPES_stack : ∀ H, SqT K H p_SHAPES_stack [.str "sheet", .str "side", .str "pieces", .str "copies"]
  p_SHAPES_turn : Addr
  h_SHAPES_turn : PySem.W.nsIn K u_SHAPES "turn" = some (some (.ref p_SHAPES_turn))
  q_SHAPES_turn : ∀ H, SqT K H p_SHAPES_turn [.str "sheet", .str "copies"]
  m0_SHAPES : PySem.W.nsIn K u_SHAPES "Saw" = some none
  u_STEP_SIZES : Addr
  g_STEP_SIZES : mg "STEP_SIZES" = some (.ref u_STEP_SIZES)
  z_STEP_SIZES : NsI K u_STEP_SIZES [("saw", 9), ("split", 9), ("glue", 11), ("stack", 9), ("turn", 6)]
  C_Heap : Addr
  g_Heap : mg "Heap" = some (.ref C_Heap)
  cr_Heap : ClX.CRead K C_Heap (.type "type")
  s_SIDES : Addr
  cv_SIDES : ClX.CVal K C_Heap (.type "type") "SIDES" (.ref s_SIDES) (.ref s_SIDES)
  sq_SIDES : ∀ H, SqT K H s_SIDES [.str "across", .str "along"]
  kb_step_text_step : KBn K d_step_text ["step"] 0 ["step"] (fun us ws : List Value => [ws.getD 0 .none]) (fun us ws : List V => [ws.getD 0 .non])
  kb_parse_sheet_text : KBn K d_parse_sheet ["text"] 0 ["text"] (fun us ws : List Value => [ws.getD 0 .none]) (fun us ws : List V => [ws.getD 0 .non])
  r_GrainError : Addr
  g_GrainError : mg "GrainError" = some (.ref r_GrainError)
  c_GrainError : ∃ cd : ClassData, PySem.W.clsIn K r_GrainError = some cd ∧ cd.name = "GrainError"
  t_GrainError : PySem.W.typeIn K (.ref r_GrainError) = some (.type "type")
  sb_GrainError : PySem.W.subIn K (.ref r_GrainError) (.type "BaseException") = some true
  r_GrainMissing : Addr
  g_GrainMissing : mg "GrainMissing" = some (.ref r_GrainMissing)
  c_GrainMissing : ∃ cd : ClassData, PySem.W.clsIn K r_GrainMissing = some cd ∧ cd.name = "GrainMissing"
  t_GrainMissing : PySem.W.typeIn K (.ref r_GrainMissing) = some (.type "type")
  sb_GrainMissing : PySem.W.subIn K (.ref r_GrainMissing) (.type "BaseException") = some true
  e_BadRoot : Er PySem.Challenge.pw_grainyard_k64_texts_of_sheets_and_steps K mg "ValueError" "ValueError.__new__" "ValueError.__init__" [.type "ValueError", .type "Exception", .type "BaseException", .type "object"] [.ref r_GrainError] i_BadRoot "BadRoot" "BadRoot.__init__"
  x_BadRoot_word : PySem.W.findIn K (.ref e_BadRoot.C) "word" = some none
  x_BadRoot_number : PySem.W.findIn K (.ref e_BadRoot.C) "number" = some none
  e_BadCount : Er PySem.Challenge.pw_grainyard_k64_texts_of_sheets_and_steps K mg "ValueError" "ValueError.__new__" "ValueError.__init__" [.type "ValueError", .type "Exception", .type "BaseException", .type "object"] [.ref r_GrainError] i_BadCount "BadCount" "BadCount.__init__"
  x_BadCount_word : PySem.W.findIn K (.ref e_BadCount.C) "word" = some none
  x_BadCount_number : PySem.W.findIn K (.ref e_BadCount.C) "number" = some none
  e_BadRow : Er PySem.Challenge.pw_grainyard_k64_texts_of_sheets_and_steps K mg "ValueError" "ValueError.__new__" "ValueError.__init__" [.type "ValueError", .type "Exception", .type "BaseException", .type "object"] [.ref r_GrainError] i_BadRow "BadRow" "BadRow.__init__"
  x_BadRow_word : PySem.W.findIn K (.ref e_BadRow.C) "word" = some none
  x_BadRow_at : PySem.W.findIn K (.ref e_BadRow.C) "at" = some none
  e_OtherRoot : Er PySem.Challenge.pw_grainyard_k64_texts_of_sheets_and_steps K mg "ValueError" "ValueError.__new__" "ValueError.__init__" [.type "ValueError", .type "Exception", .type "BaseException", .type "object"] [.ref r_GrainError] i_OtherRoot "OtherRoot" "OtherRoot.__init__"
  x_OtherRoot_word : PySem.W.findIn K (.ref e_OtherRoot.C) "word" = some none
  e_BadStep : Er PySem.Challenge.pw_grainyard_k64_texts_of_sheets_and_steps K mg "ValueError" "ValueError.__new__" "ValueError.__init__" [.type "ValueError", .type "Exception", .type "BaseException", .type "object"] [.ref r_GrainError] i_BadStep "BadStep" "BadStep.__init__"
  x_BadStep_word : PySem.W.findIn K (.ref e_BadStep.C) "word" = some none
  x_BadStep_at : PySem.W.findIn K (.ref e_BadStep.C) "at" = some none
  e_BadText : Er PySem.Challenge.pw_grainyard_k64_texts_of_sheets_and_steps K mg "ValueError" "ValueError.__new__" "ValueError.__init__" [.type "ValueError", .type "Exception", .type "BaseException", .type "object"] [.ref r_GrainError] i_BadText "BadText" "BadText.__init__"
  x_BadText_word : PySem.W.findIn K (.ref e_BadText.C) "word" = some none
  x_BadText_at : PySem.W.findIn K (.ref e_BadText.C) "at" = some none
  e_NoSheet : Er PySem.Challenge.pw_grainyard_k64_texts_of_sheets_and_steps K mg "LookupError" "LookupError.__new__" "LookupError.__init__" [.type "LookupError", .type "Exception", .type "BaseException", .type "object"] [.ref r_GrainMissing] i_NoSheet "NoSheet" "NoSheet.__init__"
  x_NoSheet_word : PySem.W.findIn K (.ref e_NoSheet.C) "word" = some none
  x_NoSheet_sheet : PySem.W.findIn K (.ref e_NoSheet.C) "sheet" = some none
  e_NothingLeft : Er PySem.Challenge.pw_grainyard_k64_texts_of_sheets_and_steps K mg "IndexError" "IndexError.__new__" "IndexError.__init__" [.type "IndexError", .type "LookupError", .type "Exception", .type "BaseException", .type "object"] [] i_NothingLeft "NothingLeft" "NothingLeft.__init__"
  x_NothingLeft_word : PySem.W.findIn K (.ref e_NothingLeft.C) "word" = some none
  hn : PySem.W.specialIn K (.builtin "object.__class__") "__get__" = some (some (.builtin "getset_descriptor.__get__"))
  ht : PySem.W.takesIn K (.builtin "object.__class__") = some true
theorem vals_getD : ∀ {zs : List V} {ws : List Value} (_ : Vals zs ws) (i : Nat), RelV (zs.getD i .non) (ws.getD i .none)
  | _, _, .nil, _ => rfl
  | _, _, .cons r _, 0 => r
  | _, _, .cons _ t, i + 1 => vals_getD t i
theorem kbn_step_text_step {K : PySem.W.Frag} {f : Addr} {fd : FuncData} (F : Fun K "step_text" "step_text" s_step_text f fd) : KBn K fd ["step"] 0 ["step"] (fun us ws : List Value => [ws.getD 0 .none]) (fun us ws : List V => [ws.getD 0 .non]) := by
  obtain ⟨o1, o2, v1, v2, v3, a1, v4, v5, s1, rfl, r1, r2⟩ := F.ex
  refine ⟨fun s us ws _ l1 l2 => ?_, fun r1 r2 => .cons (vals_getD r2 0) (.nil)⟩
  match us, ws, l1, l2 with
  | [], [_], _, _ => exact .of_eq rfl
theorem kbn_parse_sheet_text {K : PySem.W.Frag} {f : Addr} {fd : FuncData} (F : Fun K "parse_sheet" "parse_sheet" s_parse_sheet f fd) : KBn K fd ["text"] 0 ["text"] (fun us ws : List Value => [ws.getD 0 .none]) (fun us ws : List V => [ws.getD 0 .non]) := by
  obtain ⟨o1, o2, v1, v2, v3, a1, v4, v5, s1, rfl, r1, r2⟩ := F.ex
  refine ⟨fun s us ws _ l1 l2 => ?_, fun r1 r2 => .cons (vals_getD r2 0) (.nil)⟩
  match us, ws, l1, l2 with
  | [], [_], _, _ => exact .of_eq rfl
section
variable {base : Heap} {K : PySem.W.Frag} {mg : Str → Option Value} {w : World}
theorem ini_BadRoot (T : Txt K mg) : FnOk PySem.Challenge.pw_grainyard_k64_texts_of_sheets_and_steps w K mg base CX0 1 T.e_BadRoot.f ((NFI i_BadRoot "BadRoot.__init__" T.e_BadRoot.cc T.e_BadRoot.c).fd T.e_BadRoot.doc T.e_BadRoot.pm T.e_BadRoot.ctv) ["self", "number"] (spIni T.e_BadRoot.C 1 fun ws => [("number", ws.getD 0 .non), ("word", .str "BadRoot")]) := ok_ini1 erb_VE T.e_BadRoot sc_iBadRoot rfl T.x_BadRoot_word T.x_BadRoot_number
theorem bi_BadRoot (T : Txt K mg) : Binds K ((NFI i_BadRoot "BadRoot.__init__" T.e_BadRoot.cc T.e_BadRoot.c).fd T.e_BadRoot.doc T.e_BadRoot.pm T.e_BadRoot.ctv) ["self", "number"] [] := .all fun us hl => match us, hl with | [_, _], _ => rfl
theorem ini_BadCount (T : Txt K mg) : FnOk PySem.Challenge.pw_grainyard_k64_texts_of_sheets_and_steps w K mg base CX0 1 T.e_BadCount.f ((NFI i_BadCount "BadCount.__init__" T.e_BadCount.cc T.e_BadCount.c).fd T.e_BadCount.doc T.e_BadCount.pm T.e_BadCount.ctv) ["self", "number"] (spIni T.e_BadCount.C 1 fun ws => [("number", ws.getD 0 .non), ("word", .str "BadCount")]) := ok_ini1 erb_VE T.e_BadCount sc_iBadCount rfl T.x_BadCount_word T.x_BadCount_number
theorem bi_BadCount (T : Txt K mg) : Binds K ((NFI i_BadCount "BadCount.__init__" T.e_BadCount.cc T.e_BadCount.c).fd T.e_BadCount.doc T.e_BadCount.pm T.e_BadCount.ctv) ["self", "number"] [] := .all fun us hl => match us, hl with | [_, _], _ => rfl
theorem ini_BadRow (T : Txt K mg) : FnOk PySem.Challenge.pw_grainyard_k64_texts_of_sheets_and_steps w K mg base CX0 1 T.e_BadRow.f ((NFI i_BadRow "BadRow.__init__" T.e_BadRow.cc T.e_BadRow.c).fd T.e_BadRow.doc T.e_BadRow.pm T.e_BadRow.ctv) ["self", "at"] (spIni T.e_BadRow.C 1 fun ws => [("at", ws.getD 0 .non), ("word", .str "BadRow")]) := ok_ini1 erb_VE T.e_BadRow sc_iBadRow rfl T.x_BadRow_word T.x_BadRow_at
theorem bi_BadRow (T : Txt K mg) : Binds K ((NFI i_BadRow "BadRow.__init__" T.e_BadRow.cc T.e_BadRow.c).fd T.e_BadRow.doc T.e_BadRow.pm T.e_BadRow.ctv) ["self", "at"] [] := .all fun us hl => match us, hl with | [_, _], _ => rfl
theorem ini_OtherRoot (T : Txt K mg) : FnOk PySem.Challenge.pw_grainyard_k64_texts_of_sheets_and_steps w K mg base CX0 1 T.e_OtherRoot.f ((NFI i_OtherRoot "OtherRoot.__init__" T.e_OtherRoot.cc T.e_OtherRoot.c).fd T.e_OtherRoot.doc T.e_OtherRoot.pm T.e_OtherRoot.ctv) ["self"] (spIni T.e_OtherRoot.C 0 fun _ => [("word", .str "OtherRoot")]) := ok_ini0 erb_VE T.e_OtherRoot sc_iOtherRoot rfl T.x_OtherRoot_word
theorem bi_OtherRoot (T : Txt K mg) : Binds K ((NFI i_OtherRoot "OtherRoot.__init__" T.e_OtherRoot.cc T.e_OtherRoot.c).fd T.e_OtherRoot.doc T.e_OtherRoot.pm T.e_OtherRoot.ctv) ["self"] [] := .all fun us hl => match us, hl with | [_], _ => rfl
theorem ini_BadStep (T : Txt K mg) : FnOk PySem.Challenge.pw_grainyard_k64_texts_of_sheets_and_steps w K mg base CX0 1 T.e_BadStep.f ((NFI i_BadStep "BadStep.__init__" T.e_BadStep.cc T.e_BadStep.c).fd T.e_BadStep.doc T.e_BadStep.pm T.e_BadStep.ctv) ["self", "at"] (spIni T.e_BadStep.C 1 fun ws => [("at", ws.getD 0 .non), ("word", .str "BadStep")]) := ok_ini1 erb_VE T.e_BadStep sc_iBadStep rfl T.x_BadStep_word T.x_BadStep_at
theorem bi_BadStep (T : Txt K mg) : Binds K ((NFI i_BadStep "BadStep.__init__" T.e_BadStep.cc T.e_BadStep.c).fd T.e_BadStep.doc T.e_BadStep.pm T.e_BadStep.ctv) ["self", "at"] [] := .all fun us hl => match us, hl with | [_, _], _ => rfl
theorem ini_BadText (T : Txt K mg) : FnOk PySem.Challenge.pw_grainyard_k64_texts_of_sheets_and_steps w K mg base CX0 1 T.e_BadText.f ((NFI i_BadText "BadText.__init__" T.e_BadText.cc T.e_BadText.c).fd T.e_BadText.doc T.e_BadText.pm T.e_BadText.ctv) ["self", "at"] (spIni T.e_BadText.C 1 fun ws => [("at", ws.getD 0 .non), ("word", .str "BadText")]) := ok_ini1 erb_VE T.e_BadText sc_iBadText rfl T.x_BadText_word T.x_BadText_at
theorem bi_BadText (T : Txt K mg) : Binds K ((NFI i_BadText "BadText.__init__" T.e_BadText.cc T.e_BadText.c).fd T.e_BadText.doc T.e_BadText.pm T.e_BadText.ctv) ["self", "at"] [] := .all fun us hl => match us, hl with | [_, _], _ => rfl
theorem ini_NoSheet (T : Txt K mg) : FnOk PySem.Challenge.pw_grainyard_k64_texts_of_sheets_and_steps w K mg base CX0 1 T.e_NoSheet.f ((NFI i_NoSheet "NoSheet.__init__" T.e_NoSheet.cc T.e_NoSheet.c).fd T.e_NoSheet.doc T.e_NoSheet.pm T.e_NoSheet.ctv) ["self", "sheet"] (spIni T.e_NoSheet.C 1 fun ws => [("sheet", ws.getD 0 .non), ("word", .str "NoSheet")]) := ok_ini1 erb_LE T.e_NoSheet sc_iNoSheet rfl T.x_NoSheet_word T.x_NoSheet_sheet
theorem bi_NoSheet (T : Txt K mg) : Binds K ((NFI i_NoSheet "NoSheet.__init__" T.e_NoSheet.cc T.e_NoSheet.c).fd T.e_NoSheet.doc T.e_NoSheet.pm T.e_NoSheet.ctv) ["self", "sheet"] [] := .all fun us hl => match us, hl with | [_, _], _ => rfl
theorem ini_NothingLeft (T : Txt K mg) : FnOk PySem.Challenge.pw_grainyard_k64_texts_of_sheets_and_steps w K mg base CX0 1 T.e_NothingLeft.f ((NFI i_NothingLeft "NothingLeft.__init__" T.e_NothingLeft.cc T.e_NothingLeft.c).fd T.e_NothingLeft.doc T.e_NothingLeft.pm T.e_NothingLeft.ctv) ["self"] (spIni T.e_NothingLeft.C 0 fun _ => [("word", .str "NothingLeft")]) := ok_ini0 erb_IE T.e_NothingLeft sc_iNothingLeft rfl T.x_NothingLeft_word
theorem bi_NothingLeft (T : Txt K mg) : Binds K ((NFI i_NothingLeft "NothingLeft.__init__" T.e_NothingLeft.cc T.e_NothingLeft.c).fd T.e_NothingLeft.doc T.e_NothingLeft.pm T.e_NothingLeft.ctv) ["self"] [] := .all fun us hl => match us, hl with | [_], _ => rfl
end
/-! ### heaps, and the bag that the draws change -/
def Keep (b : Addr) (H H' : Hp) : Prop := ∀ a o, a ≠ b → H a = some o → H' a = some o
theorem Keep.refl {b : Addr} (H : Hp) : Keep b H H := fun _ _ _ e => e
theorem Keep.trans {b : Addr} {H H1 H2 : Hp} (x : Keep b H H1) (y : Keep b H1 H2) : Keep b H H2 := fun a o n e => y a o n (x a o n e)
theorem keep_put {b : Addr} {H : Hp} {o : HO} : Keep b H (upd H b o) := fun a u n e => (upd_ne n).trans e
theorem keep_new {b p : Addr} {H : Hp} {o : HO} (hp : H p = none) : Keep b H (upd H p o) := fun a u _ e => (upd_ne (ne_of_none e hp)).trans e
theorem same_new {p : Addr} {H : Hp} {o : HO} (hp : H p = none) : Same H (upd H p o) := fun a u e => (upd_ne (ne_of_none e hp)).trans e
theorem keep_of {b : Addr} {H H' : Hp} (s : Same H H') : Keep b H H' := fun a o _ e => s a o e
theorem Same.keep {b : Addr} {H H1 H2 : Hp} (s : Same H H1) (k : Keep b H1 H2) (hb : H b = none) : Same H H2 := fun a o e => k a o (ne_of_none e hb) (s a o e)
structure BagAt (H : Hp) (b s : Addr) (ns : List Int) (i j m c : Int) : Prop where
  hb : H b = some (.lst [.ref s, .int i, .int j, .int m, .int c])
  hs : H s = some (.lst (ns.map V.int))
  i0 : 0 ≤ i
  i1 : i ≤ (ns.length : Int)
  m0 : 0 ≤ m
  m1 : m < 2147483399
def Bag (H : Hp) (b sb : Addr) : Prop := ∃ (ns : List Int) (i j m c : Int), BagAt H b sb ns i j m c
theorem BagAt.ne {H : Hp} {b s : Addr} {ns : List Int} {i j m c : Int} (B : BagAt H b s ns i j m c) : s ≠ b := ne_of B.hs B.hb (by
  intro e
  injection e with e
  cases ns with
  | nil => simp at e
  | cons x r => simp at e)
theorem BagAt.put {H : Hp} {b s : Addr} {ns : List Int} {i j m c : Int} (B : BagAt H b s ns i j m c) {i' j' m' c' : Int} (h0 : 0 ≤ i') (h1 : i' ≤ (ns.length : Int)) (h2 : 0 ≤ m') (h3 : m' < 2147483399) :
    BagAt (upd H b (.lst [.ref s, .int i', .int j', .int m', .int c'])) b s ns i' j' m' c' := ⟨upd_same, (upd_ne B.ne).trans B.hs, h0, h1, h2, h3⟩
theorem BagAt.same {H H' : Hp} {b s : Addr} {ns : List Int} {i j m c : Int} (B : BagAt H b s ns i j m c) (e : Same H H') : BagAt H' b s ns i j m c := ⟨e _ _ B.hb, e _ _ B.hs, B.i0, B.i1, B.m0, B.m1⟩
theorem Bag.same {H H' : Hp} {b sb : Addr} (B : Bag H b sb) (e : Same H H') : Bag H' b sb := by
  obtain ⟨ns, i, j, m, c, B⟩ := B
  exact ⟨ns, i, j, m, c, B.same e⟩
theorem Bag.new {H : Hp} {b sb p : Addr} {o : HO} (B : Bag H b sb) (hp : H p = none) : Bag (upd H p o) b sb := B.same (same_new hp)
theorem Bag.ne {H : Hp} {b sb p : Addr} (B : Bag H b sb) (hp : H p = none) : p ≠ b := by
  obtain ⟨ns, i, j, m, c, B⟩ := B
  exact (ne_of_none B.hb hp).symm
theorem Bag.ne2 {H : Hp} {b sb p : Addr} (B : Bag H b sb) (hp : H p = none) : p ≠ sb := by
  obtain ⟨ns, i, j, m, c, B⟩ := B
  exact (ne_of_none B.hs hp).symm
theorem Bag.tup {H : Hp} {b sb p : Addr} {xs : List V} (B : Bag H b sb) (hp : H p = some (.tup xs)) : p ≠ b := by
  obtain ⟨ns, i, j, m, c, B⟩ := B
  exact ne_of hp B.hb (by intro z; cases z)
theorem Bag.put {H : Hp} {b sb l : Addr} {o : HO} (B : Bag H b sb) (h1 : l ≠ b) (h2 : l ≠ sb) : Bag (upd H l o) b sb := by
  obtain ⟨ns, i, j, m, c, B⟩ := B
  exact ⟨ns, i, j, m, c, (upd_ne h1.symm).trans B.hb, (upd_ne h2.symm).trans B.hs, B.i0, B.i1, B.m0, B.m1⟩
theorem Keep.list {K : PySem.W.Frag} {H H' : Hp} {b p : Addr} {xs : List V} (k : Keep b H H') (hp : p ≠ b) (h : H p = some (.lst xs)) : SqL K H' p xs := SqL.of (k _ _ hp h)
theorem at_some {α : Type} {xs : List α} {i : Int} (h0 : 0 ≤ i) (h1 : i < (xs.length : Int)) : ∃ v, xs[i.toNat]? = some v ∧ atI xs i = some v := by
  obtain ⟨n, rfl⟩ := Int.eq_ofNat_of_zero_le h0
  have hl : n < xs.length := by omega
  exact ⟨xs[n], by simp [hl], atI_nat (by simp [hl])⟩
theorem at_ex {ns : List Int} {i : Int} (h0 : 0 ≤ i) (h1 : i < (ns.length : Int)) : ∃ z, atI (ns.map V.int) i = some (.int z) := by
  obtain ⟨n, rfl⟩ := Int.eq_ofNat_of_zero_le h0
  have hl : n < ns.length := by omega
  exact ⟨ns[n], atI_nat (by simp [hl])⟩
/-! ### f(k = v, ..): keywords alone -/
section
variable {X : Cx}
theorem pe_kwOnly {CX : CXT} {k : Nat} {f : Addr} {fd : FuncData} {ps ks : List Str} {sp : Sp} {E : XK} {x : Str} {p pos : Pos} {kws : List Keyword} {tk : TA} {g : List Value → List Value → List Value} {gV : List V → List V → List V}
    (F : FnOk X.prog X.w X.K X.mg X.base CX k f fd ps sp) (hr : Room k X.A) (hg : Gl X x) (hm : X.mg x = some (.ref f))
    (hk : PySem.W.keepIn X.K (.ref f) = true) (hb : KBn X.K fd ps 0 ks g gV) (hx : Passes CX X E) (hkw : PK X kws tk)
    (hall : (backToKw pos (keywordEach kws X.env)).all (·.1.isSome) = true := by rfl)
    (hks : (backToKw pos (keywordEach kws X.env)).filterMap (·.1) = ks := by rfl)
    (hdb : (x == ("__debug__" : Str)) = false := by decide)
    (hpl : ((backTo pos (starEach [] X.env)).any (·.1) || (backToKw pos (keywordEach kws X.env)).any (·.1.isNone)) = false := by rfl) :
    PE X (.Call (.Name x p) [] kws pos) (fun σ H Q => tk σ H fun zs H2 => zs.length = ks.length ∧ sp (gV [] zs) H2 Q E) := by
  refine ⟨fun pins s σ H Q I h => wpAny_Call_Name_kw (ld_glob I hg hm ?_ hdb)⟩
  refine PySem.W.callWith_KW0 (h₀ := X.base) I.ok.mod.kin hk hall ?_ hpl
  refine thn (hkw.run pos pins s σ H _ I h) fun ws s2 ⟨zs, H2, I2, rz, l2, q2⟩ => ⟨I2.kIn, ?_⟩
  rw [hks]
  exact run_fnN (us := []) (vs := []) F hr hb hx I2 .nil rz rfl l2 q2
end
/-! ### dicts whose keys are sheets -/
abbrev Sh := Int × Int × Int × Int
def shK (x : Sh) : NestedKey := .tup [.tup [.num x.1, .num x.2.1], .tup [.num x.2.2.1, .num x.2.2.2]]
theorem shK_inj {x y : Sh} (h : shK x = shK y) : x = y := by
  obtain ⟨a, b, c, e⟩ := x
  obtain ⟨a', b', c', e'⟩ := y
  simp only [shK, NestedKey.tup.injEq, List.cons.injEq, NestedKey.num.injEq, and_true] at h
  obtain ⟨⟨rfl, rfl⟩, rfl, rfl⟩ := h
  rfl
theorem shK_depth (x : Sh) : (shK x).depth ≤ 8 := by
  simp [shK, NestedKey.depth, NestedKey.depthAll]
/-- the sheet x, as a tuple of two tuples at p -/
def ShAt (H : Hp) (p : Addr) (x : Sh) : Prop := ∃ u v : Addr, H p = some (.tup [.ref u, .ref v]) ∧ H u = some (.tup [.int x.1, .int x.2.1]) ∧ H v = some (.tup [.int x.2.2.1, .int x.2.2.2])
theorem ShAt.mono {H H' : Hp} (k : ∀ p xs, H p = some (.tup xs) → H' p = some (.tup xs)) {p : Addr} {x : Sh} (h : ShAt H p x) : ShAt H' p x := by
  obtain ⟨u, v, h1, h2, h3⟩ := h
  exact ⟨u, v, k _ _ h1, k _ _ h2, k _ _ h3⟩
theorem ShAt.same {H H' : Hp} (s : Same H H') {p : Addr} {x : Sh} (h : ShAt H p x) : ShAt H' p x := h.mono fun p xs z => s p _ z
/-- the entries of such a dict, in order: the sheet, where it stands, its number -/
abbrev DEs := List (Sh × Addr × Int)
def DRel (p : Sh × Addr × Int) (q : NestedKey × Addr × Value) : Prop := q.1 = shK p.1 ∧ q.2.1 = p.2.1 ∧ RelV (.int p.2.2) q.2.2
def DsH (P : Program) (w : World) (d : Addr) (es : DEs) (h : Heap) : Prop := (d == sysModules) = false ∧ es.length ≤ sizeLine ∧ ∃ xs : List (NestedKey × Addr × Value), Paired DRel es xs ∧
  ∃ o en ep, h.get? d = some o ∧ o.ExactDict ∧ o.data = .dict en ep ∧ en.toList = xs.map (entryOfKey (nestedKind P w)) ∧ (xs.map (·.1)).Nodup
def DS (P : Program) (w : World) (d : Addr) (es : DEs) : HO := .ext (DsH P w d es)
structure DAt (P : Program) (w : World) (H : Hp) (d : Addr) (es : DEs) : Prop where
  hd : H d = some (DS P w d es)
  ks : ∀ x ∈ es, ShAt H x.2.1 x.1
/-- as it may be read: also while a loop walks it -/
structure DRd (P : Program) (w : World) (H : Hp) (d : Addr) (es : DEs) : Prop where
  hd : Rd H d (DS P w d es)
  ks : ∀ x ∈ es, ShAt H x.2.1 x.1
theorem DAt.rd {P : Program} {w : World} {H : Hp} {d : Addr} {es : DEs} (D : DAt P w H d es) : DRd P w H d es := ⟨.inl D.hd, D.ks⟩
section
variable {P : Program} {w : World} {H : Hp} {h : Heap} {d : Addr} {es : DEs}
theorem DsH.stay {h' : Heap} (z : DsH P w d es h) (k : ∀ o, h.get? d = some o → h'.get? d = some o) : DsH P w d es h' := by
  obtain ⟨z1, z2, xs, r, o, en, ep, ho, z3⟩ := z
  exact ⟨z1, z2, xs, r, o, en, ep, k o ho, z3⟩
theorem ds_obj {H' : Hp} (z : DsH P w d es h) : ObjOk P w H' h d (DS P w d es) := by
  refine ⟨z, ?_, fun h1 h2 z1 k => z1.stay k⟩
  obtain ⟨_, _, _, _, o, _, _, ho, _⟩ := z
  exact ⟨o, ho⟩
theorem ints_at (ok : HOk P w H h) {a : Addr} {x y : Int} (e : H a = some (.tup [.int x, .int y])) : NestedIs h (.tup [.num x, .num y]) (.ref a) := by
  obtain ⟨_, its, r, o, ho, hc, n, hdat⟩ := ok a _ e
  cases r with
  | cons r1 t =>
    cases t with
    | cons r2 t =>
      cases t
      obtain ⟨t1, rfl⟩ := r1
      obtain ⟨t2, rfl⟩ := r2
      exact .tup ho hc hdat (.cons (.int x t1) (.cons (.int y t2) .nil))
theorem sh_key (ok : HOk P w H h) {p : Addr} {x : Sh} (e : ShAt H p x) : (nestedKind P w).is h (shK x) p := by
  obtain ⟨u, v, h1, h2, h3⟩ := e
  obtain ⟨_, its, r, o, ho, hc, n, hdat⟩ := ok p _ h1
  cases r with
  | cons r1 t =>
    cases t with
    | cons r2 t =>
      cases t
      cases r1
      cases r2
      exact ⟨.tup ho hc hdat (.cons (ints_at ok h2) (.cons (ints_at ok h3) .nil)), shK_depth x⟩
theorem Paired.getR {α β : Type} {F : α → β → Prop} : ∀ {l₁ : List α} {l₂ : List β}, Paired F l₁ l₂ → ∀ {b : β}, b ∈ l₂ → ∃ a ∈ l₁, F a b
  | _, _, .nil, _, hb => by cases hb
  | _, _, .cons r t, b, hb => by
    rcases List.mem_cons.mp hb with e | e
    · exact ⟨_, List.mem_cons_self, e ▸ r⟩
    · obtain ⟨a, ha, f⟩ := Paired.getR t e
      exact ⟨a, List.mem_cons_of_mem _ ha, f⟩
theorem ds_of (ok : HOk P w H h) (D : DRd P w H d es) : (d == sysModules) = false ∧ es.length ≤ sizeLine ∧ ∃ xs, Paired DRel es xs ∧ h.DictOfH (nestedKind P w) d xs := by
  obtain ⟨z1, z2, xs, r, o, en, ep, ho, h1, h2, h3, h4⟩ := (D.hd.ok ok).1
  refine ⟨z1, z2, xs, r, o, en, ep, ho, h1, h2, h3, fun y hy => ?_, h4⟩
  obtain ⟨e, he, f1, f2, _⟩ := Paired.getR r hy
  rw [f1, f2]
  exact sh_key ok (D.ks e he)
/-- the number of a sheet -/
def valD (es : DEs) (x : Sh) : Option Int := (es.find? fun e => decide (e.1 = x)).map (·.2.2)
def putD (es : DEs) (x : Sh) (p : Addr) (n : Int) : DEs := if (valD es x).isSome then es.map (fun e => if e.1 = x then (e.1, e.2.1, n) else e) else es ++ [(x, p, n)]
def dropD (es : DEs) (x : Sh) : DEs := es.filter fun e => decide (e.1 ≠ x)
theorem drel_val {xs : List (NestedKey × Addr × Value)} (r : Paired DRel es xs) (x : Sh) : RelO ((valD es x).map V.int) ((atKey xs (shK x)).map (·.2)) := by
  induction r with
  | nil => exact trivial
  | @cons p q l1 l2 h t ih =>
    obtain ⟨h1, h2, h3⟩ := h
    by_cases e : p.1 = x
    · have e2 : q.1 = shK x := by rw [h1, e]
      simp only [valD, atKey, List.find?_cons, e, e2, decide_true, Option.map_some]
      exact h3
    · have e2 : ¬ q.1 = shK x := fun z => e (shK_inj (h1.symm.trans z))
      simpa only [valD, atKey, List.find?_cons, e, e2, decide_false] using ih
theorem drel_map {xs : List (NestedKey × Addr × Value)} (r : Paired DRel es xs) (x : Sh) {n : Int} {v : Value} (rv : RelV (.int n) v) : Paired DRel (es.map fun e => if e.1 = x then (e.1, e.2.1, n) else e) (xs.map (putAt (shK x) v)) := by
  induction r with
  | nil => exact .nil
  | @cons p q l1 l2 h t ih =>
    obtain ⟨h1, h2, h3⟩ := h
    refine .cons ?_ ih
    by_cases e : p.1 = x
    · have e2 : q.1 = shK x := by rw [h1, e]
      show DRel (if p.1 = x then (p.1, p.2.1, n) else p) _
      rw [if_pos e, putAt, if_pos e2]
      exact ⟨h1, h2, rv⟩
    · have e2 : ¬ q.1 = shK x := fun z => e (shK_inj (h1.symm.trans z))
      show DRel (if p.1 = x then (p.1, p.2.1, n) else p) _
      rw [if_neg e, putAt, if_neg e2]
      exact ⟨h1, h2, h3⟩
theorem Paired.snoc {α β : Type} {F : α → β → Prop} {a : α} {b : β} (f : F a b) : ∀ {l₁ : List α} {l₂ : List β}, Paired F l₁ l₂ → Paired F (l₁ ++ [a]) (l₂ ++ [b])
  | _, _, .nil => .cons f .nil
  | _, _, .cons r t => .cons r (Paired.snoc f t)
theorem drel_put {xs : List (NestedKey × Addr × Value)} (r : Paired DRel es xs) (x : Sh) (p : Addr) {n : Int} {v : Value} (rv : RelV (.int n) v) : Paired DRel (putD es x p n) (storedH xs (shK x) p v) := by
  have e := (drel_val r x).isSome_eq
  rw [Option.isSome_map, Option.isSome_map] at e
  unfold putD storedH
  rw [e]
  split
  · exact drel_map r x rv
  · exact Paired.snoc ⟨rfl, rfl, rv⟩ r
theorem drel_drop {xs : List (NestedKey × Addr × Value)} (r : Paired DRel es xs) (x : Sh) : Paired DRel (dropD es x) (withoutH xs (shK x)) := by
  induction r with
  | nil => exact .nil
  | @cons p q l1 l2 h t ih =>
    obtain ⟨h1, h2, h3⟩ := h
    by_cases e : p.1 = x
    · have e2 : q.1 = shK x := by rw [h1, e]
      simpa [dropD, withoutH, List.filter_cons, e, e2] using ih
    · have e2 : ¬ q.1 = shK x := fun z => e (shK_inj (h1.symm.trans z))
      simpa [dropD, withoutH, List.filter_cons, e, e2] using Paired.cons (F := DRel) ⟨h1, h2, h3⟩ ih
theorem putD_len (es : DEs) (x : Sh) (p : Addr) (n : Int) : (putD es x p n).length ≤ es.length + 1 := by
  unfold putD
  split <;> simp
theorem putD_mem {x : Sh} {p : Addr} {n : Int} {y : Sh × Addr × Int} (h : y ∈ putD es x p n) : (y.1 = x ∧ y.2.1 = p) ∨ ∃ z ∈ es, z.1 = y.1 ∧ z.2.1 = y.2.1 := by
  unfold putD at h
  split at h
  · obtain ⟨z, hz, rfl⟩ := List.mem_map.mp h
    refine .inr ⟨z, hz, ?_⟩
    split <;> exact ⟨rfl, rfl⟩
  · rcases List.mem_append.mp h with h | h
    · exact .inr ⟨y, h, rfl, rfl⟩
    · rw [List.mem_singleton.mp h]
      exact .inl ⟨rfl, rfl⟩
theorem dropD_mem {x : Sh} {y : Sh × Addr × Int} (h : y ∈ dropD es x) : y ∈ es := (List.mem_filter.mp h).1
theorem tup_ext {l : Addr} {φ : Heap → Prop} {o : HO} (hl : H l = some (.ext φ)) (p : Addr) (xs : List V) (e : H p = some (.tup xs)) : (upd H l o) p = some (.tup xs) := (upd_ne (ne_of e hl (by intro z; cases z))).trans e
theorem DAt.same {H' : Hp} (D : DAt P w H d es) (s : Same H H') : DAt P w H' d es := ⟨s _ _ D.hd, fun x hx => (D.ks x hx).same s⟩
theorem DAt.put {x : Sh} {p : Addr} {n : Int} (D : DAt P w H d es) (hp : ShAt H p x) : DAt P w (upd H d (DS P w d (putD es x p n))) d (putD es x p n) := by
  refine ⟨upd_same, fun y hy => ?_⟩
  refine ShAt.mono (tup_ext D.hd) ?_
  rcases putD_mem hy with ⟨e1, e2⟩ | ⟨z, hz, e1, e2⟩
  · rw [e1, e2]
    exact hp
  · rw [← e1, ← e2]
    exact D.ks z hz
theorem DAt.drop {x : Sh} (D : DAt P w H d es) : DAt P w (upd H d (DS P w d (dropD es x))) d (dropD es x) := ⟨upd_same, fun y hy => (D.ks y (dropD_mem hy)).mono (tup_ext D.hd)⟩
end
/-! the operations -/
section
variable {X : Cx} {pins : List (Addr × Obj)} {σ : L2.St} {H : Hp} {s : Shared} {d p : Addr} {es : DEs} {x : Sh} {A : Around} {E : Value → Shared → Prop}
theorem ds_getItem {n : Int} {Q : Value → Shared → Prop} (hu : A.units + 9 < cLine) (I : Inv X pins σ H s) (D : DRd X.prog X.w H d es) (hp : ShAt H p x) (hv : valD es x = some n) (q : ∀ t s', Inv X pins σ H s' → Q (.int n t) s') :
    wpAny (model X.prog X.w) A (getItem (.ref d) (.ref p)) Q E s := by
  obtain ⟨_, _, xs, r, dd⟩ := ds_of I.hok D
  have rel := drel_val r x
  rw [hv] at rel
  obtain ⟨w', hw, rw'⟩ := RelO.some_of (v := V.int n) rel
  obtain ⟨y, hy, hy2⟩ := Option.map_eq_some_iff.mp hw
  refine wpAny_getItem_heap (show A.in1.units + 8 < cLine from hu) (sh_key I.hok hp) dd hy ?_
  rw [hy2]
  obtain ⟨t, rfl⟩ := rw'
  exact q t _ (I.tok _)
theorem ds_in {Q : Value → Shared → Prop} (hu : A.units + 9 < cLine) (I : Inv X pins σ H s) (D : DRd X.prog X.w H d es) (hp : ShAt H p x) (q : ∀ s', Inv X pins σ H s' → Q (.bool (valD es x).isSome) s') :
    wpAny (model X.prog X.w) A (compareOp .In (.ref p) (.ref d)) Q E s := by
  obtain ⟨hs, _, xs, r, dd⟩ := ds_of I.hok D
  refine wpAny_in_heap (show A.in1.units + 8 < cLine from hu) (sh_key I.hok hp) hs dd ?_
  have e := (drel_val r x).isSome_eq
  rw [Option.isSome_map, Option.isSome_map] at e
  rw [← e]
  exact q _ (I.tok _)
theorem ds_getOr {n : Int} {r' : Value} {Q : Value → Shared → Prop} (hu : A.units + 9 < cLine) (I : Inv X pins σ H s) (D : DRd X.prog X.w H d es) (hp : ShAt H p x) (rn : RelV (.int n) r') (q : ∀ t s', Inv X pins σ H s' → Q (.int ((valD es x).getD n) t) s') :
    wpAny (model X.prog X.w) A (call (.builtin "dict.get") [.ref d, .ref p, r']) Q E s := by
  obtain ⟨hs, _, xs, r, dd⟩ := ds_of I.hok D
  refine call_meetsIn PySem.F.slot_dict_get dd.typeIs PySem.F.entry_dict_get (PySem.F.args_dict_get_3 _ _ _) (meetsH_dict_get_default (nestedKind X.prog X.w) d p hs r') ⟨show A.in1.units + 8 < cLine from hu, shK x, xs, sh_key I.hok hp, dd, ?_⟩
  have rel := (drel_val r x).getD rn
  have e : ((valD es x).map V.int).getD (.int n) = .int ((valD es x).getD n) := by cases valD es x <;> rfl
  rw [e] at rel
  obtain ⟨t, et⟩ := rel
  rw [et]
  exact q t _ (I.tok _)
theorem ds_setItem {n : Int} {v : Value} {Q : Unit → Shared → Prop} (hu : A.units + 9 < cLine) (I : Inv X pins σ H s) (D : DAt X.prog X.w H d es) (hp : ShAt H p x) (rv : RelV (.int n) v) (hl : es.length < sizeLine)
    (q : ∀ s', Inv X pins σ (upd H d (DS X.prog X.w d (putD es x p n))) s' → Q () s') : wpAny (model X.prog X.w) A (setItem (.ref d) (.ref p) v) Q E s := by
  obtain ⟨hs, hz, xs, r, dd⟩ := ds_of I.hok D.rd
  have hz' : xs.length ≤ sizeLine := by rw [← Paired.length r]; exact hz
  refine wpAny_setItem_heap (hsz := hz') (show A.in1.units + 8 < cLine from hu) (sh_key I.hok hp) dd fun h' dd' hsb => q _ ?_
  obtain ⟨o, en, ep, h1, h2, h3, h4, _, h5⟩ := dd'
  refine d_write I (by rw [D.hd]; exact True.intro) hsb ⟨o, h1⟩ (ds_obj ⟨hs, ?_, _, drel_put r x p rv, o, en, ep, h1, h2, h3, h4, h5⟩)
  have := putD_len es x p n
  omega
theorem ds_del {Q : Unit → Shared → Prop} {n : Int} (hu : A.units + 9 < cLine) (I : Inv X pins σ H s) (D : DAt X.prog X.w H d es) (hp : ShAt H p x) (hv : valD es x = some n)
    (q : ∀ s', Inv X pins σ (upd H d (DS X.prog X.w d (dropD es x))) s' → Q () s') : wpAny (model X.prog X.w) A (delItem (.ref d) (.ref p)) Q E s := by
  obtain ⟨hs, hz, xs, r, dd⟩ := ds_of I.hok D.rd
  have hz' : xs.length ≤ sizeLine := by rw [← Paired.length r]; exact hz
  have rel := drel_val r x
  rw [hv] at rel
  obtain ⟨w', hw, rw'⟩ := RelO.some_of (v := V.int n) rel
  obtain ⟨y, hy, hy2⟩ := Option.map_eq_some_iff.mp hw
  refine wpAny_delItem_heap (hsz := hz') (show A.in1.units + 8 < cLine from hu) (sh_key I.hok hp) hs dd hy fun h' dd' hsb => q _ ?_
  obtain ⟨o, en, ep, h1, h2, h3, h4, _, h5⟩ := dd'
  refine d_write I (by rw [D.hd]; exact True.intro) hsb ⟨o, h1⟩ (ds_obj ⟨hs, ?_, _, drel_drop r x, o, en, ep, h1, h2, h3, h4, h5⟩)
  exact Nat.le_trans (List.length_filter_le _ _) hz
end
/-! as terms -/
section
variable {X : Cx} {pos pos' apos cpos tpos : Pos} {o i e f value : Expr} {td ty tx tv : TE}
theorem pe_dnewS : PE X (.Dict [] [] pos) (fun _ H Q => ∀ p, H p = none → Q (.ref p) (upd H p (DS X.prog X.w p []))) := ⟨fun pins s σ H Q I h => by
  refine wpAny_Dict_empty ⟨.ref s.heap.objs.size, _, I.laid (a := s.heap.objs.size) (o := DS X.prog X.w s.heap.objs.size []) (t' := s.toks) (fun _ _ q => Heap.get?_push_of_some _ q) (Nat.le_refl _) (ds_obj ?_), rfl, h _ (I.hok.fresh (Nat.le_refl _))⟩
  exact ⟨beq_eq_false_iff_ne.mpr (Ne.symm (Nat.ne_of_lt I.big)), Nat.zero_le _, [], .nil, _, #[], 0, Heap.get?_push_size _ rfl, ⟨rfl, rfl, rfl⟩, rfl, rfl, List.nodup_nil⟩⟩
def tSGet (P : Program) (w : World) (td ty : TE) : TE := fun σ H Q => td σ H fun v H1 => ty σ H1 fun y H2 => ∃ d p es x n, v = .ref d ∧ y = .ref p ∧ DRd P w H2 d es ∧ ShAt H2 p x ∧ valD es x = some n ∧ Q (.int n) H2
theorem ds_dict {pins : List (Addr × Obj)} {σ : L2.St} {H : Hp} {s : Shared} {d : Addr} {es : DEs} (I : Inv X pins σ H s) (D : DRd X.prog X.w H d es) : s.TypeIs (.ref d) "dict" ∧ (∀ b, Value.ref d = .ref b → ∃ ob, s.heap.get? b = some ob ∧ ob.dict = none) := by
  obtain ⟨_, _, xs, _, dd⟩ := ds_of I.hok D
  refine ⟨dd.typeIs, fun b z => ?_⟩
  cases z
  obtain ⟨ob, _, _, h1, h2, _⟩ := dd
  exact ⟨ob, h1, h2.2.1⟩
end
/-! ### dicts of sheets: in, d[k], d[k] = v, del d[k], d.get(k, n) -/
section
variable {X : Cx} {pos pos' apos cpos tpos : Pos} {o i e f value : Expr} {td ty tx tv : TE}
def rInDS (P : Program) (w : World) (neg : Bool) : R2 := fun y v H Q => ∃ p d es x, y = .ref p ∧ v = .ref d ∧ DRd P w H d es ∧ ShAt H p x ∧ Q (.bl ((valD es x).isSome != neg)) H
theorem op_inDS (hu : X.A.units + 64 < cLine) : OpR X (compareOp .In) (rInDS X.prog X.w false) := by
  intro pins s σ H y v y' v' Q I ry rv q
  obtain ⟨p, d, es, x, rfl, rfl, D, hp, q⟩ := q
  cases ry
  cases rv
  refine ds_in (by omega) I D hp fun s' I' => ⟨.bl (valD es x).isSome, H, I', rfl, ?_⟩
  rw [show (valD es x).isSome = ((valD es x).isSome != false) by simp]
  exact q
theorem op_notInDS (hu : X.A.units + 64 < cLine) : OpR X (compareOp .NotIn) (rInDS X.prog X.w true) := by
  intro pins s σ H y v y' v' Q I ry rv q
  obtain ⟨p, d, es, x, rfl, rfl, D, hp, q⟩ := q
  cases ry
  cases rv
  obtain ⟨hs, _, xs, r, dd⟩ := ds_of I.hok D
  refine wpAny_notIn_heap (show X.A.in1.units + 8 < cLine from by show X.A.units + 1 + 8 < cLine; omega) (sh_key I.hok hp) hs dd ?_
  have z := (drel_val r x).isSome_eq
  rw [Option.isSome_map, Option.isSome_map] at z
  rw [← z]
  refine ⟨.bl (!(valD es x).isSome), H, I.tok _, rfl, ?_⟩
  rw [show (!(valD es x).isSome) = ((valD es x).isSome != true) by simp]
  exact q
theorem pe_sget (hu : X.A.units + 64 < cLine) (ho : PE X o td) (hi : PE X i ty) (hs : NoSl i) : PE X (.Subscript o i pos) (tSGet X.prog X.w td ty) := by
  refine ⟨fun pins s σ H Q I q => ?_⟩
  refine subD_of PySem.F.slot_dict_getitem.lookup hs (thn (ho.run pins s σ H _ I q) fun u s1 ⟨v, H1, I1, rv, q1⟩ => thn (hi.run pins s1 σ H1 _ I1 q1) fun iv s2 ⟨y, H2, I2, ry, d, p, es, x, n, e1, e2, D, hp, hv, q2⟩ => ?_)
  subst e1 e2
  cases rv
  cases ry
  exact ⟨(ds_dict I2 D).1, ds_getItem (by omega) I2 D hp hv fun t s3 I3 => ⟨.int n, H2, I3, ⟨t, rfl⟩, q2⟩⟩
def sSPut (P : Program) (w : World) (td ty tv : TE) : TS := fun D σ H => tv σ H fun v H1 => td σ H1 fun v2 H2 => ty σ H2 fun y H3 => ∃ d p es x n, v = .int n ∧ v2 = .ref d ∧ y = .ref p ∧ DAt P w H3 d es ∧ ShAt H3 p x ∧ es.length < sizeLine ∧ D.nx σ (upd H3 d (DS P w d (putD es x p n)))
theorem ps_sput (hu : X.A.units + 64 < cLine) (ho : PE X o td) (hi : PE X i ty) (hv : PE X value tv) (hs : swapsWith value (some (.Subscript o i pos')) pos.line X.env = pure false) : PS X (.Assign [.Subscript o i pos'] value pos) (sSPut X.prog X.w td ty tv) := by
  refine ⟨fun pins s σ H D I q => ?_⟩
  refine wpAny_Assign_Subscript (thn (hv.run pins s σ H _ I q) fun r s1 ⟨v, H1, I1, rv, q1⟩ => thn (ho.run pins s1 σ H1 _ I1 q1) fun u s2 ⟨v2, H2, I2, rv2, q2⟩ => thn (hi.run pins s2 σ H2 _ I2 q2) fun iv s3 ⟨y, H3, I3, ry, d, p, es, x, n, e1, e2, e3, DA, hp, hl, q3⟩ => ?_) hs
  subst e1 e2 e3
  cases rv2
  cases ry
  exact ds_setItem (by omega) I3 DA hp rv hl fun s4 I4 => ⟨σ, _, I4, q3⟩
def sSDel (P : Program) (w : World) (td ty : TE) : TS := fun D σ H => td σ H fun v2 H2 => ty σ H2 fun y H3 => ∃ d p es x n, v2 = .ref d ∧ y = .ref p ∧ DAt P w H3 d es ∧ ShAt H3 p x ∧ valD es x = some n ∧ D.nx σ (upd H3 d (DS P w d (dropD es x)))
theorem ps_sdel (hu : X.A.units + 64 < cLine) (ho : PE X o td) (hi : PE X i ty) : PS X (.Delete [.Subscript o i tpos] pos) (sSDel X.prog X.w td ty) := by
  refine ⟨fun pins s σ H D I q => ?_⟩
  refine wpAny_Delete (wpAny_deleteEach_cons (wpAny_delete_Subscript (thn (ho.run pins s σ H _ I q) fun u s1 ⟨v2, H1, I1, rv2, q1⟩ => thn (hi.run pins s1 σ H1 _ I1 q1) fun iv s2 ⟨y, H2, I2, ry, d, p, es, x, n, e2, e3, DA, hp, hv, q2⟩ => ?_)))
  subst e2 e3
  cases rv2
  cases ry
  exact ds_del (by omega) I2 DA hp hv fun s3 I3 => wpAny_deleteEach_nil ⟨σ, _, I3, q2⟩
def sSAug (P : Program) (w : World) (td ty tv : TE) (rd : V → V → Hp → VK → Prop) : TS := fun D σ H => td σ H fun v2 H1 => ty σ H1 fun y H2 => ∃ d p es x n, v2 = .ref d ∧ y = .ref p ∧ DAt P w H2 d es ∧ ShAt H2 p x ∧ valD es x = some n ∧
  tv σ H2 fun y2 H3 => rd (.int n) y2 H3 fun z H4 => ∃ es2 m, z = .int m ∧ DAt P w H4 d es2 ∧ ShAt H4 p x ∧ es2.length < sizeLine ∧ D.nx σ (upd H4 d (DS P w d (putD es2 x p m)))
theorem ps_saug {op : Operator} {rd : V → V → Hp → VK → Prop} (hu : X.A.units + 64 < cLine) (ho : PE X o td) (hi : PE X i ty) (hv : PE X value tv) (hop : InOp X op rd)
    (ha : ∀ ov iv new, augStore i ov iv new = (do holding [new, ov, iv] (setItem ov iv new); release [new, ov, iv] []; pure .next)) : PS X (.AugAssign (.Subscript o i tpos) op value pos) (sSAug X.prog X.w td ty tv rd) := by
  refine ⟨fun pins s σ H D I q => ?_⟩
  refine wpAny_AugAssign_SubscriptAny (thn (ho.run pins s σ H _ I q) fun u s1 ⟨v2, H1, I1, rv2, q1⟩ => thn (hi.run pins s1 σ H1 _ I1 q1) fun iv s2 ⟨y, H2, I2, ry, d, p, es, x, n, e2, e3, DA, hp, hval, q2⟩ => ?_) ha
  subst e2 e3
  cases rv2
  cases ry
  refine ds_getItem (by omega) I2 DA.rd hp hval fun t s3 I3 => thn (hv.run pins s3 σ H2 _ I3 q2) fun w2 s4 ⟨y2, H3, I4, ry2, q3⟩ => ?_
  refine thn (hop pins s4 σ H3 (.int n) y2 (.int n t) w2 _ I4 ⟨t, rfl⟩ ry2 q3) fun w3 s5 ⟨z, H4, I5, rz, es2, m, ez, DA2, hp2, hl, q4⟩ => ?_
  subst ez
  exact ds_setItem (by omega) I5 DA2 hp2 rz hl fun s6 I6 => ⟨σ, _, I6, q4⟩
def tSGet2 (P : Program) (w : World) (td ty tx : TE) : TE := fun σ H Q => td σ H fun v H1 => ∃ d es, v = .ref d ∧ DRd P w H1 d es ∧ ty σ H1 fun y H2 => tx σ H2 fun z H3 => ∃ p x n es3, y = .ref p ∧ z = .int n ∧ DRd P w H3 d es3 ∧ ShAt H3 p x ∧ Q (.int ((valD es3 x).getD n)) H3
theorem pe_sget2 (hu : X.A.units + 64 < cLine) (ho : PE X o td) (he : PE X e ty) (hf : PE X f tx) (m : M2 X o "get" apos e f cpos) : PE X (.Call (.Attribute o "get" apos) [e, f] [] cpos) (tSGet2 X.prog X.w td ty tx) := by
  refine ⟨fun pins s σ H Q I q => ?_⟩
  refine wpAny_Call_method m.base m.few m.line PySem.F.plainAttrs_dict PySem.F.slot_dict_get PySem.F.type_dict_get (thn (ho.run pins s σ H _ I q) fun u s1 ⟨v, H1, I1, rv, d, es, ev, DA, q1⟩ => ?_)
  subst ev
  cases rv
  obtain ⟨t1, t2⟩ := ds_dict I1 DA
  refine ⟨t1, t2, ?_⟩
  rw [m.trees]
  refine Calls.callWith_builtin rfl (Calls.evalArgs_plain (Calls.spliced_cons (thn (he.run pins s1 σ H1 _ I1 q1) fun iv s2 ⟨y, H2, I2, ry, q2⟩ => ?_)))
  refine Calls.spliced_cons (thn (hf.run pins s2 σ H2 _ I2 q2) fun fv s3 ⟨z, H3, I3, rz, p, x, n, es3, ey, ez, DA3, hp, q3⟩ => Calls.spliced_nil ?_)
  subst ey ez
  cases ry
  exact ds_getOr (by omega) I3 DA3 hp rz fun t s4 I4 => ⟨.int _, H3, I4, ⟨t, rfl⟩, q3⟩
end
/-! ### many new objects at once -/
def addAll (H : Hp) : List (Addr × HO) → Hp
  | [] => H
  | z :: zs => addAll (upd H z.1 z.2) zs
theorem addAll_other {a : Addr} : ∀ {zs : List (Addr × HO)} {H : Hp}, (∀ z ∈ zs, z.1 ≠ a) → addAll H zs a = H a
  | [], _, _ => rfl
  | z :: zs, H, h => by
    show addAll (upd H z.1 z.2) zs a = H a
    rw [addAll_other fun y hy => h y (List.mem_cons_of_mem _ hy), upd_ne (Ne.symm (h z List.mem_cons_self))]
theorem addAll_at {a : Addr} {o : HO} : ∀ {zs : List (Addr × HO)} {H : Hp}, (zs.map (·.1)).Nodup → (a, o) ∈ zs → addAll H zs a = some o
  | [], _, _, h => by cases h
  | z :: zs, H, n, h => by
    rw [List.map_cons, List.nodup_cons] at n
    show addAll (upd H z.1 z.2) zs a = some o
    rcases List.mem_cons.mp h with e | e
    · rw [← e, addAll_other fun y hy z' => n.1 (List.mem_map.mpr ⟨y, hy, by rw [z', ← e]⟩), upd_same]
    · exact addAll_at n.2 e
theorem addAll_mem {a : Addr} {o : HO} : ∀ {zs : List (Addr × HO)} {H : Hp}, addAll H zs a = some o → (a, o) ∈ zs ∨ H a = some o
  | [], _, h => .inr h
  | z :: zs, H, h => by
    rcases addAll_mem (zs := zs) (H := upd H z.1 z.2) h with e | e
    · exact .inl (List.mem_cons_of_mem _ e)
    · by_cases ha : a = z.1
      · subst ha
        rw [upd_same] at e
        cases e
        exact .inl List.mem_cons_self
      · rw [upd_ne ha] at e
        exact .inr e
theorem addAll_same {zs : List (Addr × HO)} {H : Hp} (n : ∀ z ∈ zs, H z.1 = none) : Same H (addAll H zs) := fun a o e => (addAll_other fun z hz => (ne_of_none e (n z hz)).symm).trans e
section
variable {X : Cx} {pins : List (Addr × Obj)} {σ : L2.St} {H : Hp} {s : Shared}
theorem Inv.lays {h' : Heap} {t' : Nat} {zs : List (Addr × HO)} (I : Inv X pins σ H s) (k : ∀ b u, s.heap.get? b = some u → h'.get? b = some u) (hp : ∀ z ∈ zs, s.heap.objs.size ≤ z.1)
    (new : ∀ z ∈ zs, ObjOk X.prog X.w (addAll H zs) h' z.1 z.2) : Inv X pins σ (addAll H zs) { s with heap := h', toks := t' } := by
  have hn : ∀ z ∈ zs, H z.1 = none := fun z hz => I.hok.fresh (hp z hz)
  have sm := addAll_same hn
  refine I.call (ch := []) (g' := s.gens) (d' := s.drawn) ⟨fun b u q _ _ _ => k b u q, fun b u q _ _ _ => ⟨u.slots, k b u q⟩, fun b u q n _ => ?_, fun b u q _ => ⟨u, k b u q⟩, fun b xs q => sm _ _ q, fun b u v q => sm _ _ q, fun b ps q => ⟨#[], by rw [sm _ _ q]; simp⟩⟩ (fun b o q => ?_) I.bare (fun _ z => nomatch z)
  · rw [addAll_other fun z hz e => ?_]
    · exact n
    · have y := hp z hz
      rw [e] at y
      exact absurd (Nat.lt_of_lt_of_le (Heap.lt_size q) y) (Nat.lt_irrefl _)
  · rcases addAll_mem q with z | z
    · exact new _ z
    · exact (I.hok b o z).stay (fun c v _ y => k c v y) (fun c y => sm _ _ y) fun c xs y => sm _ _ y
end
/-! ### dicts of sheets: items, keys, values as lists; sorted -/
theorem Paired.getL {α β : Type} {F : α → β → Prop} : ∀ {l₁ : List α} {l₂ : List β}, Paired F l₁ l₂ → ∀ {j : Nat} {a : α}, l₁[j]? = some a → ∃ b, l₂[j]? = some b ∧ F a b
  | _, _, .nil, j, a, h => by simp at h
  | _, _, .cons r t, 0, a, h => by cases h; exact ⟨_, rfl, r⟩
  | _, _, .cons r t, j + 1, a, h => Paired.getL t (j := j) (by simpa using h)
theorem Paired.byIx {α β : Type} {F : α → β → Prop} : ∀ {l₁ : List α} {l₂ : List β}, l₁.length = l₂.length → (∀ (j : Nat) (a : α) (b : β), l₁[j]? = some a → l₂[j]? = some b → F a b) → Paired F l₁ l₂
  | [], [], _, _ => .nil
  | a :: l₁, b :: l₂, h, f => .cons (f 0 a b rfl rfl) (Paired.byIx (by simpa using h) fun j x y h1 h2 => f (j + 1) x y (by simpa using h1) (by simpa using h2))
  | [], _ :: _, h, _ => by simp at h
  | _ :: _, [], h, _ => by simp at h
section
variable {P : Program} {w : World} {es : DEs}
theorem ds_ent {xs : List (NestedKey × Addr × Value)} {en : Array DictEntry} (he : en.toList = xs.map (entryOfKey (nestedKind P w))) (r : Paired DRel es xs) {j : Nat} {e : Sh × Addr × Int} (h : es[j]? = some e) :
    ∃ hs v, en[j]? = some ⟨hs, .ref e.2.1, v⟩ ∧ RelV (.int e.2.2) v := by
  obtain ⟨y, hy, h1, h2, h3⟩ := Paired.getL r h
  refine ⟨(nestedKind P w).hash y.1, y.2.2, ?_, h3⟩
  rw [entry_at he j, hy, ← h2]
  rfl
theorem ds_size {xs : List (NestedKey × Addr × Value)} {en : Array DictEntry} (he : en.toList = xs.map (entryOfKey (nestedKind P w))) (r : Paired DRel es xs) : en.size = es.length := (size_of_entries he).trans (Paired.length r).symm
end
section
variable {X : Cx}
def rItemsDS (P : Program) (w : World) : V → List V → Hp → VK → Prop := fun x xs H Q => ∃ d es, x = .ref d ∧ xs = [] ∧ DAt P w H d es ∧ ∀ p, H p = none → Q (.ref p) (upd H p (DX.itemsO p d))
theorem mt_itemsDS : MtR X "dict.items" (rItemsDS X.prog X.w) := by
  intro pins s σ H x xs v us Q I rx rxs q
  obtain ⟨d, es, rfl, rfl, D, q⟩ := q
  cases rx
  cases rxs
  obtain ⟨hs, _, ys, r, o, en, ep, ho, hx, hdat, _⟩ := (I.hok d _ D.hd).1
  refine DT.callItems (es := en) (ep := ep) hs ⟨o, ho, hx, hdat⟩ ?_
  exact ⟨.ref s.heap.objs.size, upd H s.heap.objs.size (DX.itemsO s.heap.objs.size d), I.laid (t' := s.toks) (fun b u z => Heap.get?_push_of_some _ z) (Nat.le_refl _) (DX.itemsO_ok (Heap.get?_push_size _ rfl)), rfl, q _ (I.hok.fresh (Nat.le_refl _))⟩
/-- rows: a list of tuples of a sheet and its number -/
def RowsAt (H : Hp) (as : List Addr) (es : DEs) : Prop := Paired (fun a (e : Sh × Addr × Int) => H a = some (.tup [.ref e.2.1, .int e.2.2])) as es
theorem RowsAt.mono {H H' : Hp} {as : List Addr} {es : DEs} (h : RowsAt H as es) (k : ∀ p xs, H p = some (.tup xs) → H' p = some (.tup xs)) : RowsAt H' as es := Paired.mapP h fun a e z => k _ _ z
def rListItems (P : Program) (w : World) : List V → Hp → VK → Prop := fun vs H Q => ∃ p d es, vs = [.ref p] ∧ H p = some (DX.itemsO p d) ∧ DAt P w H d es ∧
  ∀ l as H', H l = none → Same H H' → H' l = some (.lst (as.map V.ref)) → RowsAt H' as es → Q (.ref l) H'
theorem call_list_itemsDS (hc : X.calm = true) : CallR X (.type "list") (rListItems X.prog X.w) := by
  intro pins s σ H vs us Q I r q
  obtain ⟨p, d, es, rfl, hp, D, q⟩ := q
  obtain ⟨u, rfl, rx⟩ := r.one
  cases rx
  obtain ⟨hs, hz, ys, rel, o, en, ep, ho, hx, hdat, he, _⟩ := (I.hok d _ D.hd).1
  have view : s.heap.IsItemsView p d := (I.hok p _ hp).1
  have hsz := ds_size he rel
  refine PySem.W.dil_call (es := en) (ep := ep) (I.ok.hd hc) view ⟨o, ho, hx, hdat⟩ (by omega) fun h' tk acc c as hk hS hl hG hacc => ?_
  have hal : as.length = es.length := by omega
  have ab : ∀ a ∈ as, s.heap.objs.size < a := hG.above
  have nd : as.Nodup := hG.rise.imp fun h => Nat.ne_of_lt h
  have hin : ∀ z ∈ (s.heap.objs.size, HO.lst (as.map V.ref)) :: (as.zip es).map (fun z => (z.1, HO.tup [.ref z.2.2.1, .int z.2.2.2])), s.heap.objs.size ≤ z.1 := by
    intro z hz
    rcases List.mem_cons.mp hz with e | e
    · rw [e]
      exact Nat.le_refl _
    · obtain ⟨y, hy, rfl⟩ := List.mem_map.mp e
      exact Nat.le_of_lt (ab _ (List.of_mem_zip hy).1)
  have hm : ((as.zip es).map (fun z : Addr × Sh × Addr × Int => (z.1, HO.tup [.ref z.2.2.1, .int z.2.2.2]))).map (·.1) = as := by
    rw [List.map_map]
    show (as.zip es).map (fun z => z.1) = as
    exact List.map_fst_zip (by omega)
  have hnd : (((s.heap.objs.size, HO.lst (as.map V.ref)) :: (as.zip es).map (fun z => (z.1, HO.tup [.ref z.2.2.1, .int z.2.2.2]))).map (·.1)).Nodup := by
    rw [List.map_cons, hm, List.nodup_cons]
    exact ⟨fun z => Nat.lt_irrefl _ (ab _ z), nd⟩
  have J := Inv.lays (t' := tk) I hk hin fun z hz => by
    rcases List.mem_cons.mp hz with e | e
    · rw [e]
      refine ⟨by rw [List.length_map]; omega, acc.toList, c, ?_, by rw [Array.toArray_toList]; exact hS⟩
      rw [hacc]
      exact vals_refs as
    · obtain ⟨y, hy, rfl⟩ := List.mem_map.mp e
      obtain ⟨j, hj⟩ := List.mem_iff_getElem?.mp hy
      rw [List.getElem?_zip_eq_some] at hj
      obtain ⟨hlt, hpair⟩ := hG.pairs j _ hj.1
      obtain ⟨hsh, v, hv, rv⟩ := ds_ent he rel hj.2
      have e1 : en[j] = ⟨hsh, .ref y.2.2.1, v⟩ := by
        rw [Array.getElem?_eq_getElem hlt] at hv
        exact Option.some.inj hv
      rw [e1] at hpair
      exact ⟨by show 2 ≤ sizeLine; decide, [.ref y.2.2.1, v], .cons rfl (.cons rv .nil), _, hpair, rfl, _, rfl⟩
  have fr := fun z hz => I.hok.fresh (hin z hz)
  refine ⟨.ref s.heap.objs.size, _, J, rfl, q _ as _ (I.hok.fresh (Nat.le_refl _)) (addAll_same fr) (addAll_at hnd List.mem_cons_self) ?_⟩
  refine Paired.byIx hal fun j a e h1 h2 => addAll_at hnd (List.mem_cons_of_mem _ (List.mem_map.mpr ⟨(a, e), ?_, rfl⟩))
  exact List.mem_of_getElem? (List.getElem?_zip_eq_some.mpr ⟨h1, h2⟩)
theorem refs_by {ys : List (NestedKey × Addr × Value)} {en : Array DictEntry} {es : DEs} {acc : Array Value} (he : en.toList = ys.map (entryOfKey (nestedKind X.prog X.w))) (rel : Paired DRel es ys)
    (hl : acc.size = en.size) (hv : ∀ (j : Nat) (v : Value), acc[j]? = some v → ∃ e : DictEntry, en[j]? = some e ∧ v = e.key) : acc.toList = (es.map fun e => e.2.1).map Value.ref := by
  have hs := ds_size he rel
  apply List.ext_getElem?
  intro j
  rw [List.getElem?_map, List.getElem?_map, Array.getElem?_toList]
  cases hj : acc[j]? with
  | none =>
    have : acc.size ≤ j := by simpa using hj
    rw [List.getElem?_eq_none (by omega)]
    rfl
  | some v =>
    obtain ⟨e, h1, rfl⟩ := hv j v hj
    have : j < acc.size := by
      rcases Nat.lt_or_ge j acc.size with z | z
      · exact z
      · rw [Array.getElem?_eq_none z] at hj
        cases hj
    obtain ⟨e2, h2⟩ : ∃ e2, es[j]? = some e2 := ⟨es[j]'(by omega), List.getElem?_eq_getElem (by omega)⟩
    obtain ⟨hsh, v, h3, _⟩ := ds_ent he rel h2
    rw [h1] at h3
    rw [h2, Option.some.inj h3]
    rfl
/-- list(d) -/
def rListKeys (P : Program) (w : World) : List V → Hp → VK → Prop := fun vs H Q => ∃ d es, vs = [.ref d] ∧ DAt P w H d es ∧ ∀ p, H p = none → Q (.ref p) (upd H p (.lst (es.map fun e => V.ref e.2.1)))
theorem call_list_DS (hc : X.calm = true) : CallR X (.type "list") (rListKeys X.prog X.w) := by
  intro pins s σ H vs us Q I r q
  obtain ⟨d, es, rfl, D, q⟩ := q
  obtain ⟨u, rfl, rx⟩ := r.one
  cases rx
  obtain ⟨hs, hz, ys, rel, o, en, ep, ho, hx, hdat, he, _⟩ := (I.hok d _ D.hd).1
  have hsz := ds_size he rel
  refine PySem.W.kdl_call (kdl_raw hs hx hdat) (I.ok.hd hc) ho (by omega) fun h' tk acc c kp e it => ?_
  have ea := refs_by (X := X) he rel it.1 fun j v hv => it.2 j v hv
  refine ⟨.ref s.heap.objs.size, _, I.laid (t' := tk) (o := .lst (es.map fun e => V.ref e.2.1)) kp (Nat.le_refl _) ?_, rfl, q _ (I.hok.fresh (Nat.le_refl _))⟩
  refine ⟨by rw [List.length_map]; exact hz, acc.toList, c, ?_, by rw [Array.toArray_toList]; exact e⟩
  rw [ea, show (es.map fun e => V.ref e.2.1) = (es.map fun e => e.2.1).map V.ref by rw [List.map_map]; rfl]
  exact vals_refs _
end
/-! the order of sheets -/
def encS (x : Sh) : PyData := .tuple [.tuple [.int x.1, .int x.2.1], .tuple [.int x.2.2.1, .int x.2.2.2]]
def ltS (x y : Sh) : Prop := x.1 < y.1 ∨ (x.1 = y.1 ∧ (x.2.1 < y.2.1 ∨ (x.2.1 = y.2.1 ∧ (x.2.2.1 < y.2.2.1 ∨ (x.2.2.1 = y.2.2.1 ∧ x.2.2.2 < y.2.2.2)))))
instance (x y : Sh) : Decidable (ltS x y) := by unfold ltS; infer_instance
def leS (x y : Sh) : Bool := !decide (ltS y x)
theorem lt_encS (x y : Sh) : PySem.W.dataLt (encS x) (encS y) = decide (ltS x y) := by
  unfold encS
  rw [PySem.W.dataLt_pair (by simp [PySem.W.alike, PySem.W.alikeAll]) (by simp [PySem.W.alike, PySem.W.alikeAll]), PySem.W.dataLt_ii, PySem.W.dataLt_ii]
  simp only [PyData.eqv, PyData.eqvAll, Bool.and_true, Bool.and_eq_true, beq_iff_eq]
  obtain ⟨a, b, c, e⟩ := x
  obtain ⟨a', b', c', e'⟩ := y
  dsimp only
  rw [Bool.eq_iff_iff, decide_eq_true_iff]
  unfold ltS
  dsimp only
  by_cases h1 : a = a' ∧ b = b'
  · rw [if_pos h1]
    by_cases h2 : c = c' ∧ e = e'
    · rw [if_pos h2]
      constructor
      · intro z
        cases z
      · omega
    · rw [if_neg h2, decide_eq_true_iff]
      omega
  · rw [if_neg h1, decide_eq_true_iff]
    omega
theorem le_encS {β : Type} (f : β → Sh) : PySem.W.dataLe false (fun b => encS (f b)) = fun a b => leS (f a) (f b) := by
  funext a b
  show (!PySem.W.dataLt (encS (f b)) (encS (f a))) = _
  rw [lt_encS]
  rfl
theorem leS_trans (x y z : Sh) (h1 : leS x y = true) (h2 : leS y z = true) : leS x z = true := by
  unfold leS at *
  simp only [Bool.not_eq_true', decide_eq_false_iff_not] at *
  unfold ltS at *
  omega
theorem leS_total (x y : Sh) : (leS x y || leS y x) = true := by
  unfold leS
  rw [Bool.or_eq_true]
  simp only [Bool.not_eq_true', decide_eq_false_iff_not]
  unfold ltS
  omega
theorem leS_antisymm {x y : Sh} (h1 : leS x y = true) (h2 : leS y x = true) : x = y := by
  unfold leS at *
  simp only [Bool.not_eq_true', decide_eq_false_iff_not] at *
  obtain ⟨a, b, c, e⟩ := x
  obtain ⟨a', b', c', e'⟩ := y
  unfold ltS at *
  dsimp only at *
  have : a = a' ∧ b = b' ∧ c = c' ∧ e = e' := by omega
  obtain ⟨rfl, rfl, rfl, rfl⟩ := this
  rfl
section
variable {X : Cx}
theorem sh_reads {P : Program} {w : World} {H : Hp} {h : Heap} (ok : HOk P w H h) {p : Addr} {x : Sh} (e : ShAt H p x) : Reads h (.ref p) (encS x) [] := by
  have two : ∀ {a : Addr} {y z : Int}, H a = some (.tup [.int y, .int z]) → Reads h (.ref a) (.tuple [.int y, .int z]) [] := by
    intro a y z e
    obtain ⟨_, its, r, o, ho, hc, n, hdat⟩ := ok a _ e
    cases r with
    | cons r1 t =>
      cases t with
      | cons r2 t =>
        cases t
        obtain ⟨t1, rfl⟩ := r1
        obtain ⟨t2, rfl⟩ := r2
        exact Reads.tuple ho hc hdat (.cons (as := []) (bs := []) (.int y t1) (.cons (as := []) (bs := []) (.int z t2) .nil))
  obtain ⟨u, v, h1, h2, h3⟩ := e
  obtain ⟨_, its, r, o, ho, hc, n, hdat⟩ := ok p _ h1
  cases r with
  | cons r1 t =>
    cases t with
    | cons r2 t =>
      cases t
      cases r1
      cases r2
      exact Reads.tuple ho hc hdat (.cons (as := []) (bs := []) (two h2) (.cons (as := []) (bs := []) (two h3) .nil))
theorem each_refs {β : Type} {f : β → Addr} : ∀ {vs : List Value} {bs : List β}, PySem.W.EachIs (fun v b => v = Value.ref (f b)) vs bs → vs = bs.map fun b => Value.ref (f b)
  | _, _, .nil => rfl
  | _, _, .cons h t => by rw [List.map_cons, ← each_refs t, h]
theorem each_of {β : Type} {F : Value → β → Prop} {f : β → Addr} : ∀ {bs : List β}, (∀ b ∈ bs, F (.ref (f b)) b) → PySem.W.EachIs F (bs.map fun b => Value.ref (f b)) bs
  | [], _ => .nil
  | b :: bs, h => .cons (h b List.mem_cons_self) (each_of fun c hc => h c (List.mem_cons_of_mem _ hc))
/-- what sorting gives, behind the gathering of the items -/
theorem sort_tail {pins : List (Addr × Obj)} {σ : L2.St} {H : Hp} {s : Shared} {Q : VK} (hu : X.A.units + 64 < cLine) (I : Inv X pins σ H s) {bs : List (Sh × Addr)} (hz : bs.length ≤ sizeLine) (hk : ∀ b ∈ bs, ShAt H b.2 b.1)
    (q : ∀ p, H p = none → Q (.ref p) (upd H p (.lst ((bs.mergeSort fun a b => leS a.1 b.1).map fun b => V.ref b.2)))) {h' : Heap} {tk : Nat} (hk' : ∀ b u, s.heap.get? b = some u → h'.get? b = some u) :
    wpAny (model X.prog X.w) X.A.in1 (call (.builtin "list.sort") [.ref h'.objs.size]) (fun _ s' => EP X pins σ Q (.ref h'.objs.size) s') X.xe { s with heap := h'.push (PyProof.Rows.seqObj "list" (bs.map fun b => Value.ref b.2).toArray 0), toks := tk } := by
  have I1 : Inv X pins σ H { s with heap := h', toks := tk } := I.kept hk'
  have hoL : (h'.push (PyProof.Rows.seqObj "list" (bs.map fun b => Value.ref b.2).toArray 0)).get? h'.objs.size = some (PyProof.Rows.seqObj "list" (bs.map fun b => Value.ref b.2).toArray 0) := Heap.get?_push_size _ rfl
  refine PySem.W.list_sort_data (enc := fun b : Sh × Addr => encS b.1) (R := fun v b => v = Value.ref b.2) hoL (each_of fun b hb => rfl) (each_of fun b hb => ⟨[], ?_, by simp⟩) (PySem.W.AllAlike.of fun _ _ => by simp [PySem.W.alike, PySem.W.alikeAll, encS]) (PySem.W.Sortable.tuples fun _ => ⟨_, _, rfl⟩) hz (fun b _ => ?_) fun out hlen eo => ?_
  · exact PyProof.Rows.Reads.keeps (fun c u e => Heap.get?_push_of_some _ e) (sh_reads I1.hok (hk b hb))
  · have : (encS b.1).depth = 2 := by simp [encS, PyData.depth, PyData.depthAll]
    show X.A.units + 1 + 1 + _ < cLine
    omega
  · rw [le_encS (fun b : Sh × Addr => b.1)] at eo
    have eo := each_refs eo
    obtain ⟨e', he'⟩ := PyProof.Rows.sortedHeap_at (vs := bs.map fun b => Value.ref b.2) (out := out.toArray) hoL
    refine ⟨.ref h'.objs.size, _, I1.laid (t' := tk) (o := .lst ((bs.mergeSort fun a b => leS a.1 b.1).map fun b => V.ref b.2)) (fun b u e => ?_) (Nat.le_refl _) ⟨?_, out, e', ?_, he'⟩, rfl, q _ (I1.hok.fresh (Nat.le_refl _))⟩
    · have hb : b < h'.objs.size := Heap.lt_size e
      rw [PyProof.Rows.sortedHeap_old (Nat.ne_of_lt hb) (by rw [Heap.size_push]; exact Nat.lt_succ_of_lt hb)]
      exact Heap.get?_push_of_some _ e
    · rw [List.length_map, List.length_mergeSort]
      exact hz
    · rw [eo, show ((bs.mergeSort fun a b => leS a.1 b.1).map fun b => V.ref b.2) = ((bs.mergeSort fun a b => leS a.1 b.1).map (·.2)).map V.ref by rw [List.map_map]; rfl, show ((bs.mergeSort fun a b => leS a.1 b.1).map fun b => Value.ref b.2) = ((bs.mergeSort fun a b => leS a.1 b.1).map (·.2)).map Value.ref by rw [List.map_map]; rfl]
      exact vals_refs _
/-- sorted(d) -/
def rSortedDS (P : Program) (w : World) : List V → Hp → VK → Prop := fun vs H Q => ∃ d es, vs = [.ref d] ∧ DAt P w H d es ∧ ∀ p, H p = none → Q (.ref p) (upd H p (.lst (((es.map fun e => (e.1, e.2.1)).mergeSort fun a b => leS a.1 b.1).map fun b => V.ref b.2)))
theorem cr_sortedDS (hc : X.calm = true) (hu : X.A.units + 64 < cLine) : CallR X (.builtin "sorted") (rSortedDS X.prog X.w) := by
  intro pins s σ H vs us Q I r q
  obtain ⟨d, es, rfl, D, q⟩ := q
  obtain ⟨u, rfl, rx⟩ := r.one
  cases rx
  obtain ⟨hs, hz, ys, rel, o, en, ep, ho, hx, hdat, he, _⟩ := (I.hok d _ D.hd).1
  have hsz := ds_size he rel
  refine Calls.call_function_entry PyProof.Rows.kind_sorted PyProof.Rows.plain_sorted PyProof.Rows.entry_sorted (PyProof.Rows.args_sorted1 _) ?_
  unfold Builtin.«sorted»
  refine wpAny_bind (m := checkCount "sorted" 1 1 _) (wpAny_pure ?_)
  refine wpAny_bind (PySem.W.kdu_collect (A := X.A.in1) (kdl_raw hs hx hdat) (I.ok.hd hc) ho (by omega) fun h' tk acc kp it => ?_)
  have ea := refs_by (X := X) he rel it.1 fun j v hv => it.2 j v hv
  have eb : acc.toList = (es.map fun e => (e.1, e.2.1)).map fun b => Value.ref b.2 := by rw [ea, List.map_map, List.map_map]; rfl
  refine wpAny_bind (wpAny_newList ?_ (by rw [ea, List.length_map, List.length_map]; exact hz))
  rw [eb]
  refine wpAny_bind (wpAny_holding (wpAny_mono (sort_tail hu I (bs := es.map fun e => (e.1, e.2.1)) (by rw [List.length_map]; exact hz) (fun b hb => ?_) q (tk := tk) kp) (fun v s' z => wpAny_pure ⟨_, rfl, z⟩) fun _ _ z => z))
  obtain ⟨e, he2, rfl⟩ := List.mem_map.mp hb
  exact D.ks e he2
end
/-! ### enumerate of an empty tuple; a walk of one kind or another -/
section
variable {X : Cx}
/-- enumerate(v), where iter(v) is told by B -/
theorem enum_new {P : Program} {w : World} {A : Around} {E : Value → Shared → Prop} {s : Shared} {v : Value} {Q : Fin → Shared → Prop} (h : wpAny (model P w) A (pyIter v) (fun it s1 => wpAny (model P w) A (newObj (.type "enumerate") (.fields #[.none, .bool false, it, rawInt 0, .none, .none])) (fun e s2 => Q (.done (.ret e)) s2) E s1) E s) :
    wpAny (model P w) A (Builtin.«enumerate.__new__» ⟨[.type "enumerate", v], []⟩) Q E s := by
  have cls : Builtin.SmallTypes.newClass "enumerate" ⟨[.type "enumerate", v], []⟩ = pure (.type "enumerate", [v]) := by
    simp only [Builtin.SmallTypes.newClass, PySem.sub_enumerate]
    rfl
  unfold Builtin.«enumerate.__new__»
  refine wpAny_bind (wpAny_of_eq cls ?_)
  show wpAny _ _ (Builtin.SmallTypes.calledThroughType (.type "enumerate") >>= _) _ _ _
  refine wpAny_bind (wpAny_bind (wpAny_stack_any fun st => wpAny_pure ?_))
  dsimp only
  split <;> try split
  all_goals
    refine wpAny_bind (wpAny_of_eq (a := (v, none)) rfl ?_)
    refine wpAny_bind (wpAny_mono h (fun it s1 h1 => ?_) fun _ _ z => z)
    exact wpAny_bind (wpAny_mono h1 (fun e s2 h2 => wpAny_pure h2) fun _ _ z => z)
/-- nothing to draw -/
def ItN (K : PySem.W.Frag) (a : Addr) : It where
  go := fun _ _ => False
  yld := fun _ _ _ _ => False
  stop := fun _ H => SqT K H a []
theorem turnN {P : Program} {w : World} {K : PySem.W.Frag} {tg : Expr} {a e it : Addr} (na : a ≠ it) : Turn P w K tg (ItN K a) [e, it] e (fun i h => i = 0 ∧ IsEnum h e it 0 .none ∧ h.IsTupleIter it a 0) where
  mem := List.mem_cons_self
  obj := by
    rintro i h ⟨_, he, oi, h1, _, h3⟩ b hb
    rcases List.mem_cons.mp hb with rfl | hb
    · exact ⟨_, he, fun _ z => nomatch z⟩
    · rw [List.mem_singleton.mp hb]
      exact ⟨oi, h1, fun _ z => by rw [h3] at z; cases z⟩
  keep := fun i h h' st k => ⟨st.1, k e List.mem_cons_self _ st.2.1, st.2.2.at fun o z => k it (List.mem_cons_of_mem _ List.mem_cons_self) o z⟩
  item := fun _ _ _ _ _ _ _ _ _ _ _ _ _ _ go => go.elim
  done := by
    intro Y hP hw hK hc i pins s σ H E I hf st stop
    subst hP hw hK
    obtain ⟨rfl, he, hi⟩ := st
    obtain ⟨its, rv, p, _⟩ := I.tuple stop
    cases rv
    obtain ⟨f0, f1, _, f3, f4, f5⟩ := hf it (List.mem_cons_of_mem _ List.mem_cons_self)
    exact wpAny_pyNext_enum_endD (Draws.tuple (A := Y.A.in1) (I.ok.hd hc) it a na #[]) he ⟨hi, p⟩ fun h' eb => ⟨rfl, I.turned (t' := s.toks) (fun b o hb z => eb b o hb z) f0 f1 f3 f4 f5⟩
  self := fun A i s Q E st q => wpAny_pyIter_enum st.2.1 q
def iEnumN (K : PySem.W.Frag) (ta : TA) : TI := fun σ H R => ta σ H fun vs G => ∃ a, vs = [.ref a] ∧ SqT K G a [] ∧ R (ItN K a) G
theorem pi_enumN {e : Expr} {ta : TA} {p pos : Pos} {tg : Expr} (hg : Gl X "enumerate") (hm : X.mg "enumerate" = none) (ha : PA X [e] ta) (hs : starEach [e] X.env = [(false, eval e X.env)] := by rfl) : PI X tg (.Call (.Name "enumerate" p) [e] [] pos) (iEnumN X.K ta) := by
  refine ⟨fun pins s σ H R I h => Call_ (ld_blt I hg hm boot_enumerate (PyProof.Rows.callWith_type1 (thn (ha.run pos pins s σ H _ I h) ?_) hs rfl))⟩
  rintro us s1 ⟨vs, G, I1, r, a, rfl, sq, q⟩
  obtain ⟨u, rfl, ru⟩ := r.one
  cases ru
  obtain ⟨its, rv, tp, _⟩ := I1.tuple sq
  cases rv
  have la : a < s1.heap.objs.size := let ⟨_, z, _⟩ := tp; Heap.lt_size z
  refine callType_new (S := fun A R s => s.heap.IsTuple a #[] ∧ R (.ok (.ret (.ref (s.heap.objs.size + 1)))) { s with heap := (s.heap.push { cls := .type "tuple_iterator", data := .fields #[.ref a, .int 0 0] }).push { cls := .type "enumerate", data := .fields #[.none, .bool false, .ref s.heap.objs.size, rawInt 0, .none, .none] } })
    F.called_enumerate (by decide) (F.typeCall_enumerate_1 _) (F.newCall_enumerate_1 _) (fun obj => F.args_object_init_2 obj _) F.entry_enumerate_new (.of_wp fun P w A R s z => enum_new (wpAny_pyIter_tuple z.1 (wpAny_newObj_type ⟨_, rfl, ?_⟩))) ⟨tp, ?_⟩
  · have := z.2
    rwa [← Heap.size_push] at this
  have he : IsEnum ((s1.heap.push { cls := .type "tuple_iterator", data := .fields #[.ref a, .int 0 0] }).push { cls := .type "enumerate", data := .fields #[.none, .bool false, .ref s1.heap.objs.size, rawInt 0, .none, .none] }) (s1.heap.objs.size + 1) s1.heap.objs.size 0 .none := by
    have z := Heap.get?_push_size (s1.heap.push { cls := .type "tuple_iterator", data := .fields #[.ref a, .int 0 0] }) (o := { cls := .type "enumerate", data := .fields #[.none, .bool false, .ref s1.heap.objs.size, rawInt 0, .none, .none] }) rfl
    rwa [Heap.size_push] at z
  refine ⟨⟨_, he, rfl⟩, wpAny_pyIter_enum he ⟨s1.heap.objs.size + 1, [s1.heap.objs.size + 1, s1.heap.objs.size], _, _, G, rfl, I1.kept (t' := s1.toks) fun b o z => Heap.get?_push_of_some _ (Heap.get?_push_of_some _ z), turnN (Nat.ne_of_lt la), ⟨rfl, he, _, Heap.get?_push_of_some _ (Heap.get?_push_size _ rfl), rfl, rfl⟩, fun b hb => ?_, q⟩⟩
  have le : s1.heap.objs.size ≤ b := by
    rcases List.mem_cons.mp hb with rfl | hb
    · exact Nat.le_succ _
    · rw [List.mem_singleton.mp hb]
      exact Nat.le_refl _
  exact I1.fpOk le (I1.hok.fresh le)
theorem PI.or {tg e : Expr} {a b : TI} (h1 : PI X tg e a) (h2 : PI X tg e b) : PI X tg e (fun σ H R => a σ H R ∨ b σ H R) := ⟨fun pins s σ H R I h => h.elim (h1.run pins s σ H R I) (h2.run pins s σ H R I)⟩
end
/-! ### enumerate of a tuple -/
def ItU (K : PySem.W.Frag) (a : Addr) : It where
  go := fun i H => ∃ (xs : List V) (x : V), SqT K H a xs ∧ xs[i]? = some x
  yld := fun i H v H' => ∃ T x, v = .ref T ∧ H T = none ∧ H' = upd H T (.tup [.int (i : Nat), x]) ∧ ∀ xs, SqT K H a xs → xs[i]? = some x
  stop := fun i H => ∃ xs : List V, SqT K H a xs ∧ xs.length = i
section
variable {X : Cx}
theorem turnU {P : Program} {w : World} {K : PySem.W.Frag} {elts : List Expr} {kk : Nat} {tpos : Pos} {a e it : Addr} (ne : e ≠ it) (na : a ≠ it) (nb : a ≠ e) : Turn P w K (.Tuple elts kk tpos) (ItU K a) [e, it] e (fun i h => (∃ old, IsEnum h e it ((i : Nat) : Int) old) ∧ h.IsTupleIter it a i) where
  mem := List.mem_cons_self
  obj := by
    rintro i h ⟨⟨old, he⟩, oi, h1, _, h3⟩ b hb
    rcases List.mem_cons.mp hb with rfl | hb
    · exact ⟨_, he, fun _ z => nomatch z⟩
    · rw [List.mem_singleton.mp hb]
      exact ⟨oi, h1, fun _ z => by rw [h3] at z; cases z⟩
  keep := by
    rintro i h h' ⟨⟨old, he⟩, hi⟩ k
    exact ⟨⟨old, k e List.mem_cons_self _ he⟩, hi.at fun o z => k it (List.mem_cons_of_mem _ List.mem_cons_self) o z⟩
  self := by
    rintro A i s Q E ⟨⟨old, he⟩, _⟩ q
    exact wpAny_pyIter_enum he q
  item := by
    intro Y hP hw hK hc i pins s σ H E I hf st go
    subst hP hw hK
    obtain ⟨⟨old, he⟩, hi⟩ := st
    obtain ⟨xs, x, sq, hx⟩ := go
    obtain ⟨its, rv, tp, _⟩ := I.tuple sq
    obtain ⟨u, hu, ru⟩ := rv.get hx
    have lt : i < its.toArray.size := by
      rw [List.size_toArray]
      exact (List.getElem?_eq_some_iff.mp hu).1
    refine wpAny_pyNext_enum_itemD (Draws.tuple (A := Y.A.in1) (I.ok.hd hc) it a na its.toArray) he ⟨hi, tp⟩ lt ne (by simp [ne, nb.symm]) ?_
    intro y h' tk hy out st' hT hsz hk
    obtain rfl : u = y := by
      have : its.toArray[i]? = some u := by simpa using hu
      exact Option.some.inj (this.symm.trans hy)
    refine ⟨_, rfl, wpAny_letOwnedTupleGo_enum (s := { s with heap := h', toks := tk + 1 }) out ?_⟩
    intro h2 he2 sb
    have low : e < s.heap.objs.size := Heap.lt_size he
    have tup2 : h2.get? s.heap.objs.size = some { cls := .type "tuple", data := .seq #[.int i tk, u] } := (sb.2 _ (Nat.ne_of_gt low)).trans hT
    have new : ObjOk Y.prog Y.w (upd H s.heap.objs.size (.tup [.int (i : Nat), x])) h2 s.heap.objs.size (.tup [.int (i : Nat), x]) := ⟨by show 2 ≤ sizeLine; decide, _, .cons ⟨_, rfl⟩ (.cons ru .nil), ⟨_, tup2, rfl, _, rfl⟩⟩
    have stay : ∀ b ob, b ∉ [e, it] → s.heap.get? b = some ob → h2.get? b = some ob := by
      intro b ob hb z
      rw [List.mem_cons, List.mem_singleton, not_or] at hb
      exact (sb.2 b hb.1).trans (hk b ob hb.1 hb.2 z)
    refine ⟨.ref s.heap.objs.size, _, I.turnedNew stay hf (Nat.le_refl _) new, rfl, ⟨_, x, rfl, I.hok.fresh (Nat.le_refl _), rfl, fun ys hys => by rw [I.tuple_inj hys sq]; exact hx⟩, ⟨⟨u, ?_⟩, st'.1.at fun o z => (sb.2 it ne.symm).trans z⟩, fun b hb => ?_⟩
    · rw [Int.natCast_add]
      exact he2
    · have lb : b < s.heap.objs.size := by
        rcases List.mem_cons.mp hb with rfl | hb
        · exact low
        · rw [List.mem_singleton.mp hb]
          obtain ⟨_, z, _⟩ := hi
          exact Heap.lt_size z
      rw [upd_ne (Nat.ne_of_lt lb)]
      exact (hf b hb).1
  done := by
    intro Y hP hw hK hc i pins s σ H E I hf st stop
    subst hP hw hK
    obtain ⟨⟨old, he⟩, hi⟩ := st
    obtain ⟨xs, sq, hx⟩ := stop
    obtain ⟨its, rv, tp, _⟩ := I.tuple sq
    obtain ⟨f0, f1, _, f3, f4, f5⟩ := hf it (List.mem_cons_of_mem _ List.mem_cons_self)
    have here : i = its.toArray.size := by
      rw [List.size_toArray, ← rv.length]
      exact hx.symm
    refine wpAny_pyNext_enum_endD (Draws.tuple (A := Y.A.in1) (I.ok.hd hc) it a na its.toArray) he ⟨by rw [← here]; exact hi, tp⟩ fun h' eb => ⟨rfl, ?_⟩
    exact I.turned (t' := s.toks) (fun b o hb z => eb b o hb z) f0 f1 f3 f4 f5
def iEnumT (K : PySem.W.Frag) (ta : TA) : TI := fun σ H R => ta σ H fun vs G => ∃ a xs, vs = [.ref a] ∧ SqT K G a xs ∧ R (ItU K a) G
theorem pi_enumT {e : Expr} {ta : TA} {p pos tpos : Pos} {elts : List Expr} {kk : Nat} (hg : Gl X "enumerate") (hm : X.mg "enumerate" = none) (ha : PA X [e] ta) (hs : starEach [e] X.env = [(false, eval e X.env)] := by rfl) : PI X (.Tuple elts kk tpos) (.Call (.Name "enumerate" p) [e] [] pos) (iEnumT X.K ta) := by
  refine ⟨fun pins s σ H R I h => Call_ (ld_blt I hg hm boot_enumerate (PyProof.Rows.callWith_type1 (thn (ha.run pos pins s σ H _ I h) ?_) hs rfl))⟩
  rintro us s1 ⟨vs, G, I1, r, a, xs, rfl, sq, q⟩
  obtain ⟨u, rfl, ru⟩ := r.one
  cases ru
  obtain ⟨its, rv, tp, _⟩ := I1.tuple sq
  have la : a < s1.heap.objs.size := let ⟨_, z, _⟩ := tp; Heap.lt_size z
  have tp' : s1.heap.IsTuple a its.toArray := tp
  refine callType_new (S := fun A R s => s.heap.IsTuple a its.toArray ∧ R (.ok (.ret (.ref (s.heap.objs.size + 1)))) { s with heap := (s.heap.push { cls := .type "tuple_iterator", data := .fields #[.ref a, .int 0 0] }).push { cls := .type "enumerate", data := .fields #[.none, .bool false, .ref s.heap.objs.size, rawInt 0, .none, .none] } })
    F.called_enumerate (by decide) (F.typeCall_enumerate_1 _) (F.newCall_enumerate_1 _) (fun obj => F.args_object_init_2 obj _) F.entry_enumerate_new (.of_wp fun P w A R s z => enum_new (wpAny_pyIter_tuple z.1 (wpAny_newObj_type ⟨_, rfl, ?_⟩))) ⟨tp', ?_⟩
  · have := z.2
    rwa [← Heap.size_push] at this
  have he : IsEnum ((s1.heap.push { cls := .type "tuple_iterator", data := .fields #[.ref a, .int 0 0] }).push { cls := .type "enumerate", data := .fields #[.none, .bool false, .ref s1.heap.objs.size, rawInt 0, .none, .none] }) (s1.heap.objs.size + 1) s1.heap.objs.size ((0 : Nat) : Int) .none := by
    have z := Heap.get?_push_size (s1.heap.push { cls := .type "tuple_iterator", data := .fields #[.ref a, .int 0 0] }) (o := { cls := .type "enumerate", data := .fields #[.none, .bool false, .ref s1.heap.objs.size, rawInt 0, .none, .none] }) rfl
    rwa [Heap.size_push] at z
  have hit : ((s1.heap.push { cls := .type "tuple_iterator", data := .fields #[.ref a, .int 0 0] }).push { cls := .type "enumerate", data := .fields #[.none, .bool false, .ref s1.heap.objs.size, rawInt 0, .none, .none] }).IsTupleIter s1.heap.objs.size a 0 := ⟨_, Heap.get?_push_of_some _ (Heap.get?_push_size _ rfl), rfl, rfl⟩
  refine ⟨⟨_, he, rfl⟩, wpAny_pyIter_enum he ⟨s1.heap.objs.size + 1, [s1.heap.objs.size + 1, s1.heap.objs.size], _, _, G, rfl, I1.kept (t' := s1.toks) fun b o z => Heap.get?_push_of_some _ (Heap.get?_push_of_some _ z), turnU (Nat.succ_ne_self _) (Nat.ne_of_lt la) (Nat.ne_of_lt (Nat.lt_succ_of_lt la)), ⟨⟨.none, he⟩, hit⟩, fun b hb => ?_, q⟩⟩
  have le : s1.heap.objs.size ≤ b := by
    rcases List.mem_cons.mp hb with rfl | hb
    · exact Nat.le_succ _
    · rw [List.mem_singleton.mp hb]
      exact Nat.le_refl _
  exact I1.fpOk le (I1.hok.fresh le)
end
/-- a for over it, where the tuple stays -/
theorem for_enumT {K : PySem.W.Frag} {a : Addr} {xs : List V} {g : TG} {tb : TS} {D : Ends} {σ : L2.St} {H : Hp} (Pv : Nat → L2.St → Hp → Prop) (h0 : Pv 0 σ H) (hl : ∀ i τ G, i ≤ xs.length → Pv i τ G → SqT K G a xs)
    (turn : ∀ i x τ G T, xs[i]? = some x → Pv i τ G → G T = none → g (.ref T) τ (upd G T (.tup [.int (i : Nat), x])) fun τ2 G2 => tb { D with nx := Pv (i + 1), ct := Pv (i + 1), bk := D.nx } τ2 G2) (fin : ∀ τ G, Pv xs.length τ G → D.nx τ G) :
    ∃ W : Nat → Nat → L2.St → Hp → Prop, (∃ m, W 0 m σ H) ∧ ∀ i m τ G, W i m τ G → ((ItU K a).stop i G ∧ D.nx τ G) ∨ ((ItU K a).go i G ∧ ∃ N : L2.St → Hp → Prop, (∀ τ' G', N τ' G' → ∃ m', m' < m ∧ W (i + 1) m' τ' G') ∧
      ∀ x G', (ItU K a).yld i G x G' → g x τ G' fun τ2 G2 => tb { D with nx := N, ct := N, bk := D.nx } τ2 G2) := by
  refine ⟨fun i m τ G => i + m = xs.length ∧ Pv i τ G, ⟨xs.length, Nat.zero_add _, h0⟩, ?_⟩
  rintro i m τ G ⟨hm, pv⟩
  have sq := hl i τ G (by omega) pv
  rcases Nat.eq_zero_or_pos m with rfl | hp
  · obtain rfl : i = xs.length := hm
    exact .inl ⟨⟨xs, sq, rfl⟩, fin τ G pv⟩
  · have lt : i < xs.length := by omega
    refine .inr ⟨⟨xs, xs[i], sq, List.getElem?_eq_getElem lt⟩, Pv (i + 1), fun τ' G' z => ⟨m - 1, by omega, by omega, z⟩, ?_⟩
    rintro x G' ⟨T, y, rfl, hT, rfl, at_⟩
    exact turn i y τ G T (at_ xs sq) pv hT
/-- a for over enumerate of a list that stays -/
theorem for_enumL {K : PySem.W.Frag} {a : Addr} {xs : List V} {g : TG} {tb : TS} {D : Ends} {σ : L2.St} {H : Hp} (Pv : Nat → L2.St → Hp → Prop) (h0 : Pv 0 σ H) (hl : ∀ i τ G, i ≤ xs.length → Pv i τ G → SqL K G a xs)
    (turn : ∀ i x τ G T, xs[i]? = some x → Pv i τ G → G T = none → g (.ref T) τ (upd G T (.tup [.int (i : Nat), x])) fun τ2 G2 => tb { D with nx := Pv (i + 1), ct := Pv (i + 1), bk := D.nx } τ2 G2) (fin : ∀ τ G, Pv xs.length τ G → D.nx τ G) :
    ∃ W : Nat → Nat → L2.St → Hp → Prop, (∃ m, W 0 m σ H) ∧ ∀ i m τ G, W i m τ G → ((Ite K a).stop i G ∧ D.nx τ G) ∨ ((Ite K a).go i G ∧ ∃ N : L2.St → Hp → Prop, (∀ τ' G', N τ' G' → ∃ m', m' < m ∧ W (i + 1) m' τ' G') ∧
      ∀ x G', (Ite K a).yld i G x G' → g x τ G' fun τ2 G2 => tb { D with nx := N, ct := N, bk := D.nx } τ2 G2) := by
  refine ⟨fun i m τ G => m + i = xs.length ∧ Pv i τ G, ⟨xs.length, rfl, h0⟩, ?_⟩
  rintro i m τ G ⟨hm, pv⟩
  have sq := hl i τ G (by omega) pv
  cases m with
  | zero =>
    obtain rfl : i = xs.length := by omega
    exact .inl ⟨⟨xs, sq, Nat.le_refl _⟩, fin τ G pv⟩
  | succ m =>
    refine .inr ⟨⟨xs, xs[i], sq, List.getElem?_eq_getElem (by omega)⟩, Pv (i + 1), fun τ' G' z => ⟨m, Nat.lt_succ_self m, by omega, z⟩, ?_⟩
    rintro x G' ⟨T, y, rfl, hT, rfl, at_⟩
    exact turn i y τ G T (at_ xs sq) pv hT
/-! ### the law's own draws -/
section
variable {base : Heap} {K : PySem.W.Frag} {mg : Str → Option Value} {P : Program} {w : World}
def spPull : Sp := fun vs H Q _ => ∃ (b sb : Addr) (n : Int), vs = [.ref b, .int n] ∧ Bag H b sb ∧ 0 < n ∧ n.natAbs < 2 ^ 100 ∧ ∀ z H', 0 ≤ z → z < n → Bag H' b sb → Keep b H H' → Q (.int z) H'
theorem ok_pull (T : Txt K mg) : FnOk P w K mg base CX0 1 T.f_pull T.d_pull ["_law_bag", "_law_size"] spPull := by
  refine T.F_pull.ok sc_pull (fun vs H Q E h => ?_) (fun cdv A outer s H vs Q E hr h => ?_)
  · obtain ⟨b, sb, n, rfl, _⟩ := h
    rfl
  · obtain ⟨b, s1, n, rfl, ⟨ns, i, j, m, c, B⟩, h0, h1, q⟩ := h
    refine ⟨_, (pss_cons (ps_asg (pe_op op_add (pe_ix ix_list (pv 0) pe_int (fun _ _ => rfl)) pe_int) (pg_sub (pv 0) pe_int set_list))
      (Evl.pss_cut (ps_if (PW.pt (pw_and (pt_cmpR op_eq (pe_ix ix_list (pv 0) pe_int (fun _ _ => rfl)) pe_int (nomark _)) (pw_and1 (pt_cmpR op_lt (pe_ix ix_list (pv 0) pe_int (fun _ _ => rfl)) (pe_callB call_len_seq (by rfl) T.n_len (by decide +kernel) (pa_cons (pe_ix ix_list (pv 0) pe_int (fun _ _ => rfl)) pa_nil)) (nomark _))))) (pss_cons (ps_set (i := 3) sc_pull.nd rfl (Or.inl rfl) (pe_ix ix_list (pe_ix ix_list (pv 0) pe_int (fun _ _ => rfl)) (pe_ix ix_list (pv 0) pe_int (fun _ _ => rfl)) (fun _ _ => rfl)))
      (pss_cons (ps_asg (pe_op op_add (pe_ix ix_list (pv 0) pe_int (fun _ _ => rfl)) pe_int) (pg_sub (pv 0) pe_int set_list))
      (pss_one (ps_if (pt_cmpR op_ge (pv 3) (pe_op op_pow pe_int pe_int) (nomark _)) (pss_one (ps_asg (pv 3) (pg_sub (pv 0) pe_int set_list))) (pss_cons (ps_set (i := 2) sc_pull.nd rfl (Or.inl rfl) (pe_op op_add (pe_op op_mul (pe_ix ix_list (pv 0) pe_int (fun _ _ => rfl)) pe_int) (pe_op op_mul (pe_op op_mod (pv 3) pe_int) pe_int)))
      (pss_one (ps_asg (pe_op op_mod (pe_op op_add (pv 2) pe_int) pe_int) (pg_sub (pv 0) pe_int set_list)))))))) pss_nil)
      (pss_cons (ps_if (pt_cmpR op_gt (pe_ix ix_list (pv 0) pe_int (fun _ _ => rfl)) pe_int (nomark _)) (pss_cons (ps_set (i := 4) sc_pull.nd rfl (Or.inl rfl) (pe_op op_mod (pe_ix ix_list (pv 0) pe_int (fun _ _ => rfl)) (pv 1)))
      (pss_cons (ps_asg (pe_op op_fdivW (pe_ix ix_list (pv 0) pe_int (fun _ _ => rfl)) (pv 1)) (pg_sub (pv 0) pe_int set_list))
      (pss_one (ps_ret (pv 4))))) pss_nil)
      (pss_cons (ps_set (i := 2) sc_pull.nd rfl (Or.inl rfl) (pe_op op_add (pe_op op_mul (pe_op op_mul (pe_ix ix_list (pv 0) pe_int (fun _ _ => rfl)) (pe_ix ix_list (pv 0) pe_int (fun _ _ => rfl))) pe_int) (pe_op op_mul (pe_ix ix_list (pv 0) pe_int (fun _ _ => rfl)) pe_int)))
      (pss_cons (ps_asg (pe_op op_mod (pe_op op_add (pv 2) (pe_op op_mul pe_int (pe_ix ix_list (pv 0) pe_int (fun _ _ => rfl)))) pe_int) (pg_sub (pv 0) pe_int set_list))
      (pss_one (ps_ret (pe_op op_mod (pe_op op_fdiv (pe_ix ix_list (pv 0) pe_int (fun _ _ => rfl)) pe_int) (pv 1))))))))), ?_⟩
    -- the count of the draws
    have B1 := B.put (j' := j) (c' := c + 1) B.i0 B.i1 B.m0 B.m1
    refine ⟨.ref b, rfl, b, _, 4, .int c, rfl, rfl, SqL.of B.hb, atI_nat (j := 4) rfl, c, 1, rfl, rfl, .ref b, rfl, b, _, 4, 4, rfl, rfl, B.hb, rfl, ?_⟩
    refine ⟨fun σ H' => ∃ y2 y3 y4, σ = [some (.ref b), some (.int n), y2, y3, y4] ∧ Bag H' b s1 ∧ Keep b H H', ?_, ?_⟩
    · -- the next cell of the script
      refine ⟨.ref b, rfl, b, _, 2, .int j, rfl, rfl, SqL.of B1.hb, atI_nat (j := 2) rfl, rfl, _, rfl, ite2 (fun e => ?_) (fun e => ?_)⟩
      · refine ⟨.ref b, rfl, b, _, 1, .int i, rfl, rfl, SqL.of B1.hb, atI_nat (j := 1) rfl, .ref b, rfl, b, _, 0, .ref s1, rfl, rfl, SqL.of B1.hb, atI_nat (j := 0) rfl, s1, _, rfl, .inl (SqL.of B1.hs), i, _, rfl, rfl, _, rfl, ite2 (fun e2 => ?_) (fun e2 => ?_)⟩
        · have e3 : i < (ns.length : Int) := by
            have := of_decide_eq_true e2
            rw [List.length_map] at this
            exact this
          obtain ⟨z, hz⟩ := at_ex B.i0 e3
          have B2 := B1.put (j' := j) (c' := c + 1) (show 0 ≤ i + 1 by have := B.i0; omega) (show i + 1 ≤ (ns.length : Int) by omega) B.m0 B.m1
          refine ⟨.ref b, rfl, b, _, 0, .ref s1, rfl, rfl, SqL.of B1.hb, atI_nat (j := 0) rfl, .ref b, rfl, b, _, 1, .int i, rfl, rfl, SqL.of B1.hb, atI_nat (j := 1) rfl, s1, _, i, _, rfl, rfl, SqL.of B1.hs, hz, ?_⟩
          refine ⟨.ref b, rfl, b, _, 1, .int i, rfl, rfl, SqL.of B1.hb, atI_nat (j := 1) rfl, i, 1, rfl, rfl, .ref b, rfl, b, _, 1, 1, rfl, rfl, B1.hb, rfl, ?_⟩
          refine ⟨_, rfl, 10, 18, rfl, rfl, ⟨by decide, by decide, by decide⟩, z, _, rfl, rfl, _, rfl, ite2 (fun e4 => ?_) (fun e4 => ?_)⟩
          · have B3 := B2.put (j' := z) (c' := c + 1) (show 0 ≤ i + 1 by have := B.i0; omega) (show i + 1 ≤ (ns.length : Int) by omega) B.m0 B.m1
            refine ⟨_, rfl, .ref b, rfl, b, _, 2, 2, rfl, rfl, B2.hb, rfl, ?_⟩
            exact ⟨_, _, _, rfl, ⟨ns, _, _, _, _, B3⟩, keep_put.trans (keep_put.trans keep_put)⟩
          · refine ⟨.ref b, rfl, b, _, 3, .int m, rfl, rfl, SqL.of B2.hb, atI_nat (j := 3) rfl, m, 40014, rfl, rfl, .inr ⟨by decide, by decide⟩, _, rfl, z, 2147483399, rfl, rfl, (by show (0 : Int) < 2147483399; decide), _, 69069, rfl, rfl, .inr ⟨by decide, by decide⟩, _, _, rfl, rfl, ?_⟩
            refine ⟨_, rfl, _, 11, rfl, rfl, _, 2147483399, rfl, rfl, (by show (0 : Int) < 2147483399; decide), .ref b, rfl, b, _, 3, 3, rfl, rfl, B2.hb, rfl, ?_⟩
            have B3 := B2.put (j' := j) (m' := (m * 40014 + z % 2147483399 * 69069 + 11) % 2147483399) (c' := c + 1) (show 0 ≤ i + 1 by have := B.i0; omega) (show i + 1 ≤ (ns.length : Int) by omega) (by omega) (by omega)
            exact ⟨_, _, _, rfl, ⟨ns, _, _, _, _, B3⟩, keep_put.trans (keep_put.trans keep_put)⟩
        · exact ⟨_, _, _, rfl, ⟨ns, _, _, _, _, B1⟩, keep_put⟩
      · exact ⟨_, _, _, rfl, ⟨ns, _, _, _, _, B1⟩, keep_put⟩
    · rintro σ H' ⟨y2, y3, y4, rfl, ⟨ns2, i2, j2, m2, c2, B2⟩, k2⟩
      refine ⟨.ref b, rfl, b, _, 2, .int j2, rfl, rfl, SqL.of B2.hb, atI_nat (j := 2) rfl, j2, 0, rfl, rfl, _, rfl, ite2 (fun e => ?_) (fun e => ?_)⟩
      · have B3 := B2.put (j' := j2 / n) (c' := c2) B2.i0 B2.i1 B2.m0 B2.m1
        refine ⟨.ref b, rfl, b, _, 2, .int j2, rfl, rfl, SqL.of B2.hb, atI_nat (j := 2) rfl, .int n, rfl, j2, n, rfl, rfl, h0, ?_⟩
        refine ⟨.ref b, rfl, b, _, 2, .int j2, rfl, rfl, SqL.of B2.hb, atI_nat (j := 2) rfl, .int n, rfl, j2, n, rfl, rfl, wide_div h0 h1 (by decide) (by decide), .ref b, rfl, b, _, 2, 2, rfl, rfl, B2.hb, rfl, ?_⟩
        exact ⟨_, rfl, q _ _ (Int.emod_nonneg _ (by omega)) (Int.emod_lt_of_pos _ h0) ⟨ns2, _, _, _, _, B3⟩ (k2.trans keep_put)⟩
      · have hm : -(2 ^ 64) < m2 ∧ m2 < 2 ^ 64 := ⟨by have := B2.m0; omega, by have := B2.m1; omega⟩
        refine ⟨.ref b, rfl, b, _, 3, .int m2, rfl, rfl, SqL.of B2.hb, atI_nat (j := 3) rfl, .ref b, rfl, b, _, 3, .int m2, rfl, rfl, SqL.of B2.hb, atI_nat (j := 3) rfl, m2, m2, rfl, rfl, .inl hm, _, 7, rfl, rfl, .inr ⟨by decide, by decide⟩,
          .ref b, rfl, b, _, 3, .int m2, rfl, rfl, SqL.of B2.hb, atI_nat (j := 3) rfl, m2, 40692, rfl, rfl, .inr ⟨by decide, by decide⟩, _, _, rfl, rfl, ?_⟩
        refine ⟨_, rfl, .ref b, rfl, b, _, 4, .int c2, rfl, rfl, SqL.of B2.hb, atI_nat (j := 4) rfl, 1013904223, c2, rfl, rfl, .inl ⟨by decide, by decide⟩, _, _, rfl, rfl, _, 2147483399, rfl, rfl, (by show (0 : Int) < 2147483399; decide), .ref b, rfl, b, _, 3, 3, rfl, rfl, B2.hb, rfl, ?_⟩
        have B3 := B2.put (j' := j2) (m' := (m2 * m2 * 7 + m2 * 40692 + 1013904223 * c2) % 2147483399) (c' := c2) B2.i0 B2.i1 (Int.emod_nonneg _ (by decide)) (Int.emod_lt_of_pos _ (by decide))
        refine ⟨.ref b, rfl, b, _, 3, _, rfl, rfl, SqL.of B3.hb, atI_nat (j := 3) rfl, _, 37, rfl, rfl, ⟨by decide, by decide⟩, .int n, rfl, _, n, rfl, rfl, h0, ?_⟩
        exact q _ _ (Int.emod_nonneg _ (by omega)) (Int.emod_lt_of_pos _ h0) ⟨ns2, _, _, _, _, B3⟩ (k2.trans keep_put)
def spOf : Sp := fun vs H Q _ => ∃ (b sb l : Addr) (xs : List V), vs = [.ref b, .ref l] ∧ Bag H b sb ∧ H l = some (.lst xs) ∧ l ≠ b ∧ 0 < xs.length ∧ xs.length ≤ 1000 ∧ ∀ (i : Nat) (v : V) (H' : Hp), xs[i]? = some v → Bag H' b sb → Keep b H H' → Q v H'
theorem ok_of (T : Txt K mg) : FnOk P w K mg base CX0 2 T.f_of T.d_of ["_law_bag", "_law_some"] spOf := by
  refine T.F_of.ok sc_of (fun vs H Q E h => ?_) (fun cdv A outer s H vs Q E hr h => ?_)
  · obtain ⟨b, sb, l, xs, rfl, _⟩ := h
    rfl
  · obtain ⟨b, sb, l, xs, rfl, B, hl, nl, h0, h1, q⟩ := h
    refine ⟨_, (pss_one (ps_ret (pe_ix ix_list (pv 1) (pe_call (ok_pull T) (hr.mono (by decide)) (by rfl) T.g_pull T.F_pull.kp T.b_pull .nil pass0 (pa_cons (pv 0) (pa_cons (pe_callB call_len_seq (by rfl) T.n_len (by decide +kernel) (pa_cons (pv 1) pa_nil)) pa_nil))) (fun _ _ => rfl)))), ?_⟩
    have hn : ((xs.length : Int)).natAbs < 2 ^ 100 := Nat.lt_of_le_of_lt (show (xs.length : Int).natAbs ≤ 1000 by omega) (by decide)
    refine ⟨.ref l, rfl, .ref b, rfl, .ref l, rfl, l, xs, rfl, .inl (SqL.of hl), b, sb, _, rfl, B, (by show (0 : Int) < (xs.length : Int); omega), hn, fun z H' z0 z1 B' k' => ?_⟩
    obtain ⟨v, e1, e2⟩ := at_some z0 z1
    exact ⟨l, xs, z, v, rfl, rfl, k'.list nl hl, e2, q _ _ _ e1 B' k'⟩
end
section
variable {base : Heap} {K : PySem.W.Frag} {mg : Str → Option Value} {P : Program} {w : World}
def okR (x : Int) : Bool := !inV (.int x) [.int 4, .int 9, .int 16, .int 25, .int 36, .int 49, .int 64, .int 81]
def rootsTo : Nat → List Int
  | 0 => []
  | n + 1 => if okR (2 + (n : Int)) = true then rootsTo n ++ [2 + (n : Int)] else rootsTo n
theorem rootsTo_len : ∀ n, (rootsTo n).length ≤ n
  | 0 => Nat.le_refl _
  | n + 1 => by
    have := rootsTo_len n
    unfold rootsTo
    split
    · rw [List.length_append]
      simp
      omega
    · omega
def IsRoot (d : Int) : Prop := 2 ≤ d ∧ d ≤ 99 ∧ ∃ k : Int, 0 ≤ k ∧ k * k < d ∧ d < (k + 1) * (k + 1)
def kOf (d : Int) : Int := if d < 4 then 1 else if d < 9 then 2 else if d < 16 then 3 else if d < 25 then 4 else if d < 36 then 5 else if d < 49 then 6 else if d < 64 then 7 else if d < 81 then 8 else 9
theorem roots_are {d : Int} (h : d ∈ rootsTo 98) : IsRoot d := by
  have z : ∀ d ∈ rootsTo 98, 2 ≤ d ∧ d ≤ 99 ∧ 0 ≤ kOf d ∧ kOf d * kOf d < d ∧ d < (kOf d + 1) * (kOf d + 1) := by decide +kernel
  obtain ⟨a, b, c⟩ := z d h
  exact ⟨a, b, kOf d, c⟩
theorem isRoot_by {d : Int} (h : 2 ≤ d ∧ d ≤ 99 ∧ 0 ≤ kOf d ∧ kOf d * kOf d < d ∧ d < (kOf d + 1) * (kOf d + 1)) : IsRoot d := ⟨h.1, h.2.1, kOf d, h.2.2⟩
def spRoots : Sp := fun vs H Q _ => vs = [] ∧ ∀ p H', H p = none → Same H H' → H' p = some (.lst ((rootsTo 98).map V.int)) → Q (.ref p) H'
theorem ok_roots (T : Txt K mg) : FnOk P w K mg base CX0 1 T.f_roots T.d_roots [] spRoots := by
  refine T.F_roots.ok sc_roots (fun vs H Q E h => ?_) (fun cdv A outer s H vs Q E hr h => ?_)
  · obtain ⟨rfl, _⟩ := h
    rfl
  · obtain ⟨rfl, q⟩ := h
    refine ⟨_, (pss_one (ps_ret (pe_lc (own := [("_law_d", 0)]) (g := (gName 0)) (tt := tTest (tOp (rIn K true) _ _)) (by rfl) sc_roots.nd (pi_range2 (by rfl) T.n_range (pa_cons pe_int (pa_cons pe_int pa_nil))) (blkOk_by (own := [("_law_d", 0)]) (N := ["_law_d"]) (sc := defScope s_roots) (by decide +kernel)) (fun _ _ _ _ _ => (pg_name (i := 0) sc_roots.nd rfl (Or.inl rfl))) (fun _ _ _ _ _ => (pts_one (pt_cmpR op_notIn_seq (pv 0) (pe_tup (pa_cons pe_int (pa_cons pe_int (pa_cons pe_int (pa_cons pe_int (pa_cons pe_int (pa_cons pe_int (pa_cons pe_int (pa_cons pe_int pa_nil))))))))) (by rfl)))) (fun _ _ _ _ _ => (pv 0))))), ?_⟩
    refine ⟨2, 100, rfl, ⟨by decide, by decide, by decide, by decide⟩, fun D hD => ?_⟩
    refine lc_range (lo := 2) (n := 98) (fun i H' => Same H H' ∧ H' D = some (.lst ((rootsTo i).map V.int))) ⟨same_new hD, upd_same⟩ ?_ ?_
    · rintro i H' hi ⟨sm, hd⟩
      refine ⟨rfl, _, rfl, (by show 8 ≤ sizeLine; decide), fun t ht => ?_⟩
      refine ⟨t, _, rfl, .inr (SqT.of upd_same), rfl, rfl, _, rfl, ?_⟩
      have hd2 : (upd H' t (.tup [.int 4, .int 9, .int 16, .int 25, .int 36, .int 49, .int 64, .int 81])) D = some (.lst ((rootsTo i).map V.int)) := (upd_ne (ne_of_none hd ht)).trans hd
      refine ite2 (fun e => ?_) (fun e => ?_)
      · refine ⟨_, rfl, _, hd2, ?_, ?_, ?_⟩
        · rw [List.length_map]
          have := rootsTo_len i
          exact small1000 (by omega)
        · exact fun a o z => (upd_ne (ne_of_none z hD)).trans ((sm.trans (same_new ht)) a o z)
        · rw [upd_same]
          have e' : okR (2 + (i : Int)) = true := e
          rw [show rootsTo (i + 1) = rootsTo i ++ [2 + (i : Int)] by
            show (if okR (2 + (i : Int)) = true then rootsTo i ++ [2 + (i : Int)] else rootsTo i) = _
            rw [if_pos e'], List.map_append]
          rfl
      · refine ⟨sm.trans (same_new ht), ?_⟩
        have e' : ¬ okR (2 + (i : Int)) = true := e
        rw [show rootsTo (i + 1) = rootsTo i by
          show (if okR (2 + (i : Int)) = true then rootsTo i ++ [2 + (i : Int)] else rootsTo i) = _
          rw [if_neg e']]
        exact hd2
    · rintro H' ⟨sm, hd⟩
      exact q D H' hD sm hd
end
section
variable {base : Heap} {K : PySem.W.Frag} {mg : Str → Option Value} {P : Program} {w : World}
def spARoot : Sp := fun vs H Q _ => ∃ b sb : Addr, vs = [.ref b] ∧ Bag H b sb ∧ ∀ d H', IsRoot d → Bag H' b sb → Keep b H H' → Q (.int d) H'
theorem root_in {i : Nat} {v : V} (h : ((rootsTo 98).map V.int)[i]? = some v) : ∃ d, v = .int d ∧ IsRoot d := by
  rw [List.getElem?_map] at h
  cases e : (rootsTo 98)[i]? with
  | none =>
    rw [e] at h
    cases h
  | some d =>
    rw [e] at h
    exact ⟨d, (Option.some.inj h).symm, roots_are (List.mem_of_getElem? e)⟩
theorem ok_a_root (T : Txt K mg) : FnOk P w K mg base CX0 3 T.f_a_root T.d_a_root ["_law_bag"] spARoot := by
  refine T.F_a_root.ok sc_a_root (fun vs H Q E h => ?_) (fun cdv A outer s H vs Q E hr h => ?_)
  · obtain ⟨b, sb, rfl, _⟩ := h
    rfl
  · obtain ⟨b, sb, rfl, B, q⟩ := h
    refine ⟨_, (pss_one (ps_ret (pe_call (ok_of T) (hr.mono (by decide)) (by rfl) T.g_of T.F_of.kp T.b_of .nil pass0 (pa_cons (pv 0) (pa_cons (pe_lst (pa_cons pe_int (pa_cons pe_int (pa_cons pe_int (pa_cons pe_int (pa_cons (pe_call (ok_of T) (hr.mono (by decide)) (by rfl) T.g_of T.F_of.kp T.b_of .nil pass0 (pa_cons (pv 0) (pa_cons (pe_call0 (ok_roots T) (hr.mono (by decide)) (by rfl) T.g_roots T.F_roots.kp T.b_roots .nil pass0) pa_nil))) (pa_cons (pe_call (ok_of T) (hr.mono (by decide)) (by rfl) T.g_of T.F_of.kp T.b_of .nil pass0 (pa_cons (pv 0) (pa_cons (pe_call0 (ok_roots T) (hr.mono (by decide)) (by rfl) T.g_roots T.F_roots.kp T.b_roots .nil pass0) pa_nil))) pa_nil))))))) pa_nil))))), ?_⟩
    have hz : ((rootsTo 98).map V.int).length = 90 := by decide +kernel
    refine ⟨.ref b, rfl, .ref b, rfl, rfl, fun p H1 hp s1 h1 => ?_⟩
    refine ⟨b, sb, p, _, rfl, B.same s1, h1, B.ne hp, by omega, by omega, fun i v H2 hv B2 k2 => ?_⟩
    obtain ⟨r1, rfl, i1⟩ := root_in hv
    refine ⟨.ref b, rfl, rfl, fun p' H3 hp' s3 h3 => ?_⟩
    refine ⟨b, sb, p', _, rfl, B2.same s3, h3, B2.ne hp', by omega, by omega, fun i' v' H4 hv' B4 k4 => ?_⟩
    obtain ⟨r2, rfl, i2⟩ := root_in hv'
    refine ⟨(by show 6 ≤ sizeLine; decide), fun l hl => ?_⟩
    refine ⟨b, sb, l, _, rfl, B4.new hl, upd_same, B4.ne hl, by simp, by simp, fun i v H5 hv B5 k5 => ?_⟩
    have kk : Keep b H H5 := (keep_of s1).trans (k2.trans ((keep_of s3).trans (k4.trans ((keep_new hl).trans k5))))
    match i, hv with
    | 0, hv => cases hv; exact q 2 H5 (isRoot_by (by decide)) B5 kk
    | 1, hv => cases hv; exact q 3 H5 (isRoot_by (by decide)) B5 kk
    | 2, hv => cases hv; exact q 5 H5 (isRoot_by (by decide)) B5 kk
    | 3, hv => cases hv; exact q 99 H5 (isRoot_by (by decide)) B5 kk
    | 4, hv => cases hv; exact q r1 H5 i1 B5 kk
    | 5, hv => cases hv; exact q r2 H5 i2 B5 kk
    | n + 6, hv => simp at hv
end
section
variable {base : Heap} {K : PySem.W.Frag} {mg : Str → Option Value} {P : Program} {w : World}
def spAnyPair : Sp := fun vs H Q _ => ∃ b sb : Addr, vs = [.ref b] ∧ Bag H b sb ∧ ∀ x y p H', -(10 ^ 6) ≤ x → x ≤ 10 ^ 6 → -(10 ^ 6) ≤ y → y ≤ 10 ^ 6 → H p = none → H' p = some (.tup [.int x, .int y]) → Bag H' b sb → Keep b H H' → Q (.ref p) H'
theorem ok_any_pair (T : Txt K mg) : FnOk P w K mg base CX0 3 T.f_any_pair T.d_any_pair ["_law_bag"] spAnyPair := by
  refine T.F_any_pair.ok sc_any_pair (fun vs H Q E h => ?_) (fun cdv A outer s H vs Q E hr h => ?_)
  · obtain ⟨b, sb, rfl, _⟩ := h
    rfl
  · obtain ⟨b, sb, rfl, B, q⟩ := h
    refine ⟨_, (pss_cons (ps_set (i := 1) sc_any_pair.nd rfl (Or.inl rfl) (pe_call (ok_of T) (hr.mono (by decide)) (by rfl) T.g_of T.F_of.kp T.b_of .nil pass0 (pa_cons (pv 0) (pa_cons (pe_lst (pa_cons pe_int (pa_cons pe_int (pa_cons pe_int (pa_cons pe_int (pa_cons (pe_op op_pow pe_int pe_int) pa_nil)))))) pa_nil))))
      (pss_one (ps_ret (pe_tup (pa_cons (pe_op op_sub (pe_call (ok_pull T) (hr.mono (by decide)) (by rfl) T.g_pull T.F_pull.kp T.b_pull .nil pass0 (pa_cons (pv 0) (pa_cons (pe_op op_add (pe_op op_mul pe_int (pv 1)) pe_int) pa_nil))) (pv 1)) (pa_cons (pe_op op_sub (pe_call (ok_pull T) (hr.mono (by decide)) (by rfl) T.g_pull T.F_pull.kp T.b_pull .nil pass0 (pa_cons (pv 0) (pa_cons (pe_op op_add (pe_op op_mul pe_int (pv 1)) pe_int) pa_nil))) (pv 1)) pa_nil)))))), ?_⟩
    refine ⟨.ref b, rfl, 10, 6, rfl, rfl, ⟨by decide, by decide, by decide⟩, (by show 5 ≤ sizeLine; decide), fun l hl => ?_⟩
    refine ⟨b, sb, l, _, rfl, B.new hl, upd_same, B.ne hl, by decide, by decide, fun i v H1 hv B1 k1 => ?_⟩
    obtain ⟨n, rfl, n0, n1⟩ : ∃ n : Int, v = .int n ∧ 1 ≤ n ∧ n ≤ 10 ^ 6 := by
      match i, hv with
      | 0, hv => cases hv; exact ⟨2, rfl, by decide, by decide⟩
      | 1, hv => cases hv; exact ⟨5, rfl, by decide, by decide⟩
      | 2, hv => cases hv; exact ⟨9, rfl, by decide, by decide⟩
      | 3, hv => cases hv; exact ⟨30, rfl, by decide, by decide⟩
      | 4, hv => cases hv; exact ⟨10 ^ 6, rfl, by decide, by decide⟩
      | n + 5, hv => simp at hv
    have hn : (2 * n + 1).natAbs < 2 ^ 100 := Nat.lt_of_le_of_lt (show (2 * n + 1).natAbs ≤ 2000001 by omega) (by decide)
    refine ⟨.ref b, rfl, _, rfl, 2, n, rfl, rfl, .inl ⟨by decide, by decide⟩, _, 1, rfl, rfl, b, sb, _, rfl, B1, (show (0 : Int) < 2 * n + 1 by omega), hn, fun z H2 z0 z1 B2 k2 => ?_⟩
    refine ⟨_, rfl, z, n, rfl, rfl, .ref b, rfl, _, rfl, 2, n, rfl, rfl, .inl ⟨by decide, by decide⟩, _, 1, rfl, rfl, b, sb, _, rfl, B2, (show (0 : Int) < 2 * n + 1 by omega), hn, fun z' H3 z0' z1' B3 k3 => ?_⟩
    refine ⟨_, rfl, z', n, rfl, rfl, (by show 2 ≤ sizeLine; decide), fun p hp => ?_⟩
    have kk : Keep b H H3 := (keep_new hl).trans (k1.trans (k2.trans k3))
    have hpn : H p = none := by
      cases e : H p with
      | none => rfl
      | some o => exact absurd (kk p o (B3.ne hp) e) (by rw [hp]; simp)
    exact q _ _ p _ (by omega) (by omega) (by omega) (by omega) hpn upd_same (B3.new hp) (kk.trans (keep_new hp))
end
section
variable {base : Heap} {K : PySem.W.Frag} {mg : Str → Option Value} {P : Program} {w : World}
def spANumber : Sp := fun vs H Q _ => ∃ b sb : Addr, vs = [.ref b] ∧ Bag H b sb ∧ ∀ x H', -(10 ^ 18) ≤ x → x ≤ 10 ^ 18 → Bag H' b sb → Keep b H H' → Q (.int x) H'
theorem ok_a_number (T : Txt K mg) : FnOk P w K mg base CX0 3 T.f_a_number T.d_a_number ["_law_bag"] spANumber := by
  refine T.F_a_number.ok sc_a_number (fun vs H Q E h => ?_) (fun cdv A outer s H vs Q E hr h => ?_)
  · obtain ⟨b, sb, rfl, _⟩ := h
    rfl
  · obtain ⟨b, sb, rfl, B, q⟩ := h
    refine ⟨_, (pss_cons (ps_set (i := 1) sc_a_number.nd rfl (Or.inl rfl) (pe_call (ok_of T) (hr.mono (by decide)) (by rfl) T.g_of T.F_of.kp T.b_of .nil pass0 (pa_cons (pv 0) (pa_cons (pe_lst (pa_cons pe_int (pa_cons pe_int (pa_cons pe_int (pa_cons pe_int (pa_cons pe_int (pa_cons (pe_op op_pow pe_int pe_int) (pa_cons (pe_op op_pow pe_int pe_int) pa_nil)))))))) pa_nil))))
      (pss_one (ps_ret (pe_op op_sub (pe_call (ok_pull T) (hr.mono (by decide)) (by rfl) T.g_pull T.F_pull.kp T.b_pull .nil pass0 (pa_cons (pv 0) (pa_cons (pe_op op_add (pe_op op_mul pe_int (pv 1)) pe_int) pa_nil))) (pv 1))))), ?_⟩
    refine ⟨.ref b, rfl, 10, 9, rfl, rfl, ⟨by decide, by decide, by decide⟩, 10, 18, rfl, rfl, ⟨by decide, by decide, by decide⟩, (by show 7 ≤ sizeLine; decide), fun l hl => ?_⟩
    refine ⟨b, sb, l, _, rfl, B.new hl, upd_same, B.ne hl, by decide, by decide, fun i v H1 hv B1 k1 => ?_⟩
    obtain ⟨n, rfl, n0, n1⟩ : ∃ n : Int, v = .int n ∧ 1 ≤ n ∧ n ≤ 10 ^ 18 := by
      match i, hv with
      | 0, hv => cases hv; exact ⟨3, rfl, by decide, by decide⟩
      | 1, hv => cases hv; exact ⟨7, rfl, by decide, by decide⟩
      | 2, hv => cases hv; exact ⟨13, rfl, by decide, by decide⟩
      | 3, hv => cases hv; exact ⟨60, rfl, by decide, by decide⟩
      | 4, hv => cases hv; exact ⟨1000, rfl, by decide, by decide⟩
      | 5, hv => cases hv; exact ⟨10 ^ 9, rfl, by decide, by decide⟩
      | 6, hv => cases hv; exact ⟨10 ^ 18, rfl, by decide, by decide⟩
      | n + 7, hv => simp at hv
    have hn : (2 * n + 1).natAbs < 2 ^ 100 := Nat.lt_of_le_of_lt (show (2 * n + 1).natAbs ≤ 2000000000000000001 by omega) (by decide)
    refine ⟨.ref b, rfl, _, rfl, 2, n, rfl, rfl, .inl ⟨by decide, by decide⟩, _, 1, rfl, rfl, b, sb, _, rfl, B1, (show (0 : Int) < 2 * n + 1 by omega), hn, fun z H2 z0 z1 B2 k2 => ?_⟩
    exact ⟨_, rfl, z, n, rfl, rfl, q _ _ (by omega) (by omega) B2 ((keep_new hl).trans (k1.trans k2))⟩
end
section
variable {base : Heap} {K : PySem.W.Frag} {mg : Str → Option Value} {P : Program} {w : World}
def spSource (K : PySem.W.Frag) : Sp := fun vs H Q _ => ∃ (a : Addr) (ns : List Int), vs = [.ref a] ∧ SqL K H a (ns.map V.int) ∧ ns.length ≤ 63 ∧ ∀ b sb H', H b = none → Same H H' → Bag H' b sb → Q (.ref b) H'
theorem ok_source (T : Txt K mg) : FnOk P w K mg base CX0 1 T.f_source T.d_source ["_law_script"] (spSource K) := by
  refine T.F_source.ok sc_source (fun vs H Q E h => ?_) (fun cdv A outer s H vs Q E hr h => ?_)
  · obtain ⟨a, ns, rfl, _⟩ := h
    rfl
  · obtain ⟨a, ns, rfl, hS, hlen, q⟩ := h
    refine ⟨_, (pss_cons (ps_set (i := 1) sc_source.nd rfl (Or.inl rfl) pe_int)
      (pss_cons (ps_for PassesOwn.never rfl (pi_list (pe_slice sl_list (pv 0) po_none (po_some pe_int))) (pg_name (i := 2) sc_source.nd rfl (Or.inl rfl)) (pss_one (ps_set (i := 1) sc_source.nd rfl (Or.inl rfl) (pe_op op_mod (pe_op op_add (pe_op op_add (pe_op op_mul (pv 1) pe_int) (pe_op op_mod (pv 2) pe_int)) pe_int) pe_int))))
      (pss_one (ps_ret (pe_lst (pa_cons (pe_callTy call_list_of (by rfl) T.n_list (by decide +kernel) (pa_cons (pe_slice sl_list (pv 0) po_none (po_some pe_int)) pa_nil)) (pa_cons pe_int (pa_cons pe_int (pa_cons (pv 1) (pa_cons pe_int pa_nil)))))))))), ?_⟩
    have hcut : cutV (ns.map V.int) none (some 63) = ns.map V.int := by
      unfold cutV
      rw [HT.sIx_none, show HT.sIx (ns.map V.int).length (ns.map V.int).length (some 63) = min 63 (ns.map V.int).length from HT.sIx_nat _ _ 63]
      rw [List.drop_zero, List.length_map, Nat.sub_zero, Nat.min_eq_right hlen]
      exact List.take_of_length_le (by rw [List.length_map]; exact Nat.le_refl _)
    refine ⟨.ref a, rfl, 63, rfl, a, _, rfl, hS, fun p hp => ?_⟩
    rw [hcut]
    refine ⟨p, rfl, ⟨_, SqL.of upd_same⟩, for_list (K := K) (a := p) (xs := ns.map V.int) (fun i σ H2 => ∃ (m : Int) (y : Option V), σ = [some (.ref a), some (.int m), y] ∧ 0 ≤ m ∧ m < 2147483399 ∧ H2 = upd H p (.lst (ns.map V.int)))
      ⟨3812, none, rfl, by decide, by decide, rfl⟩ (fun i σ H2 _ ⟨_, _, _, _, _, e⟩ => by rw [e]; exact SqL.of upd_same) ?_ ?_⟩
    · rintro i x σ H2 hx ⟨m, y, rfl, m0, m1, rfl⟩
      obtain ⟨z, rfl⟩ : ∃ z, x = V.int z := by
        rw [List.getElem?_map] at hx
        cases e : ns[i]? with
        | none =>
          rw [e] at hx
          cases hx
        | some z =>
          rw [e] at hx
          exact ⟨z, (Option.some.inj hx).symm⟩
      refine ⟨_, rfl, m, 40692, rfl, rfl, .inr ⟨by decide, by decide⟩, _, rfl, z, 2147483399, rfl, rfl, (by show (0 : Int) < 2147483399; decide), _, _, rfl, rfl, _, 17, rfl, rfl, _, 2147483399, rfl, rfl, (by show (0 : Int) < 2147483399; decide), ?_⟩
      exact ⟨_, _, rfl, Int.emod_nonneg _ (by decide), Int.emod_lt_of_pos _ (by decide), rfl⟩
    · rintro σ H2 ⟨m, y, rfl, m0, m1, rfl⟩
      have hS2 : SqL K (upd H p (.lst (ns.map V.int))) a (ns.map V.int) := (same_new hp).seq hS
      refine ⟨.ref a, rfl, 63, rfl, a, _, rfl, hS2, fun p2 hp2 => ?_⟩
      rw [hcut]
      refine ⟨p2, _, rfl, .inl (SqL.of upd_same), fun l hl => ?_⟩
      refine ⟨_, rfl, (by show 5 ≤ sizeLine; decide), fun b hb => ?_⟩
      have sm : Same H (upd (upd (upd (upd H p (.lst (ns.map V.int))) p2 (.lst (ns.map V.int))) l (.lst (ns.map V.int))) b (.lst [.ref l, .int 0, .int 0, .int m, .int 0])) := (same_new hp).trans ((same_new hp2).trans ((same_new hl).trans (same_new hb)))
      exact q b l _ (((same_new hp).trans ((same_new hp2).trans (same_new hl))).free hb) sm ⟨ns, 0, 0, m, 0, upd_same, same_new hb _ _ upd_same, Int.le_refl _, by omega, m0, m1⟩
end
/-! ### like -/
def Flat (x y : V) : Prop := (∃ i, x = .int i ∧ y = .int i) ∨ (∃ b, x = .bl b ∧ y = .bl b) ∨ (x = .non ∧ y = .non) ∨ (∃ t, x = .str t ∧ y = .str t)
def Two (H : Hp) (p q : Addr) (xs ys : List V) : Prop := (H p = some (.tup xs) ∧ H q = some (.tup ys)) ∨ (H p = some (.lst xs) ∧ H q = some (.lst ys))
def Lk (H : Hp) : Nat → V → V → Prop
  | 0, x, y => Flat x y
  | n + 1, x, y => Flat x y ∨ ∃ (p q : Addr) (xs ys : List V), x = .ref p ∧ y = .ref q ∧ Two H p q xs ys ∧ xs.length = ys.length ∧ xs.length ≤ 1000 ∧ ∀ (i : Nat) (x y : V), xs[i]? = some x → ys[i]? = some y → Lk H n x y
theorem Two.same {H H' : Hp} {p q : Addr} {xs ys : List V} (h : Two H p q xs ys) (s : Same H H') : Two H' p q xs ys := by
  rcases h with ⟨a, b⟩ | ⟨a, b⟩
  · exact .inl ⟨s _ _ a, s _ _ b⟩
  · exact .inr ⟨s _ _ a, s _ _ b⟩
theorem Lk.same {H H' : Hp} (s : Same H H') : ∀ {n : Nat} {x y : V}, Lk H n x y → Lk H' n x y
  | 0, _, _, h => h
  | n + 1, _, _, h => by
    rcases h with h | ⟨p, q, xs, ys, e1, e2, t, l1, l2, a⟩
    · exact .inl h
    · exact .inr ⟨p, q, xs, ys, e1, e2, t.same s, l1, l2, fun i x y h1 h2 => (a i x y h1 h2).same s⟩
theorem Lk.flat {H : Hp} {n : Nat} {x y : V} (h : Flat x y) : Lk H n x y := match n with
  | 0 => h
  | _ + 1 => .inl h
section
variable {base : Heap} {K : PySem.W.Frag} {mg : Str → Option Value} {P : Program} {w : World}
def spLL (L : V → V → Hp → Prop) : Sp := fun vs H Q _ => ∃ x y : V, vs = [x, y] ∧ L x y H ∧ ∀ H', Same H H' → Q (.bl true) H'
theorem kit2 {a : String} {r1 r2 : Bool} (h1 : kitB a "tuple" = some r1) (h2 : kitB a "list" = some r2) : PySem.W.kitAny K (.type a) [.type "tuple", .type "list"] = some (r1 || r2) := by
  refine kitAny_cons (kit_ty h1) (fun e => ?_) (fun e => by rw [e]; rfl)
  subst e
  exact kitAny_cons (kit_ty h2) (fun e => by rw [e]; exact kitAny_nil) (fun e => by rw [e]; rfl)
theorem lk_core (T : Txt K mg) {k : Nat} {L L' : V → V → Hp → Prop} (G : FnOk P w K mg base CX0 k T.f_like T.d_like ["_law_found", "_law_due"] (spLL L')) (hs : ∀ x y H H', Same H H' → L' x y H → L' x y H')
    (hne : ∀ x y H, L x y H → Flat x y ∨ ∃ (p q : Addr) (xs ys : List V), x = .ref p ∧ y = .ref q ∧ Two H p q xs ys ∧ xs.length = ys.length ∧ xs.length ≤ 1000 ∧ ∀ (i : Nat) (x y : V), xs[i]? = some x → ys[i]? = some y → L' x y H) :
    FnOk P w K mg base CX0 (k + 1) T.f_like T.d_like ["_law_found", "_law_due"] (spLL L) := by
  refine T.F_like.ok sc_like (fun vs H Q E h => ?_) (fun cdv A outer s H vs Q E hr h => ?_)
  · obtain ⟨x, y, rfl, _⟩ := h
    rfl
  · obtain ⟨x, y, rfl, hl, qq⟩ := h
    refine ⟨_, (pss_cons (ps_if (pt_val (pe_callB call_isiT (by rfl) T.n_isinstance (by decide +kernel) (pa_cons (pv 1) (pa_cons (pe_tup (pa_cons (pe_bltn (v := .ty "tuple") (by rfl) T.n_tuple (by decide +kernel) rfl) (pa_cons (pe_bltn (v := .ty "list") (by rfl) T.n_list (by decide +kernel) rfl) pa_nil))) pa_nil)))) (pss_cons (ps_if (PW.pt (pw_or (pt_cmpR op_ne (pe_callB call_isi (by rfl) T.n_isinstance (by decide +kernel) (pa_cons (pv 0) (pa_cons (pe_bltn (v := .ty "tuple") (by rfl) T.n_tuple (by decide +kernel) rfl) pa_nil))) (pe_callB call_isi (by rfl) T.n_isinstance (by decide +kernel) (pa_cons (pv 1) (pa_cons (pe_bltn (v := .ty "tuple") (by rfl) T.n_tuple (by decide +kernel) rfl) pa_nil))) (nomark _)) (pw_or1 (pt_cmpR op_ne (pe_callB call_isi (by rfl) T.n_isinstance (by decide +kernel) (pa_cons (pv 0) (pa_cons (pe_bltn (v := .ty "list") (by rfl) T.n_list (by decide +kernel) rfl) pa_nil))) (pe_callB call_isi (by rfl) T.n_isinstance (by decide +kernel) (pa_cons (pv 1) (pa_cons (pe_bltn (v := .ty "list") (by rfl) T.n_list (by decide +kernel) rfl) pa_nil))) (nomark _))))) (pss_one (ps_ret pe_bl)) pss_nil)
      (pss_one (ps_ret (pe_and (pe_cmpR op_eq (pe_callB call_len_seq (by rfl) T.n_len (by decide +kernel) (pa_cons (pv 0) pa_nil)) (pe_callB call_len_seq (by rfl) T.n_len (by decide +kernel) (pa_cons (pv 1) pa_nil)) (nomark _)) (pe_one (pe_callB (cr_all rfl) (by rfl) T.n_all (by decide +kernel) (pa_cons (pe_lc (own := [("_law_k", 2)]) (g := (gName 2)) (tt := tYes) (te := tCall (spLL L') [] E0 (tCons (tOp (rIx K) _ _) (tCons (tOp (rIx K) _ _) _))) (by rfl) sc_like.nd (pi_range1 (by rfl) T.n_range (pa_cons (pe_callB call_len_seq (by rfl) T.n_len (by decide +kernel) (pa_cons (pv 1) pa_nil)) pa_nil)) (blkOk_by (own := [("_law_k", 2)]) (N := ["_law_found", "_law_due", "_law_k"]) (sc := defScope s_like) (by decide +kernel)) (fun _ _ _ _ _ => (pg_name (i := 2) sc_like.nd rfl (Or.inl rfl))) (fun _ _ _ _ _ => pts_nil) (fun _ _ _ _ _ => (pe_call G hr (by rfl) T.g_like T.F_like.kp T.b_like .nil pass0 (pa_cons (pe_ix ix_seq (pv 0) (pv 2) (fun _ _ => rfl)) (pa_cons (pe_ix ix_seq (pv 1) (pv 2) (fun _ _ => rfl)) pa_nil))))) pa_nil))))))) pss_nil)
      (pss_cons (ps_if (PW.pt (pw_or (pt_cmpR op_isN (pv 1) pe_non (nomark _)) (pw_or1 (pt_cmpR op_isN (pv 0) pe_non (nomark _))))) (pss_one (ps_ret (pe_and (pe_cmpR op_isN (pv 1) pe_non (nomark _)) (pe_one (pe_cmpR op_isN (pv 0) pe_non (nomark _)))))) pss_nil)
      (pss_one (ps_ret (pe_and (pe_cmpR op_eq (pe_callB call_isi (by rfl) T.n_isinstance (by decide +kernel) (pa_cons (pv 0) (pa_cons (pe_bltn (v := .ty "bool") (by rfl) T.n_bool (by decide +kernel) rfl) pa_nil))) (pe_callB call_isi (by rfl) T.n_isinstance (by decide +kernel) (pa_cons (pv 1) (pa_cons (pe_bltn (v := .ty "bool") (by rfl) T.n_bool (by decide +kernel) rfl) pa_nil))) (nomark _)) (pe_one (pe_cmpR op_eq (pv 0) (pv 1) (nomark _)))))))), ?_⟩
    refine ⟨_, rfl, by show 2 ≤ sizeLine; decide, fun tp htp => ?_⟩
    have sm := same_new (o := .tup [.ty "tuple", .ty "list"]) htp
    rcases hne x y H hl with (⟨i, rfl, rfl⟩ | ⟨b, rfl, rfl⟩ | ⟨rfl, rfl⟩ | ⟨i, rfl, rfl⟩) | ⟨p, q, xs, ys, rfl, rfl, hT, l1, l2, hA⟩
    · refine ⟨.int i, tp, [.ty "tuple", .ty "list"], .type "int", [.type "tuple", .type "list"], (false || false), rfl, upd_same, .cons (ClsV.ty _) (.cons (ClsV.ty _) .nil), TyX.base (TyOf.int _), kit2 (by decide +kernel) (by decide +kernel), _, rfl, iteF ?_⟩
      refine ⟨_, rfl, rfl, _, rfl, iteF ?_⟩
      refine ⟨_, rfl, rfl, _, rfl, iteF ?_⟩
      refine ⟨_, rfl, .int i, .ty "bool", _, _, false, rfl, ClsV.ty _, TyX.base (TyOf.int _), kit_ty (by decide +kernel), _, rfl, .int i, .ty "bool", _, _, false, rfl, ClsV.ty _, TyX.base (TyOf.int _), kit_ty (by decide +kernel), rfl, true, rfl, iteT ?_⟩
      refine ⟨_, rfl, _, rfl, rfl, ?_⟩
      rw [decide_eq_true rfl]
      exact qq _ sm
    · refine ⟨.bl b, tp, [.ty "tuple", .ty "list"], .type "bool", [.type "tuple", .type "list"], (false || false), rfl, upd_same, .cons (ClsV.ty _) (.cons (ClsV.ty _) .nil), TyX.base (TyOf.bl _), kit2 (by decide +kernel) (by decide +kernel), _, rfl, iteF ?_⟩
      refine ⟨_, rfl, rfl, _, rfl, iteF ?_⟩
      refine ⟨_, rfl, rfl, _, rfl, iteF ?_⟩
      refine ⟨_, rfl, .bl b, .ty "bool", _, _, true, rfl, ClsV.ty _, TyX.base (TyOf.bl _), kit_ty (by decide +kernel), _, rfl, .bl b, .ty "bool", _, _, true, rfl, ClsV.ty _, TyX.base (TyOf.bl _), kit_ty (by decide +kernel), rfl, true, rfl, iteT ?_⟩
      refine ⟨_, rfl, _, rfl, rfl, ?_⟩
      rw [decide_eq_true rfl]
      exact qq _ sm
    · refine ⟨.non, tp, [.ty "tuple", .ty "list"], .type "NoneType", [.type "tuple", .type "list"], (false || false), rfl, upd_same, .cons (ClsV.ty _) (.cons (ClsV.ty _) .nil), TyX.base TyOf.non, kit2 (by decide +kernel) (by decide +kernel), _, rfl, iteF ?_⟩
      refine ⟨_, rfl, rfl, _, rfl, iteT ?_⟩
      exact ⟨_, rfl, rfl, true, rfl, iteT ⟨_, rfl, rfl, qq _ sm⟩⟩
    · refine ⟨.str i, tp, [.ty "tuple", .ty "list"], .type "str", [.type "tuple", .type "list"], (false || false), rfl, upd_same, .cons (ClsV.ty _) (.cons (ClsV.ty _) .nil), TyX.base (TyOf.str _), kit2 (by decide +kernel) (by decide +kernel), _, rfl, iteF ?_⟩
      refine ⟨_, rfl, rfl, _, rfl, iteF ?_⟩
      refine ⟨_, rfl, rfl, _, rfl, iteF ?_⟩
      refine ⟨_, rfl, .str i, .ty "bool", _, _, false, rfl, ClsV.ty _, TyX.base (TyOf.str _), kit_ty (by decide +kernel), _, rfl, .str i, .ty "bool", _, _, false, rfl, ClsV.ty _, TyX.base (TyOf.str _), kit_ty (by decide +kernel), rfl, true, rfl, iteT ?_⟩
      refine ⟨_, rfl, _, rfl, rfl, ?_⟩
      rw [decide_eq_true rfl]
      exact qq _ sm
    · have hT' := hT.same sm
      rcases hT' with ⟨hp, hq⟩ | ⟨hp, hq⟩
      · refine ⟨.ref q, tp, [.ty "tuple", .ty "list"], .type "tuple", [.type "tuple", .type "list"], (true || false), rfl, upd_same, .cons (ClsV.ty _) (.cons (ClsV.ty _) .nil), TyX.base (TyOf.tup hq), kit2 (by decide +kernel) (by decide +kernel), _, rfl, iteT ?_⟩
        refine ⟨_, rfl, .ref p, .ty "tuple", _, _, true, rfl, ClsV.ty _, TyX.base (TyOf.tup hp), kit_ty (by decide +kernel), _, rfl, .ref q, .ty "tuple", _, _, true, rfl, ClsV.ty _, TyX.base (TyOf.tup hq), kit_ty (by decide +kernel), rfl, _, rfl, iteF ?_⟩
        refine ⟨_, rfl, .ref p, .ty "list", _, _, false, rfl, ClsV.ty _, TyX.base (TyOf.tup hp), kit_ty (by decide +kernel), _, rfl, .ref q, .ty "list", _, _, false, rfl, ClsV.ty _, TyX.base (TyOf.tup hq), kit_ty (by decide +kernel), rfl, _, rfl, iteF ?_⟩
        refine ⟨_, rfl, p, xs, rfl, .inr (SqT.of hp), _, rfl, q, ys, rfl, .inr (SqT.of hq), rfl, true, (by rw [l1, decide_eq_true rfl]), iteT ?_⟩
        refine ⟨_, rfl, q, ys, rfl, .inr (SqT.of hq), _, rfl, (by omega), (by omega), fun D hD => ?_⟩
        refine lc_range (lo := 0) (n := ys.length) (fun i H' => Same H H' ∧ H' D = some (.lst ((List.replicate i true).map V.bl))) ⟨sm.trans (same_new hD), upd_same⟩ ?_ ?_
        · rintro i H' hi ⟨sm', hd⟩
          obtain ⟨x1, e1, f1⟩ := at_some (xs := xs) (show 0 ≤ (0 : Int) + (i : Int) by omega) (by omega)
          obtain ⟨y1, e2, f2⟩ := at_some (xs := ys) (show 0 ≤ (0 : Int) + (i : Int) by omega) (by omega)
          rcases hT with ⟨hp0, hq0⟩ | ⟨hp0, hq0⟩
          · refine ⟨rfl, ⟨_, rfl, _, rfl, .inr (.inl ⟨p, xs, _, x1, rfl, rfl, SqT.of (sm' _ _ hp0), f1, _, rfl, _, rfl, .inr (.inl ⟨q, ys, _, y1, rfl, rfl, SqT.of (sm' _ _ hq0), f2, x1, y1, rfl, hs _ _ _ _ sm' (hA _ _ _ e1 e2), fun H2 s2 => ?_⟩)⟩)⟩⟩
            refine ⟨_, s2 _ _ hd, ?_, ?_, ?_⟩
            · rw [List.length_map, List.length_replicate]
              exact small1000 (by omega)
            · exact fun a o z => (upd_ne (ne_of_none z (sm.free hD))).trans (s2 _ _ (sm' a o z))
            · rw [upd_same, List.replicate_succ', List.map_append]
              rfl
          · exact absurd (sm _ _ hp0) (by rw [hp]; simp)
        · rintro H' ⟨sm', hd⟩
          refine ⟨D, _, rfl, SqL.of hd, ?_⟩
          rw [show (List.replicate ys.length true).all id = true by simp]
          exact qq _ sm'
      · refine ⟨.ref q, tp, [.ty "tuple", .ty "list"], .type "list", [.type "tuple", .type "list"], (false || true), rfl, upd_same, .cons (ClsV.ty _) (.cons (ClsV.ty _) .nil), TyX.base (TyOf.lst hq), kit2 (by decide +kernel) (by decide +kernel), _, rfl, iteT ?_⟩
        refine ⟨_, rfl, .ref p, .ty "tuple", _, _, false, rfl, ClsV.ty _, TyX.base (TyOf.lst hp), kit_ty (by decide +kernel), _, rfl, .ref q, .ty "tuple", _, _, false, rfl, ClsV.ty _, TyX.base (TyOf.lst hq), kit_ty (by decide +kernel), rfl, _, rfl, iteF ?_⟩
        refine ⟨_, rfl, .ref p, .ty "list", _, _, true, rfl, ClsV.ty _, TyX.base (TyOf.lst hp), kit_ty (by decide +kernel), _, rfl, .ref q, .ty "list", _, _, true, rfl, ClsV.ty _, TyX.base (TyOf.lst hq), kit_ty (by decide +kernel), rfl, _, rfl, iteF ?_⟩
        refine ⟨_, rfl, p, xs, rfl, .inl (SqL.of hp), _, rfl, q, ys, rfl, .inl (SqL.of hq), rfl, true, (by rw [l1, decide_eq_true rfl]), iteT ?_⟩
        refine ⟨_, rfl, q, ys, rfl, .inl (SqL.of hq), _, rfl, (by omega), (by omega), fun D hD => ?_⟩
        refine lc_range (lo := 0) (n := ys.length) (fun i H' => Same H H' ∧ H' D = some (.lst ((List.replicate i true).map V.bl))) ⟨sm.trans (same_new hD), upd_same⟩ ?_ ?_
        · rintro i H' hi ⟨sm', hd⟩
          obtain ⟨x1, e1, f1⟩ := at_some (xs := xs) (show 0 ≤ (0 : Int) + (i : Int) by omega) (by omega)
          obtain ⟨y1, e2, f2⟩ := at_some (xs := ys) (show 0 ≤ (0 : Int) + (i : Int) by omega) (by omega)
          rcases hT with ⟨hp0, hq0⟩ | ⟨hp0, hq0⟩
          · exact absurd (sm _ _ hp0) (by rw [hp]; simp)
          · refine ⟨rfl, ⟨_, rfl, _, rfl, .inl ⟨p, xs, _, x1, rfl, rfl, SqL.of (sm' _ _ hp0), f1, _, rfl, _, rfl, .inl ⟨q, ys, _, y1, rfl, rfl, SqL.of (sm' _ _ hq0), f2, x1, y1, rfl, hs _ _ _ _ sm' (hA _ _ _ e1 e2), fun H2 s2 => ?_⟩⟩⟩⟩
            refine ⟨_, s2 _ _ hd, ?_, ?_, ?_⟩
            · rw [List.length_map, List.length_replicate]
              exact small1000 (by omega)
            · exact fun a o z => (upd_ne (ne_of_none z (sm.free hD))).trans (s2 _ _ (sm' a o z))
            · rw [upd_same, List.replicate_succ', List.map_append]
              rfl
        · rintro H' ⟨sm', hd⟩
          refine ⟨D, _, rfl, SqL.of hd, ?_⟩
          rw [show (List.replicate ys.length true).all id = true by simp]
          exact qq _ sm'
theorem ok_likeN (T : Txt K mg) : ∀ n : Nat, FnOk P w K mg base CX0 (n + 1) T.f_like T.d_like ["_law_found", "_law_due"] (spLL fun x y H => Lk H n x y)
  | 0 => lk_core T (L' := fun _ _ _ => False) ⟨fun _ _ _ _ ⟨_, _, _, h, _⟩ => h.elim, fun _ _ _ _ _ _ _ _ _ _ _ _ _ ⟨_, _, _, h, _⟩ => h.elim⟩ (fun _ _ _ _ _ h => h) fun x y H h => .inl h
  | n + 1 => lk_core T (ok_likeN T n) (fun _ _ _ _ s h => h.same s) fun x y H h => h
theorem ok_like (T : Txt K mg) : FnOk P w K mg base CX0 6 T.f_like T.d_like ["_law_found", "_law_due"] (spLL fun x y H => Lk H 5 x y) := ok_likeN T 5
end
/-! ### the field of a caught error -/
/-- the error of the class cls with its dict at d: its word, its other field -/
structure ErrIs (K : PySem.W.Frag) (H : Hp) (cls : Value) (d : Option Addr) (w : Str) (fs : List (Str × V)) : Prop where
  ex : ∃ C dd : Addr, cls = .ref C ∧ d = some dd ∧ XfC K C ∧ H dd = some (.xd fs) ∧ ∀ f v, fs.lookup f = some v → PySem.W.findIn K (.ref C) f = some none
  wd : fs.lookup ("word" : Str) = some (.str w)
theorem ErrIs.same {K : PySem.W.Frag} {H H' : Hp} {cls : Value} {d : Option Addr} {w : Str} {fs : List (Str × V)} (h : ErrIs K H cls d w fs) (s : Same H H') : ErrIs K H' cls d w fs := by
  obtain ⟨⟨C, dd, e1, e2, x, hd, no⟩, wd⟩ := h
  exact ⟨⟨C, dd, e1, e2, x, s _ _ hd, no⟩, wd⟩
/-- a field is read -/
theorem ErrIs.read {K : PySem.W.Frag} {H : Hp} {a : Addr} {cls : Value} {d : Option Addr} {w : Str} {fs : List (Str × V)} (h : ErrIs K H cls d w fs) {f : Str} {v : V} {R : V → Prop} (hl : fs.lookup f = some v) (q : R v) :
    (V.ref a) = .ref a ∧ ∃ (C dd : Addr) (fs : List (Str × V)) (v : V), cls = .ref C ∧ d = some dd ∧ XfC K C ∧ PySem.W.findIn K (.ref C) f = some none ∧ H dd = some (.xd fs) ∧ fs.lookup f = some v ∧ R v := by
  obtain ⟨⟨C, dd, e1, e2, x, hd, no⟩, wd⟩ := h
  exact ⟨rfl, C, dd, fs, v, e1, e2, x, no _ _ hl, hd, hl, q⟩
def fieldOf (w : Str) : Option Str :=
  if inV (.str w) [.str "BadRoot", .str "BadCount", .str "NotLinked"] = true then some "number"
  else if inV (.str w) [.str "BadLength", .str "BadRow", .str "BadStep", .str "BadText", .str "BadDeed"] = true then some "at"
  else if inV (.str w) [.str "BadName", .str "Taken"] = true then some "name"
  else if inV (.str w) [.str "TooGreat", .str "Full"] = true then some "most"
  else if decide (V.str w = .str "NoSquares") = true then some "reason" else none
theorem fo0 {w : Str}  (e : inV (.str w) [.str "BadRoot", .str "BadCount", .str "NotLinked"] = true) : fieldOf w = some ("number" : Str) := by unfold fieldOf; rw [if_pos e]
theorem fo1 {w : Str} (b0 : ¬ (inV (.str w) [.str "BadRoot", .str "BadCount", .str "NotLinked"] = true)) (e : inV (.str w) [.str "BadLength", .str "BadRow", .str "BadStep", .str "BadText", .str "BadDeed"] = true) : fieldOf w = some ("at" : Str) := by unfold fieldOf; rw [if_neg b0, if_pos e]
theorem fo2 {w : Str} (b0 : ¬ (inV (.str w) [.str "BadRoot", .str "BadCount", .str "NotLinked"] = true)) (b1 : ¬ (inV (.str w) [.str "BadLength", .str "BadRow", .str "BadStep", .str "BadText", .str "BadDeed"] = true)) (e : inV (.str w) [.str "BadName", .str "Taken"] = true) : fieldOf w = some ("name" : Str) := by unfold fieldOf; rw [if_neg b0, if_neg b1, if_pos e]
theorem fo3 {w : Str} (b0 : ¬ (inV (.str w) [.str "BadRoot", .str "BadCount", .str "NotLinked"] = true)) (b1 : ¬ (inV (.str w) [.str "BadLength", .str "BadRow", .str "BadStep", .str "BadText", .str "BadDeed"] = true)) (b2 : ¬ (inV (.str w) [.str "BadName", .str "Taken"] = true)) (e : inV (.str w) [.str "TooGreat", .str "Full"] = true) : fieldOf w = some ("most" : Str) := by unfold fieldOf; rw [if_neg b0, if_neg b1, if_neg b2, if_pos e]
theorem fo4 {w : Str} (b0 : ¬ (inV (.str w) [.str "BadRoot", .str "BadCount", .str "NotLinked"] = true)) (b1 : ¬ (inV (.str w) [.str "BadLength", .str "BadRow", .str "BadStep", .str "BadText", .str "BadDeed"] = true)) (b2 : ¬ (inV (.str w) [.str "BadName", .str "Taken"] = true)) (b3 : ¬ (inV (.str w) [.str "TooGreat", .str "Full"] = true)) (e : decide (V.str w = .str "NoSquares") = true) : fieldOf w = some ("reason" : Str) := by unfold fieldOf; rw [if_neg b0, if_neg b1, if_neg b2, if_neg b3, if_pos e]
theorem fo5 {w : Str} (b0 : ¬ (inV (.str w) [.str "BadRoot", .str "BadCount", .str "NotLinked"] = true)) (b1 : ¬ (inV (.str w) [.str "BadLength", .str "BadRow", .str "BadStep", .str "BadText", .str "BadDeed"] = true)) (b2 : ¬ (inV (.str w) [.str "BadName", .str "Taken"] = true)) (b3 : ¬ (inV (.str w) [.str "TooGreat", .str "Full"] = true)) (b4 : ¬ (decide (V.str w = .str "NoSquares") = true)) : fieldOf w = none := by unfold fieldOf; rw [if_neg b0, if_neg b1, if_neg b2, if_neg b3, if_neg b4]
def fieldVal (w : Str) (fs : List (Str × V)) : Option V := match fieldOf w with
  | some f => fs.lookup f
  | none => some .non
section
variable {base : Heap} {K : PySem.W.Frag} {mg : Str → Option Value} {P : Program} {w : World}
def spFld (K : PySem.W.Frag) : Addr → Value → Option Addr → Sp := fun a cls d vs H Q _ => ∃ (wd : Str) (fs : List (Str × V)) (v : V), vs = [.ref a] ∧ ErrIs K H cls d wd fs ∧ fieldVal wd fs = some v ∧ ∀ H', Same H H' → Q v H'
theorem ok_field_of (T : Txt K mg) : FnP P w K mg base 1 T.f_field_of T.d_field_of ["_law_e"] (spFld K) := by
  refine fn_ofP T.F_field_of sc_field_of (fun a cls d vs H Q E h => ?_) (fun cdv A outer s H vs Q E p cls d zc dat hr h => ?_)
  · obtain ⟨wd, fs, v, rfl, _⟩ := h
    rfl
  · obtain ⟨wd, fs, v, rfl, E0, hv, q⟩ := h
    refine ⟨_, (pss_cons (ps_if (pt_cmpR op_in_seq (pe_xfG (a := p.1) (oe := p.2) (cls := cls) (d := d) List.mem_cons_self zc dat (pv 0)) (pe_tup (pa_cons pe_str (pa_cons pe_str (pa_cons pe_str pa_nil)))) (by rfl)) (pss_one (ps_ret (pe_xfG (a := p.1) (oe := p.2) (cls := cls) (d := d) List.mem_cons_self zc dat (pv 0)))) pss_nil)
      (pss_cons (ps_if (pt_cmpR op_in_seq (pe_xfG (a := p.1) (oe := p.2) (cls := cls) (d := d) List.mem_cons_self zc dat (pv 0)) (pe_tup (pa_cons pe_str (pa_cons pe_str (pa_cons pe_str (pa_cons pe_str (pa_cons pe_str pa_nil)))))) (by rfl)) (pss_one (ps_ret (pe_xfG (a := p.1) (oe := p.2) (cls := cls) (d := d) List.mem_cons_self zc dat (pv 0)))) pss_nil)
      (pss_cons (ps_if (pt_cmpR op_in_seq (pe_xfG (a := p.1) (oe := p.2) (cls := cls) (d := d) List.mem_cons_self zc dat (pv 0)) (pe_tup (pa_cons pe_str (pa_cons pe_str pa_nil))) (by rfl)) (pss_one (ps_ret (pe_xfG (a := p.1) (oe := p.2) (cls := cls) (d := d) List.mem_cons_self zc dat (pv 0)))) pss_nil)
      (pss_cons (ps_if (pt_cmpR op_in_seq (pe_xfG (a := p.1) (oe := p.2) (cls := cls) (d := d) List.mem_cons_self zc dat (pv 0)) (pe_tup (pa_cons pe_str (pa_cons pe_str pa_nil))) (by rfl)) (pss_one (ps_ret (pe_xfG (a := p.1) (oe := p.2) (cls := cls) (d := d) List.mem_cons_self zc dat (pv 0)))) pss_nil)
      (pss_one (ps_ret (pe_ifExp (pt_cmpR op_eq (pe_xfG (a := p.1) (oe := p.2) (cls := cls) (d := d) List.mem_cons_self zc dat (pv 0)) pe_str (nomark _)) (pe_xfG (a := p.1) (oe := p.2) (cls := cls) (d := d) List.mem_cons_self zc dat (pv 0)) pe_non))))))), ?_⟩
    have fv : ∀ {f : Str}, fieldOf wd = some f → fs.lookup f = some v := fun {f} e => by
      unfold fieldVal at hv
      rw [e] at hv
      exact hv
    refine ⟨_, rfl, E0.read E0.wd ?_⟩
    refine ⟨by show 3 ≤ sizeLine; decide, fun t0 n0 => ?_⟩
    have S1 := same_new (o := .tup [.str "BadRoot", .str "BadCount", .str "NotLinked"]) n0
    have E1 := E0.same S1
    refine ⟨t0, _, rfl, .inr (SqT.of upd_same), rfl, rfl, _, rfl, ite2 (fun e => ?_) (fun b0 => ?_)⟩
    · exact ⟨_, rfl, E1.read (fv (fo0  e)) (q _ S1)⟩
    refine ⟨_, rfl, E1.read E1.wd ?_⟩
    refine ⟨by show 5 ≤ sizeLine; decide, fun t1 n1 => ?_⟩
    have S2 := S1.trans (same_new (o := .tup [.str "BadLength", .str "BadRow", .str "BadStep", .str "BadText", .str "BadDeed"]) n1)
    have E2 := E0.same S2
    refine ⟨t1, _, rfl, .inr (SqT.of upd_same), rfl, rfl, _, rfl, ite2 (fun e => ?_) (fun b1 => ?_)⟩
    · exact ⟨_, rfl, E2.read (fv (fo1 b0 e)) (q _ S2)⟩
    refine ⟨_, rfl, E2.read E2.wd ?_⟩
    refine ⟨by show 2 ≤ sizeLine; decide, fun t2 n2 => ?_⟩
    have S3 := S2.trans (same_new (o := .tup [.str "BadName", .str "Taken"]) n2)
    have E3 := E0.same S3
    refine ⟨t2, _, rfl, .inr (SqT.of upd_same), rfl, rfl, _, rfl, ite2 (fun e => ?_) (fun b2 => ?_)⟩
    · exact ⟨_, rfl, E3.read (fv (fo2 b0 b1 e)) (q _ S3)⟩
    refine ⟨_, rfl, E3.read E3.wd ?_⟩
    refine ⟨by show 2 ≤ sizeLine; decide, fun t3 n3 => ?_⟩
    have S4 := S3.trans (same_new (o := .tup [.str "TooGreat", .str "Full"]) n3)
    have E4 := E0.same S4
    refine ⟨t3, _, rfl, .inr (SqT.of upd_same), rfl, rfl, _, rfl, ite2 (fun e => ?_) (fun b3 => ?_)⟩
    · exact ⟨_, rfl, E4.read (fv (fo3 b0 b1 b2 e)) (q _ S4)⟩
    refine ⟨_, rfl, E4.read E4.wd ?_⟩
    refine ⟨rfl, _, rfl, ite2 (fun e => ?_) (fun b4 => ?_)⟩
    · exact ⟨_, rfl, E4.read (fv (fo4 b0 b1 b2 b3 e)) (q _ S4)⟩
    · have e : fieldOf wd = none := fo5 b0 b1 b2 b3 b4
      have ev : v = .non := by
        unfold fieldVal at hv
        rw [e] at hv
        exact (Option.some.inj hv).symm
      rw [ev] at q
      exact q _ S4
end
/-! ### the def that asks, and tells what was raised -/
section
variable {K : PySem.W.Frag} {mg : Str → Option Value}
/-- what is told of an answer, of an error of the first, of the second, of the third kind -/
def Told (Q : VK) (w : Str) (v : V) (H : Hp) : Prop := ∀ H' p, Same H H' → H' p = some (.tup [.str w, v]) → Q (.ref p) H'
def Raised (K : PySem.W.Frag) (G : Addr) (Q : VK) : XK := fun cls d H => PySem.W.exmOne K cls (.ref G) = some true ∧ ∃ (w : Str) (fs : List (Str × V)) (v : V), ErrIs K H cls d w fs ∧ fieldVal w fs = some v ∧ Told Q w v H
def TTry (K : PySem.W.Frag) (G : Addr) : (XK → Hp → VK → Prop) → Hp → VK → Prop := fun tl H Q => tl (Raised K G Q) H fun v H1 => [V.str "told", v].length ≤ sizeLine ∧ ∀ p, H1 p = none → Q (.ref p) (upd H1 p (.tup [.str "told", v]))
end
section
variable {base : Heap} {K : PySem.W.Frag} {mg : Str → Option Value} {w : World}
theorem try_gives {X : Cx} (T : Txt K mg) (hP : X.K = K) (hm : X.mg = mg) {k : Nat} (hr : Room (k + 3) X.A) {cdg : Value} {q : Str} :
    LamX.GivesTo X ["_law_ask", "_law_e"] "_law_try" (defScope s_try) T.f_try cdg (defBody s_try) "_law_ask" q (TTry K T.r_GrainError) := by
  subst hP
  subst hm
  intro f c' s H Q tl act hc h
  have hr2 : Room (k + 2) (X.A.deeper (envOfC "_law_try" (defScope s_try) s.heap.objs.size T.f_try cdg)) := hr.deeper _
  refine ⟨_, pss_one (ps_tryAs (X := (cxOf CX0 X.prog X.w X.K X.mg X.base ["_law_ask", "_law_e"] "_law_try" (defScope s_try) T.f_try cdg X.A X.stack s H E0).nox) (i := 1)
      (tb := fun W D σ H => ∃ Ech : XK, (∀ cls d σ' H', Ech cls d H' → W cls d σ' H') ∧ σ[0]? = some (some (.ref f)) ∧ H c' = some (LamX.CodeO c' q) ∧ tl Ech H fun v H1 => [V.str "told", v].length ≤ sizeLine ∧ ∀ p, H1 p = none → D.rt (.ref p) (upd H1 p (.tup [.str "told", v])))
      rfl rfl sc_try.nd rfl rfl (fun W pn xe tk _ => ?_)
      (.cons (c := .ref T.r_GrainError) (ts := fun a cls d => tRet (tTup (tCons (tXfA X.K a cls d "word" (tVar 1)) (tCons (fun σ H Q => tCons (tVar 1) tNil σ H fun vs H1 => spFld X.K a cls d vs H1 Q E0) tNil)))) ⟨by rfl, by decide, .inl T.g_GrainError⟩ (fun a oe cls d pn zc dat => pss_one (ps_ret (pe_tup (pa_cons (pe_xfG (a := a) (oe := oe) (cls := cls) (d := d) List.mem_cons_self zc dat (pv 1)) (pa_cons (pe_callP (a := a) (oe := oe) (cls := cls) (d := d) List.mem_cons_self zc dat (ok_field_of T) ?_ (by rfl) T.g_field_of T.F_field_of.kp T.b_field_of (pa_cons (pv 1) pa_nil)) pa_nil)))))
      (.cons (c := .ref T.r_GrainMissing) (ts := fun a cls d => tRet (tTup (tCons (tXfA X.K a cls d "word" (tVar 1)) (tCons (tIf (tTest (tOp rEq (tXfA X.K a cls d "word" (tVar 1)) (tC (.str "NoSheet")))) (tXfA X.K a cls d "sheet" (tVar 1)) (tXfA X.K a cls d "name" (tVar 1))) tNil)))) ⟨by rfl, by decide, .inl T.g_GrainMissing⟩ (fun a oe cls d pn zc dat => pss_one (ps_ret (pe_tup (pa_cons (pe_xfG (a := a) (oe := oe) (cls := cls) (d := d) List.mem_cons_self zc dat (pv 1)) (pa_cons (pe_ifExp (pt_cmpR op_eq (pe_xfG (a := a) (oe := oe) (cls := cls) (d := d) List.mem_cons_self zc dat (pv 1)) pe_str (nomark _)) (pe_xfG (a := a) (oe := oe) (cls := cls) (d := d) List.mem_cons_self zc dat (pv 1)) (pe_xfG (a := a) (oe := oe) (cls := cls) (d := d) List.mem_cons_self zc dat (pv 1))) pa_nil)))))
      (.cons (c := .ref T.e_NothingLeft.C) (ts := fun a cls d => tRet (tTup (tCons (tXfA X.K a cls d "word" (tVar 1)) (tCons (tC .non) tNil)))) ⟨by rfl, by decide, .inl T.e_NothingLeft.g⟩ (fun a oe cls d pn zc dat => pss_one (ps_ret (pe_tup (pa_cons (pe_xfG (a := a) (oe := oe) (cls := cls) (d := d) List.mem_cons_self zc dat (pv 1)) (pa_cons pe_non pa_nil))))) .nil)))), ?_⟩
  · constructor
    intro pins s' σ H' D I h'
    obtain ⟨Ech, hW, h1, h2, h3⟩ := h'
    have asked := fun p1 p2 => act W pn xe Ech p1 p2 tk hW
    exact (pss_one (ps_ret (pe_tup (pa_cons pe_str (pa_cons (asked _ _) pa_nil))))).run pins s' σ H' D I ⟨h1, h2, h3⟩
  · exact ⟨by have := hr.dp; show X.A.depth + 1 + 3 * 1 + 5 < _; omega, by have := hr.un; show X.A.units + 3 + 16 * 1 + 200 < _; omega⟩
  · refine ⟨Raised X.K T.r_GrainError Q, fun cls d σ' H' hR => ?_, rfl, hc, h⟩
    obtain ⟨em, wd, fs, v, er, fv, q1⟩ := hR
    refine ⟨true, em, fun _ a na hl => ?_, fun z => nomatch z⟩
    have at1 : (σ'.set 1 (some (V.ref a)))[1]? = some (some (V.ref a)) := by
      rw [List.getElem?_set_self hl]
    refine ⟨_, at1, er.read er.wd ?_⟩
    refine ⟨_, at1, wd, fs, v, rfl, er, fv, fun H2 s2 => ⟨by show 2 ≤ sizeLine; decide, fun p hp => q1 _ p (s2.trans (same_new hp)) upd_same⟩⟩
end
/-! ### lists of ints that comprehensions make -/
def Pt (H : Hp) (D : Addr) (ns : List Int) (i : Nat) (H' : Hp) : Prop := Same H H' ∧ H' D = some (.lst ((ns.take i).map V.int))
theorem pt_step {H H' : Hp} {D : Addr} {ns : List Int} {i : Nat} {z : Int} (h : Pt H D ns i H') (hD : H D = none) (hz : ns[i]? = some z) : Pt H D ns (i + 1) (upd H' D (.lst ((ns.take i).map V.int ++ [.int z]))) := by
  refine ⟨fun a o e => (upd_ne (ne_of_none e hD)).trans (h.1 a o e), ?_⟩
  rw [upd_same, List.take_add_one, hz, List.map_append]
  rfl
theorem pt_size {ns : List Int} {i : Nat} (h : ns.length ≤ 1000) : ((ns.take i).map V.int).length < sizeLine := by
  rw [List.length_map, List.length_take]
  exact small1000 (by omega)
theorem pt_end {H H' : Hp} {D : Addr} {ns : List Int} {i : Nat} (h : Pt H D ns i H') (hi : ns.length ≤ i) : Same H H' ∧ H' D = some (.lst (ns.map V.int)) := by
  have := h.2
  rw [List.take_of_length_le hi] at this
  exact ⟨h.1, this⟩
/-! ### pairs -/
def PairAt (K : PySem.W.Frag) (H : Hp) (v : V) (x y : Int) : Prop := ∃ t : Addr, v = .ref t ∧ SqT K H t [.int x, .int y]
theorem PairAt.same {K : PySem.W.Frag} {H H' : Hp} {v : V} {x y : Int} (h : PairAt K H v x y) (s : Same H H') : PairAt K H' v x y := by
  obtain ⟨t, e, h⟩ := h
  exact ⟨t, e, Evl.ex_t (show Evl.Ex H H' from s) h⟩
inductive PairsAt (K : PySem.W.Frag) (H : Hp) : List V → List (Int × Int) → Prop
  | nil : PairsAt K H [] []
  | cons {v : V} {vs : List V} {x y : Int} {ps : List (Int × Int)} : PairAt K H v x y → PairsAt K H vs ps → PairsAt K H (v :: vs) ((x, y) :: ps)
theorem PairsAt.get {K : PySem.W.Frag} {H : Hp} : ∀ {vs : List V} {ps : List (Int × Int)}, PairsAt K H vs ps → ∀ {i : Nat} {v : V}, vs[i]? = some v → ∃ x y, ps[i]? = some (x, y) ∧ PairAt K H v x y
  | _, _, .nil, i, v, h => by simp at h
  | _, _, .cons p t, 0, v, h => by cases h; exact ⟨_, _, rfl, p⟩
  | _, _, .cons p t, i + 1, v, h => t.get (i := i) (by simpa using h)
theorem PairsAt.same {K : PySem.W.Frag} {H H' : Hp} (s : Same H H') : ∀ {vs : List V} {ps : List (Int × Int)}, PairsAt K H vs ps → PairsAt K H' vs ps
  | _, _, .nil => .nil
  | _, _, .cons p t => .cons (p.same s) (t.same s)
theorem PairsAt.len {K : PySem.W.Frag} {H : Hp} : ∀ {vs : List V} {ps : List (Int × Int)}, PairsAt K H vs ps → vs.length = ps.length
  | _, _, .nil => rfl
  | _, _, .cons p t => congrArg Nat.succ t.len
def s1 (ps : List (Int × Int)) : Int := (ps.map (·.1)).sum
def s2 (ps : List (Int × Int)) : Int := (ps.map (·.2)).sum
/-- a new pair -/
def NewPair (H : Hp) (x y : Int) (Q : VK) : Prop := ∀ p H', H p = none → Same H H' → H' p = some (.tup [.int x, .int y]) → Q (.ref p) H'
/-! ### tuples stay -/
theorem tup_keep {H H' : Hp} {b sb : Addr} (B : Bag H b sb) (k : Keep b H H') (p : Addr) (xs : List V) (h : H p = some (.tup xs)) : H' p = some (.tup xs) := k _ _ (B.tup h) h
theorem tup_put {H : Hp} {l : Addr} {ys zs : List V} (hl : H l = some (.lst ys)) (p : Addr) (xs : List V) (h : H p = some (.tup xs)) : (upd H l (.lst zs)) p = some (.tup xs) := (upd_ne (ne_of h hl (by intro z; cases z))).trans h
theorem tup_same {H H' : Hp} (s : Same H H') (p : Addr) (xs : List V) (h : H p = some (.tup xs)) : H' p = some (.tup xs) := s _ _ h
/-! ### alike, from its parts -/
/-! ### the sign by squares -/
def ab (i : Int) : Int := if i < 0 then -i else i
def vl (a b d : Int) : Int := a * ab a + d * b * ab b
def sgnI (x : Int) : Int := (if decide (0 < x) = true then 1 else 0) - (if decide (x < 0) = true then 1 else 0)
theorem sgnI_pos {x : Int} (h : 0 < x) : sgnI x = 1 := by
  unfold sgnI
  rw [if_pos (decide_eq_true h), if_neg (by simp; omega)]
  rfl
theorem sgnI_neg {x : Int} (h : x < 0) : sgnI x = -1 := by
  unfold sgnI
  rw [if_neg (by simp; omega), if_pos (decide_eq_true h)]
  rfl
theorem sgnI_zero : sgnI 0 = 0 := by decide
theorem ab_abs (i : Int) : (ab i).natAbs = i.natAbs := by
  unfold ab
  split <;> omega
theorem ab_neg {i : Int} (h : i < 0) : ab i = -i := if_pos h
theorem ab_nn {i : Int} (h : 0 ≤ i) : ab i = i := if_neg (by omega)
section
variable {base : Heap} {K : PySem.W.Frag} {mg : Str → Option Value} {P : Program} {w : World}
def spSign (K : PySem.W.Frag) : Sp := fun vs H Q _ => ∃ (t : Addr) (d a b : Int), vs = [.ref t, .int d] ∧ SqT K H t [.int a, .int b] ∧ d.natAbs < 2 ^ 64 ∧ a.natAbs < 2 ^ 9000 ∧ b.natAbs < 2 ^ 9000 ∧ Q (.int (sgnI (vl a b d))) H
theorem ok_lsign (T : Txt K mg) : FnOk P w K mg base CX0 1 T.f_lsign T.d_lsign ["_law_pair", "_law_root"] (spSign K) := by
  refine T.F_lsign.ok sc_lsign (fun vs H Q E h => ?_) (fun cdv A outer s H vs Q E hr h => ?_)
  · obtain ⟨t, d, a, b, rfl, _⟩ := h
    rfl
  · obtain ⟨t, d, a, b, rfl, hT, d1, a1, b1, q⟩ := h
    refine ⟨_, (pss_cons (ps_set (i := 2) sc_lsign.nd rfl (Or.inl rfl) (pe_op op_add (pe_op op_mulW (pe_ix ix_tup (pv 0) pe_int (fun _ _ => rfl)) (pe_callB call_abs (by rfl) T.n_abs (by decide +kernel) (pa_cons (pe_ix ix_tup (pv 0) pe_int (fun _ _ => rfl)) pa_nil))) (pe_op op_mulW (pe_op op_mulW (pv 1) (pe_ix ix_tup (pv 0) pe_int (fun _ _ => rfl))) (pe_callB call_abs (by rfl) T.n_abs (by decide +kernel) (pa_cons (pe_ix ix_tup (pv 0) pe_int (fun _ _ => rfl)) pa_nil)))))
      (pss_one (ps_ret (pe_op op_sub (pe_callTy call_int1 (by rfl) T.n_int (by decide +kernel) (pa_cons (pe_cmpR op_gt (pv 2) pe_int (nomark _)) pa_nil)) (pe_callTy call_int1 (by rfl) T.n_int (by decide +kernel) (pa_cons (pe_cmpR op_lt (pv 2) pe_int (nomark _)) pa_nil)))))), ?_⟩
    have a2 : (ab a).natAbs < 2 ^ 9000 := by rw [ab_abs]; exact a1
    have b2 : (ab b).natAbs < 2 ^ 9000 := by rw [ab_abs]; exact b1
    have m1 : (d * b).natAbs < 2 ^ (64 + 9000) := wide_lt d1 b1
    refine ⟨_, rfl, t, _, 0, .int a, rfl, rfl, hT, atI_nat (j := 0) rfl, _, rfl, t, _, 0, .int a, rfl, rfl, hT, atI_nat (j := 0) rfl, a, rfl, a, _, rfl, rfl, wide_mul a1 a2 (by decide) (by decide) (by decide),
      _, rfl, _, rfl, t, _, 1, .int b, rfl, rfl, hT, atI_nat (j := 1) rfl, d, b, rfl, rfl, wide_mul d1 b1 (by decide) (by decide) (by decide), _, rfl, t, _, 1, .int b, rfl, rfl, hT, atI_nat (j := 1) rfl, b, rfl, _, _, rfl, rfl, wide_mul m1 b2 (by decide) (by decide) (by decide), _, _, rfl, rfl, ?_⟩
    exact ⟨_, rfl, vl a b d, 0, rfl, rfl, .inr ⟨_, rfl, _, rfl, vl a b d, 0, rfl, rfl, .inr ⟨_, rfl, _, _, rfl, rfl, q⟩⟩⟩
end
/-! ### what is asked of the def that asks -/
section
variable {X : Cx} {k : Nat} {c P0 : Addr} {params : Arguments} {body d : Expr} {v0 : V} {scope : Scope} {t : XK → TE} {p lpos pos : Pos} {b : Str}
theorem one_tab {P0 : Addr} {q : Str} : ∀ p ∈ [(P0, q)], p.1 = P0 → p.2 = q := by
  intro p hp _
  rw [List.mem_singleton.mp hp]
theorem pe_try (T : Txt X.K X.mg) (hg : Gl X "_law_try") (TB : LamX.TabB X.base X.mg c P0) (hcode : X.env.code = .ref c) (hr : Room (k + 3) X.A) (L : LamX.LamS X.env.scope scope) (hdef : defaultsOf params X.env = ([], []))
    (hbind : ∀ (q : Str) (cl : List (Str × Addr)) (pm cv ctv : Value), bindArgs (PySem.W.kla_fn "<lambda>" q params body scope cl pm cv ctv) ⟨[], []⟩ = pure [])
    (hbody : ∀ (A : Around) (outer : List Env) (s : Shared) (H : Hp) (E : XK) (f c' : Addr), Room (k + 1) (A.deeper (LamX.lamEnv X scope s.heap.objs.size f c')) → PE (LamX.lamCx X A outer s H E scope f c') body (t E)) :
    PE X (.Call (.Name "_law_try" p) [.Lambda params body scope lpos] [] pos) (LamX.tLam [(P0, X.env.qual ++ "<lambda>")] (TTry X.K T.r_GrainError) t) := by
  obtain ⟨oc2, od2, kV2, doc2, pm2, an2, cdv2, ct2, osl2, eT, lkT, cdT⟩ := T.F_try.ex
  have bT := T.b_try
  rw [eT] at bT
  rw [eT] at lkT
  exact LamX.pe_lamcall hg T.g_try T.F_try.kp lkT cdT bT sc_try rfl (Or.inl rfl) (try_gives T rfl rfl (k := k) hr) TB hcode (List.mem_singleton.mpr rfl) one_tab hr L hdef hbind hbody
theorem pass_never {X : Cx} {P : Program} {w : World} : Passes (L2.CX P w) X (fun _ _ _ => False) := by
  intro pins σ H s e s' I z
  obtain ⟨_, _, _, _, _, _, _, _, _, _, _, _, he⟩ := z
  exact he.elim
end
/-! ### an error of the first kind, told -/
section
variable {P : Program} {K : PySem.W.Frag} {mg : Str → Option Value} {G : Addr} {st : Stmt} {nm qual : Str} {B newId initId : String} {bmB : List Value}
theorem exm_er (T : Er P K mg B newId initId bmB [.ref G] st nm qual) {cg : ClassData} (hg : PySem.W.clsIn K G = some cg) (tg : PySem.W.typeIn K (.ref G) = some (.type "type")) (sb : PySem.W.subIn K (.ref G) (.type "BaseException") = some true) : PySem.W.exmOne K (.ref T.C) (.ref G) = some true := by
  unfold PySem.W.exmOne
  rw [if_pos (by rw [sb]; rfl)]
  unfold PySem.W.kitCls
  dsimp only
  rw [hg, tg, if_pos (show ((some cg).isSome && some (Value.type "type") == some (Value.type "type")) = true from show (true && some (Value.type "type") == some (Value.type "type")) = true by decide +kernel)]
  show PySem.W.mroIn K T.C (.ref G) = _
  obtain ⟨cd, hc, _, hm⟩ := T.cl
  unfold PySem.W.mroIn
  rw [hc, Option.bind_some, hm]
  show some ((Value.ref T.C :: ([Value.ref G] ++ _)).contains (.ref G)) = some true
  congr 1
  rw [List.contains_cons, List.cons_append, List.contains_cons, beq_self_eq_true]
  simp
theorem raised_er (T : Er P K mg B newId initId bmB [.ref G] st nm qual) {cg : ClassData} (hg : PySem.W.clsIn K G = some cg) (tg : PySem.W.typeIn K (.ref G) = some (.type "type")) (sb : PySem.W.subIn K (.ref G) (.type "BaseException") = some true)
    {w : Str} {fs : List (Str × V)} {v : V} (no : ∀ f v, fs.lookup f = some v → PySem.W.findIn K (.ref T.C) f = some none) (wd : fs.lookup ("word" : Str) = some (.str w)) (fv : fieldVal w fs = some v)
    {Q : VK} {d : Addr} {Hf : Hp} (hd : Hf d = some (.xd fs)) (q : Told Q w v Hf) : Raised K G Q (.ref T.C) (some d) Hf :=
  ⟨exm_er T hg tg sb, w, fs, v, ⟨⟨_, d, rfl, rfl, xfc_of T, hd, no⟩, wd⟩, fv, q⟩
theorem no_two {C : Addr} {f1 : Str} {v1 v2 : V} (h1 : PySem.W.findIn K (.ref C) f1 = some none) (h2 : PySem.W.findIn K (.ref C) "word" = some none) : ∀ f v, List.lookup f [(f1, v1), (("word" : Str), v2)] = some v → PySem.W.findIn K (.ref C) f = some none := by
  intro f v e
  simp only [List.lookup] at e
  split at e
  · rename_i z
    rw [eq_of_beq z]
    exact h1
  · split at e
    · rename_i z
      rw [eq_of_beq z]
      exact h2
    · cases e
theorem no_one {C : Addr} {v2 : V} (h2 : PySem.W.findIn K (.ref C) "word" = some none) : ∀ f v, List.lookup f [(("word" : Str), v2)] = some v → PySem.W.findIn K (.ref C) f = some none := by
  intro f v e
  simp only [List.lookup] at e
  split at e
  · rename_i z
    rw [eq_of_beq z]
    exact h2
  · cases e
end
/-! ### what stays where lambdas are made -/
theorem Bag.extN {H H' : Hp} {b sb : Addr} (B : Bag H b sb) (e : LamX.ExtN H H') : Bag H' b sb := by
  obtain ⟨ns, i, j, m, c, h1, h2, h3, h4, h5, h6⟩ := B
  exact ⟨ns, i, j, m, c, e _ _ h1 (fun _ z => by cases z), e _ _ h2 (fun _ z => by cases z), h3, h4, h5, h6⟩
theorem lst_extN {H H' : Hp} {a : Addr} {xs : List V} (h : H a = some (.lst xs)) (e : LamX.ExtN H H') : H' a = some (.lst xs) := e _ _ h (fun _ z => by cases z)
theorem tup_extN {H H' : Hp} {a : Addr} {xs : List V} (h : H a = some (.tup xs)) (e : LamX.ExtN H H') : H' a = some (.tup xs) := e _ _ h (fun _ z => by cases z)
theorem tabs_keep {H H' : Hp} {b sb : Addr} {T : List (Addr × Str)} (t : LamX.Tabs T H) (B : Bag H b sb) (k : Keep b H H') : LamX.Tabs T H' := by
  intro p hp
  obtain ⟨ps, h1, h2, h3⟩ := t p hp
  obtain ⟨ns, i, j, m, c, B⟩ := B
  refine ⟨ps, k _ _ (ne_of h1 B.hb (by intro z; cases z)) h1, h2, fun pos cv hc => ?_⟩
  obtain ⟨c', e1, e2⟩ := h3 pos cv hc
  exact ⟨c', e1, k _ _ (ne_of e2 B.hb (by intro z; unfold LamX.CodeO at z; cases z)) e2⟩
/-! ### a lambda with one parameter that has a default, handed to a def that calls it -/
/-- its own names are no names of the def around it; none of them is captured -/
structure LamD (N : List Str) (sc scope : Scope) (b : Str) : Prop where
  kind : scope.kind = .function
  co : scope.isCoroutine = false
  gen : scope.isGenerator = false
  par : scope.names.lookup b = some .local
  own : ∀ y ∈ scope.names, (y.2 = .local → y.1 ∉ N) ∧ y.2 ≠ .cell
  free : ∀ y ∈ scope.names, y.2 = .free → sc.names.lookup y.1 = some .cell ∨ sc.names.lookup y.1 = some .free
theorem LamD.has {X : Cx} {scope : Scope} {N : List Str} {b : Str} (L : LamD N X.env.scope scope b) (ok : X.Ok) : ∀ y ∈ scope.names, y.2 = .free → ∃ c, X.env.cells.lookup y.1 = some c := by
  intro y m e
  exact ok.has _ (L.free y m e)
theorem no_frame {X : Cx} {pins : List (Addr × Obj)} {σ : L2.St} {H : Hp} {s : Shared} (I : Inv X pins σ H s) {b : Addr} (ge : s.heap.objs.size ≤ b) : b ∉ frs X.stack := by
  intro m
  rcases List.mem_cons.mp (I.stkSub _ m) with z | z
  · have lt := I.lt
    rw [← z] at lt
    exact Nat.lt_irrefl _ (Nat.lt_of_lt_of_le lt ge)
  · exact I.nofs ge z
section
variable {X : Cx} {pins : List (Addr × Obj)} {σ : L2.St} {H : Hp} {s : Shared}
/-- what stands behind the making: the function at f, its defaults at D -/
structure MadeD (X : Cx) (H1 : Hp) (s' : Shared) (params : Arguments) (body : Expr) (scope : Scope) (f c' D : Addr) (u : Value) : Prop where
  at_f : ∃ doc pm ctv, s'.heap.get? f = some (PySem.W.kdv_obj "<lambda>" (X.env.qual ++ "<lambda>") params (.expr body) scope (cloFrom X.env.cells scope.names []) (.ref D) doc pm c' ctv)
  at_D : s'.heap.get? D = some (PySem.W.kdv_tup [u])
  nf : H1 f = none
  nD : H1 D = none
  ff : f ∉ frs X.stack
  fD : D ∉ frs X.stack
  cd : H1 c' = some (LamX.CodeO c' (X.env.qual ++ "<lambda>"))
theorem lamd_make {T : List (Addr × Str)} {c P : Addr} {params : Arguments} {body d : Expr} {v0 : V} {scope : Scope} {pos : Pos} {Q : Value → Shared → Prop} (I : Inv X pins σ H s) (TB : LamX.TabB X.base X.mg c P) (hcode : X.env.code = .ref c)
    (hm : (P, X.env.qual ++ "<lambda>") ∈ T) (hu : ∀ p ∈ T, p.1 = P → p.2 = X.env.qual ++ "<lambda>") (hT : LamX.Tabs T H) (hk0 : params.kw_defaults = []) (hd : params.defaults = [d]) (pd : PE X d (tC v0)) (hfree : ∀ y ∈ scope.names, y.2 = .free → ∃ c, X.env.cells.lookup y.1 = some c)
    (h : ∀ (f c' D : Addr) (u : Value) (H1 : Hp) (s' : Shared), Inv X pins σ H1 s' → LamX.ExtN H H1 → LamX.Tabs T H1 → MadeD X H1 s' params body scope f c' D u → Q (.ref f) s') :
    wpAny (model X.prog X.w) X.A (eval (.Lambda params body scope pos) X.env) Q X.xe s := by
  refine PySem.W.kdv_lam (by rw [hd]; rfl) hk0 ?_
  rw [hd]
  refine PySem.W.kdv_all1 (thn (pd.run pins s σ H (fun _ H' => H' = H) I rfl) ?_)
  rintro u s1 ⟨v, H', I1, _, rfl⟩
  refine PySem.W.kdv_all0 ?_
  rw [makeFunction_eq]
  simp only [List.zip_nil_right, List.filterMap_nil, List.isEmpty_nil, if_true, pure_bind, List.isEmpty_cons, Bool.false_eq_true, if_false]
  refine wpAny_bind (wpAny_newTextTuple ?_)
  have I2 : Inv X pins σ H' { s1 with heap := s1.heap.push (PySem.W.kdv_tup [u]) } := I1.kept fun b o e => Heap.get?_push_of_some _ e
  have szD : s1.heap.objs.size < (s1.heap.push (PySem.W.kdv_tup [u])).objs.size := by
    rw [Heap.size_push]
    omega
  have at_D : (s1.heap.push (PySem.W.kdv_tup [u])).get? s1.heap.objs.size = some (PySem.W.kdv_tup [u]) := Heap.get?_push_size _ rfl
  have noD : H' s1.heap.objs.size = none := I1.hok.fresh (Nat.le_refl _)
  have frD := no_frame I1 (Nat.le_refl s1.heap.objs.size)
  generalize s1.heap.objs.size = D at *
  generalize hs2 : ({ s1 with heap := s1.heap.push (PySem.W.kdv_tup [u]) } : Shared) = s2 at *
  have e2 : s2.heap = s1.heap.push (PySem.W.kdv_tup [u]) := by rw [← hs2]
  rw [← e2] at szD at_D
  clear hs2 e2
  obtain ⟨ps, hP, ht, ha⟩ := hT _ hm
  have bP : s2.heap.BuiltinsAt X.mg P := TB.bm.keeps I2.bk
  have atP : s2.heap.get? P = some { cls := .none, data := .fields ps } := I2.hok P _ hP
  have DP : D ≠ P := fun z => by rw [z, hP] at noD; cases noD
  cases found : codeAmong pos ps.toList with
  | some cv =>
    obtain ⟨c', rfl, hco⟩ := ha pos cv found
    refine PySem.W.kdv_makeTailHit (mg := X.mg) (c := c) (P := P) (ps := ps) (closure_ok hfree) I2.ok.glob (I2.mod.glob.keeps I2.bk) hcode (TB.code.keeps I2.bk) atP ht found bP ?_
    intro ctv doc h' tk keep sz
    refine h h'.objs.size c' D u H' _ (I2.kept fun b o e => Heap.get?_push_of_some _ (keep b o e)) (LamX.ExtN.refl _) hT ⟨⟨_, _, _, Heap.get?_push_size _ rfl⟩, Heap.get?_push_of_some _ (keep _ _ at_D), I2.hok.fresh sz, noD, no_frame I2 sz, frD, hco⟩
  | none =>
    refine PySem.W.kdv_makeTail (mg := X.mg) (c := c) (P := P) (ps := ps) (closure_ok hfree) I2.ok.glob (I2.mod.glob.keeps I2.bk) hcode (TB.code.keeps I2.bk) atP ht found TB.gP bP ?_
    rintro c' ctv doc h' tk hx ge lt ⟨c2, oc, vs, t, e2, hoc, hdat, hv⟩ htb
    cases e2
    have newC : H' c' = none := I2.hok.fresh ge
    have sz : s2.heap.objs.size ≤ h'.objs.size := by omega
    have J := LamX.inv_table (t' := tk) (more := #[rawInt pos.line, rawInt pos.col, .ref c']) (h' := h'.push (PySem.W.kdv_obj "<lambda>" (X.env.qual ++ "<lambda>") params (.expr body) scope (cloFrom X.env.cells scope.names []) (.ref D) doc ((X.mg "__name__").getD .none) c' ctv)) I2 hP
      (fun b o hb e => Heap.get?_push_of_some _ (hx b o hb e)) (Heap.get?_push_of_some _ htb) ge ⟨oc, vs, t, Heap.get?_push_of_some _ hoc, hdat, hv⟩
    have ext : LamX.ExtN H' (upd (upd H' P (.tbl (ps ++ #[rawInt pos.line, rawInt pos.col, .ref c']))) c' (LamX.CodeO c' (X.env.qual ++ "<lambda>"))) := by
      intro b o e n
      have bP : b ≠ P := fun z => by rw [z, hP] at e; exact n _ (Option.some.inj e).symm
      rw [upd_ne (ne_of_none e newC), upd_ne bP]
      exact e
    refine h h'.objs.size c' D u _ _ J ext (fun p hp => ?_) ⟨⟨_, _, _, Heap.get?_push_size _ rfl⟩, Heap.get?_push_of_some _ (hx _ _ DP at_D), ?_, ?_, no_frame I2 sz, frD, upd_same⟩
    · by_cases isP : p.1 = P
      · rw [hu p hp isP, isP]
        have lst : (ps ++ #[rawInt pos.line, rawInt pos.col, .ref c']).toList = ps.toList ++ [rawInt pos.line, rawInt pos.col, .ref c'] := by simp
        refine ⟨ps ++ #[rawInt pos.line, rawInt pos.col, .ref c'], by rw [upd_ne (ne_of_none hP newC), upd_same], lst ▸ PySem.TriplesOk_snoc _ _ _ _ ht, fun p' cv am => ?_⟩
        rcases LamX.among_app _ ht (lst ▸ am) with z | z
        · obtain ⟨c0, z1, z2⟩ := ha p' cv z
          exact ⟨c0, z1, ext _ _ z2 LamX.codeO_ne⟩
        · exact ⟨c', z, upd_same⟩
      · obtain ⟨ps', a1, a2, a3⟩ := hT p hp
        refine ⟨ps', by rw [upd_ne (ne_of_none a1 newC), upd_ne isP]; exact a1, a2, fun p' cv am => ?_⟩
        obtain ⟨c0, z1, z2⟩ := a3 p' cv am
        exact ⟨c0, z1, ext _ _ z2 LamX.codeO_ne⟩
    · rw [upd_ne (Nat.ne_of_gt lt), upd_ne (Nat.ne_of_gt (Nat.lt_of_lt_of_le (Heap.lt_size atP) sz))]
      exact I2.hok.fresh sz
    · rw [upd_ne (Nat.ne_of_lt (Nat.lt_of_lt_of_le szD ge)), upd_ne DP]
      exact noD
end
section
variable {X : Cx} {pins : List (Addr × Obj)} {σ : L2.St} {H HZ : Hp} {s s1 : Shared}
theorem lamd_start {A : Around} {outer : List Env} {E : XK} {scope : Scope} {f c' : Addr} {h₁ : Heap} {tk : Nat} {b : Str} {m : Str → Option Value} (I : Inv X pins σ H s) (L : LamD X.N X.env.scope scope b) (e0 : Env0 X.prog X.w X.K X.mg X.base A outer s1 HZ) (hd : A.handled = none)
    (un : Un (frs X.stack) [] H HZ s.heap s1.heap) (hns : h₁.Ns s1.heap.objs.size m) (kp : ∀ b o, s1.heap.get? b = some o → h₁.get? b = some o) :
    Inv (LamX.lamCx X A outer s1 HZ E scope f c') [] σ HZ { s1 with heap := h₁, toks := tk } := by
  have caught : ∀ {y c}, (cloFrom X.env.cells scope.names []).lookup y = some c → X.env.cells.lookup y = some c := by
    intro y c e
    rcases cloFrom_mem (PySem.mem_of_lookup e) with z | ⟨z1, z2⟩
    · cases z
    obtain ⟨c1, hc⟩ := L.has I.ok _ z1 rfl
    have hc : X.env.cells.lookup y = some c1 := hc
    rw [hc, z2, hc]
    rfl
  have held : ∀ {y}, scope.names.lookup y = some .free → ∃ c, (cloFrom X.env.cells scope.names []).lookup y = some c := by
    intro y e
    exact mem_lookup (cloFrom_has (cells := X.env.cells) (acc := []) (show (y, NameKind.free) ∈ scope.names from PySem.mem_of_lookup e))
  have stays : ∀ {c : Addr} {v : Option Value}, H c = none → s.heap.IsCell c v → h₁.IsCell c v := by
    rintro c v n ⟨o, ho, hd⟩
    obtain ⟨sl, q⟩ := un.any ho n (List.not_mem_nil)
    exact ⟨_, kp _ _ q, hd⟩
  constructor
  · constructor
    · exact e0.mod
    · exact L.kind
    · rfl
    · rfl
    · exact Nat.le_refl _
    · exact fun y z c e1 e2 => I.ok.inj y z c (caught e1) (caught e2)
    · intro y hy
      rcases (show scope.names.lookup y = some .cell ∨ scope.names.lookup y = some .free from hy) with z | z
      · exact absurd rfl (L.own _ (PySem.mem_of_lookup z)).2
      · exact held z
    · intro y c z
      exact nomatch (show false = true from z)
    · exact fun _ => hd
    · exact Around.frames_deeper e0.frames
    · exact .inr ⟨rfl, rfl⟩
    · exact fun b z => nomatch (show b ∈ ([] : List Addr) from z)
    · exact e0.bs
    · exact e0.bsz
    · exact fun b _ _ z => nomatch (show b ∈ ([] : List Addr) from z)
    · exact fun b z => nomatch (show b ∈ ([] : List Addr) from z)
    · exact e0.funs
    · exact e0.frf
  · rfl
  · exact e0.bare
  · exact Un.kept kp
  · refine ⟨_, hns, fun i y v e1 e2 e3 => ?_⟩
    rcases (show Vis scope y from e3) with z | z | z
    · exact absurd (List.mem_of_getElem? (show X.N[i]? = some y from e1)) ((L.own _ (PySem.mem_of_lookup z)).1 rfl)
    · exact absurd rfl (L.own _ (PySem.mem_of_lookup z)).2
    · have from_ := L.free _ (PySem.mem_of_lookup z) rfl
      obtain ⟨_, _, look⟩ := I.loc
      obtain ⟨u, r, q⟩ := look i y v e1 e2 (from_.elim (fun k => .inr (.inl k)) fun k => .inr (.inr k))
      obtain ⟨c2, h2⟩ := held z
      refine ⟨u, r, .inr ⟨.inr z, c2, h2, ?_⟩⟩
      rcases q with ⟨k, _⟩ | ⟨_, c3, e', isC⟩
      · exfalso
        have k : X.env.scope.names.lookup y = some .local := k
        rcases from_ with k2 | k2 <;> rw [show X.env.scope.names.lookup y = _ from k2] at k <;> cases k
      · rw [caught h2] at e'
        cases e'
        exact stays (I.freeC y _ (caught h2)) isC
  · intro y c e
    obtain ⟨v, isC⟩ := I.cell y c (caught e)
    exact ⟨v, stays (I.freeC y c (caught e)) isC⟩
  · exact e0.hok.fresh (Nat.le_refl _)
  · intro y c e
    obtain ⟨v, o, ho, _⟩ := I.cell y c (caught e)
    exact un.free c o ho (I.freeC y c (caught e)) (List.not_mem_nil)
  · exact fun q z => nomatch (show q ∈ ([] : List (Addr × Obj)) from z)
  · exact e0.hok.kept kp
  · exact I.len
theorem pe_actD {CXg : CXT} {Eg : XK} {Ng : List Str} {qg : Str} {sg : Scope} {g f c' D : Addr} {u cdg : Value} {params : Arguments} {body : Expr} {scope : Scope} {k i : Nat} {a b : Str} {pn : List (Addr × Obj)} {xe : Value → Shared → Prop} {W : WX} {E : XK} {tb : TE} {p1 p2 : Pos}
    (I : Inv X pins σ H s) (L : LamD X.N X.env.scope scope b) (made : MadeD X H s params body scope f c' D u)
    (hbind : ∀ (q : Str) (cl : List (Str × Addr)) (D : Addr) (u doc pm cv ctv : Value), ∃ k, bindArgs (PySem.W.kdv_fn "<lambda>" q params (.expr body) scope cl (.ref D) doc pm cv ctv) ⟨[], []⟩ = seqItems? (.ref D) >>= k ∧ k (some #[u]) = pure [(b, u)])
    (tk : Takes ((cxOf CXg X.prog X.w X.K X.mg X.base Ng qg sg g cdg X.A X.stack s H Eg).tr pn xe) W) (hW : ∀ cls d σ' H', E cls d H' → W cls d σ' H') (hr : Room (k + 1) (X.A.deeper (envOfC qg sg s.heap.objs.size g cdg)))
    (hbody : ∀ (A : Around) (outer : List Env) (s : Shared) (H : Hp), Room k (A.deeper (LamX.lamEnv X scope s.heap.objs.size f c')) → PE (LamX.lamCx X A outer s H E scope f c') body tb)
    (hN : Ng[i]? = some a) (hv : Vis sg a) (hd : (a == ("__debug__" : Str)) = false := by decide) (hcd : (a == ("__classdict__" : Str)) = false := by decide) :
    PE ((cxOf CXg X.prog X.w X.K X.mg X.base Ng qg sg g cdg X.A X.stack s H Eg).tr pn xe) (.Call (.Name a p1) [] [] p2)
      (fun σZ HZ Q => σZ[i]? = some (some (.ref f)) ∧ HZ c' = some (LamX.CodeO c' (X.env.qual ++ "<lambda>")) ∧ tb σ HZ Q) := by
  constructor
  rintro pinsZ sZ σZ HZ Q IZ ⟨hs, hc, ht⟩
  apply wpAny_Call_Name_kw
  refine thn ((pe_var (pos := p1) (i := i) hN hv hd hcd).run pinsZ sZ σZ HZ (fun v H1 => v = .ref f ∧ H1 = HZ) IZ ⟨.ref f, hs, rfl, rfl⟩) ?_
  rintro u1 s1 ⟨v, H1, I1, r1, rfl, rfl⟩
  cases (show u1 = Value.ref f from r1)
  obtain ⟨doc, pm, ctv, at_f⟩ := made.at_f
  have of1 := I1.base.keep f _ at_f made.nf made.ff (fun z => nomatch (show f ∈ ([] : List Addr) from z))
  have oD := I1.base.keep D _ made.at_D made.nD made.fD (fun z => nomatch (show D ∈ ([] : List Addr) from z))
  refine PySem.W.callWith_F0 ⟨_, _, _, _, of1⟩ ?_
  have un : Un (frs X.stack) [] H H1 s.heap s1.heap := I1.base
  obtain ⟨⟨oc, vs, t, hoc, hdc, hvc⟩, _, _⟩ := I1.hok c' _ hc
  obtain ⟨kb, b1, b2⟩ := hbind (X.env.qual ++ "<lambda>") (cloFrom X.env.cells scope.names []) D u doc pm (.ref c') ctv
  have bd : BindsTo s1 (PySem.W.kdv_fn "<lambda>" (X.env.qual ++ "<lambda>") params (.expr body) scope (cloFrom X.env.cells scope.names []) (.ref D) doc pm (.ref c') ctv) ⟨[], []⟩ [(b, u)] := BindsTo.of_defaults rfl oD rfl b1 b2
  have rc : codeAny (model X.prog X.w) (X.A.deeper (envOfC qg sg s.heap.objs.size g cdg)) (.call (.ref f) ⟨[], []⟩) (CR (L2.CX X.prog X.w) (envOfC qg sg s.heap.objs.size g cdg :: X.stack) X.prog X.w H1 s1 Q E) s1 := by
    refine PySem.W.kla_callFunE hr.depth of1 rfl L.co L.gen rfl ⟨c', oc, vs, t, rfl, hoc, hdc, hvc⟩ (bd _ _ _ _ ?_)
    refine wpAny_newFunctionEnv (fun y hy => (L.own y hy).2) (fun y hy => ?_) (fun h₁ hns hsb => ⟨I1.nolimit.fresh _ hsb, ?_⟩) L.kind
    · cases List.mem_singleton.mp hy
      exact L.par
    show codeAny _ _ (.expr body (LamX.lamEnv X scope s1.heap.objs.size f c')) _ _
    have kp : ∀ b o, s1.heap.get? b = some o → h₁.get? b = some o := fun b o e => hsb.extBut b o (Nat.ne_of_lt (Heap.lt_size e)) (Heap.get?_push_of_some _ e)
    have J : Inv (LamX.lamCx X (X.A.deeper (envOfC qg sg s.heap.objs.size g cdg)) (envOfC qg sg s.heap.objs.size g cdg :: X.stack) s1 H1 E scope f c') [] σ H1 { s1 with heap := h₁, toks := s1.toks + [(b, u)].length } :=
      lamd_start I L I1.env0 hr.hd un hns kp
    apply PySem.W.kla_codeExpr
    refine wpAny_mono ((hbody _ _ s1 H1 (hr.deeper _)).run [] _ _ H1 Q J ht) ?_ (fun _ _ z => z)
    rintro v' s' ⟨w', H', J', rv, q⟩
    exact ⟨w', H', J'.os, J'.bare, J'.base, J'.hok, rv, q⟩
  have hx : Passes (L2.CX X.prog X.w) ((cxOf CXg X.prog X.w X.K X.mg X.base Ng qg sg g cdg X.A X.stack s H Eg).tr pn xe) E := passes_call tk hW
  refine wpAny_call (codeAny_mono rc fun r s' hq => ?_)
  cases r with
  | error e => exact hx pinsZ σZ H1 s1 e s' I1 hq
  | ok fl =>
    cases fl with
    | ret u => exact I1.after hq
    | next => exact False.elim hq
    | brk => exact False.elim hq
    | cont => exact False.elim hq
end
/-- x(lambda b=..: body) -/
theorem pe_lamcallD {X : Cx} {T : List (Addr × Str)} {TT : (XK → Hp → VK → Prop) → Hp → VK → Prop} {x a b : Str} {g c P : Addr} {k : Nat} {pg : Arguments} {bg : List Stmt} {sg : Scope} {dV kV doc pm cdv ct oc : Value} {an od : Option Addr} {osl : Array (Option Value)} {Ng : List Str}
    {params : Arguments} {body d : Expr} {v0 : V} {scope : Scope} {t : XK → TE} {p lpos pos : Pos} (hg : Gl X x) (hm : X.mg x = some (.ref g)) (hk : PySem.W.keepIn X.K (.ref g) = true)
    (lk : X.K.lookup g = some ⟨oc, od, .func (PySem.W.fnOf x x pg bg sg dV kV doc pm an cdv ct), osl⟩) (hcg : PySem.W.codeIn X.K cdv x = true) (hb : L2.Binds X.K (PySem.W.fnOf x x pg bg sg dV kV doc pm an cdv ct) [a] []) (Sg : FnScope Ng [a] sg) (hNg : Ng[0]? = some a) (hva : Vis sg a)
    (hG : LamX.GivesTo X Ng x sg g cdv bg a (X.env.qual ++ "<lambda>") TT)
    (TB : LamX.TabB X.base X.mg c P) (hcode : X.env.code = .ref c) (hmT : (P, X.env.qual ++ "<lambda>") ∈ T) (hu : ∀ p ∈ T, p.1 = P → p.2 = X.env.qual ++ "<lambda>") (hr : Room (k + 2) X.A) (L : LamD X.N X.env.scope scope b) (hk0 : params.kw_defaults = []) (hd0 : params.defaults = [d]) (pd : PE X d (tC v0))
    (hbind : ∀ (q : Str) (cl : List (Str × Addr)) (D : Addr) (u doc pm cv ctv : Value), ∃ k, bindArgs (PySem.W.kdv_fn "<lambda>" q params (.expr body) scope cl (.ref D) doc pm cv ctv) ⟨[], []⟩ = seqItems? (.ref D) >>= k ∧ k (some #[u]) = pure [(b, u)])
    (hbody : ∀ (A : Around) (outer : List Env) (s : Shared) (H : Hp) (E : XK) (f c' : Addr), Room k (A.deeper (LamX.lamEnv X scope s.heap.objs.size f c')) → PE (LamX.lamCx X A outer s H E scope f c') body (t E))
    (hdb : (x == ("__debug__" : Str)) = false := by decide) (hd : (a == ("__debug__" : Str)) = false := by decide) (hcd : (a == ("__classdict__" : Str)) = false := by decide) :
    PE X (.Call (.Name x p) [.Lambda params body scope lpos] [] pos) (LamX.tLam T TT t) := by
  constructor
  rintro pins s σ H Q I ⟨hT, h⟩
  apply wpAny_Call_Name_kw
  refine ld_glob I hg hm ?_ hdb
  refine PySem.W.callWith_K (h₀ := X.base) I.ok.mod.kin hk ?_ (by rfl) (by rfl)
  show wpAny _ _ (spliced ((false, eval (.Lambda params body scope lpos) X.env) :: backTo pos (starEach [] X.env))) _ _ s
  apply Calls.spliced_cons
  refine lamd_make I TB hcode hmT hu hT hk0 hd0 pd (L.has I.ok) ?_
  intro f c' D u H1 s' I1 eN T1 made
  refine Calls.spliced_nil ⟨I1.kIn, ?_⟩
  have rc : codeAny (model X.prog X.w) X.A (.call (.ref g) ⟨[.ref f], []⟩) (CR C8.CX0 X.stack X.prog X.w H1 s' Q C8.E0) s' := by
    refine LamX.run_ofS (N := Ng) (ps := [a]) (us := [.ref f]) (vs := [.ref f]) lk hcg Sg hr I1.env0 (hb s' [.ref f] I1.kIn rfl) (.cons rfl .nil) rfl fun hr' => ?_
    obtain ⟨t', ht', hq'⟩ := hG f c' s' H1 Q (fun E H' Q' => t E σ H' Q') (fun W pn xe E p1 p2 tk hW => pe_actD (i := 0) I1 L made hbind tk hW hr' (fun A outer s H hr2 => hbody A outer s H E f c' hr2) hNg hva hd hcd) made.cd (h H1 eN T1)
    exact ⟨t', ht'.nox, hq'⟩
  refine wpAny_call (codeAny_mono rc fun r s2 hq => ?_)
  cases r with
  | error e => exact (show False from hq).elim
  | ok fl =>
    cases fl with
    | ret u => exact I1.after hq
    | next => exact False.elim hq
    | brk => exact False.elim hq
    | cont => exact False.elim hq
/-! ### a lambda with a default, asked -/
section
variable {X : Cx} {k : Nat} {c P0 : Addr} {params : Arguments} {body d : Expr} {v0 : V} {scope : Scope} {t : XK → TE} {p lpos pos : Pos} {b : Str}
theorem pe_tryD (T : Txt X.K X.mg) (hg : Gl X "_law_try") (TB : LamX.TabB X.base X.mg c P0) (hcode : X.env.code = .ref c) (hr : Room (k + 3) X.A) (L : LamD X.N X.env.scope scope b) (hk0 : params.kw_defaults = []) (hd0 : params.defaults = [d]) (pd : PE X d (tC v0))
    (hbind : ∀ (q : Str) (cl : List (Str × Addr)) (D : Addr) (u doc pm cv ctv : Value), ∃ k, bindArgs (PySem.W.kdv_fn "<lambda>" q params (.expr body) scope cl (.ref D) doc pm cv ctv) ⟨[], []⟩ = seqItems? (.ref D) >>= k ∧ k (some #[u]) = pure [(b, u)])
    (hbody : ∀ (A : Around) (outer : List Env) (s : Shared) (H : Hp) (E : XK) (f c' : Addr), Room (k + 1) (A.deeper (LamX.lamEnv X scope s.heap.objs.size f c')) → PE (LamX.lamCx X A outer s H E scope f c') body (t E)) :
    PE X (.Call (.Name "_law_try" p) [.Lambda params body scope lpos] [] pos) (LamX.tLam [(P0, X.env.qual ++ "<lambda>")] (TTry X.K T.r_GrainError) t) := by
  obtain ⟨oc2, od2, kV2, doc2, pm2, an2, cdv2, ct2, osl2, eT, lkT, cdT⟩ := T.F_try.ex
  have bT := T.b_try
  rw [eT] at bT
  rw [eT] at lkT
  exact pe_lamcallD hg T.g_try T.F_try.kp lkT cdT bT sc_try rfl (Or.inl rfl) (try_gives T rfl rfl (k := k) hr) TB hcode (List.mem_singleton.mpr rfl) one_tab hr L hk0 hd0 pd hbind hbody
end
/-! ### steps as data -/
inductive Itm where
  | str (s : Str)
  | int (n : Int)
  | pair (a b : Int)
  | sheet (x : Sh)
  | non
abbrev words : List Str := ["saw", "split", "glue", "stack", "turn"]
/-- a text at the first place is one of the words -/
def Headed (ts : List Itm) : Prop := ∀ s r, ts = .str s :: r → s ∈ words
/-- what stands for an item -/
def ItAt (H : Hp) (v : V) : Itm → Prop
  | .str s => v = .str s
  | .non => v = .non
  | .int n => v = .int n
  | .pair a b => ∃ p, v = .ref p ∧ H p = some (.tup [.int a, .int b])
  | .sheet x => ∃ p, v = .ref p ∧ ShAt H p x
theorem ItAt.mono {H H' : Hp} (k : ∀ p xs, H p = some (.tup xs) → H' p = some (.tup xs)) {v : V} {t : Itm} (h : ItAt H v t) : ItAt H' v t := by
  cases t with
  | non => exact h
  | str s => exact h
  | int n => exact h
  | pair a b =>
    obtain ⟨p, e, h⟩ := h
    exact ⟨p, e, k _ _ h⟩
  | sheet x =>
    obtain ⟨p, e, h⟩ := h
    exact ⟨p, e, h.mono k⟩
theorem ItAt.same {H H' : Hp} (s : Same H H') {v : V} {t : Itm} (h : ItAt H v t) : ItAt H' v t := h.mono fun _ _ z => s _ _ z
def StepAt (H : Hp) (p : Addr) (ts : List Itm) : Prop := ∃ vs, H p = some (.tup vs) ∧ Paired (ItAt H) vs ts
theorem StepAt.mono {H H' : Hp} (k : ∀ p xs, H p = some (.tup xs) → H' p = some (.tup xs)) {p : Addr} {ts : List Itm} (h : StepAt H p ts) : StepAt H' p ts := by
  obtain ⟨vs, h1, h2⟩ := h
  refine ⟨vs, k _ _ h1, ?_⟩
  clear h1
  induction h2 with
  | nil => exact .nil
  | cons r _ ih => exact .cons (r.mono k) ih
theorem StepAt.same {H H' : Hp} (s : Same H H') {p : Addr} {ts : List Itm} (h : StepAt H p ts) : StepAt H' p ts := h.mono fun _ _ z => s _ _ z
def pairB : Itm → Bool
  | .pair _ _ => true
  | _ => false
def sheetB : Itm → Bool
  | .sheet _ => true
  | _ => false
def sideB : Itm → Bool
  | .str s => decide (s = "across" ∨ s = "along")
  | _ => false
def leastB (n : Int) : Itm → Bool
  | .int m => decide (n ≤ m)
  | _ => false
/-! ### texts: numbers, pieces of three, lines -/
def decT (n : Int) : Str := Str.ofString (toString n)
theorem neg_text {n : Int} (h : n < 0) : Str.ofString "-" ++ decT (-n) = decT n := by
  match n, h with
  | Int.negSucc m, _ =>
    apply TL.ext_tl
    rw [TL.tl_append]
    unfold decT
    rw [TL.tl_ofString, TL.tl_ofString, TL.tl_ofString, ← List.map_append, ← String.toList_append]
    rfl
def sgT (b : Int) : Str := if 0 < b then Str.ofString "+" else Str.ofString ""
def pairT (a b : Int) : Str := if b = 0 then decT a else if a = 0 then decT b ++ Str.ofString "r" else decT a ++ sgT b ++ decT b ++ Str.ofString "r"
theorem empty_str : Str.ofString "" = Str.empty := by decide +kernel
theorem join_len_le (y : Str) : ∀ ps : List Str, (Str.join y ps).length ≤ (ps.map (·.length)).sum + ps.length * y.length
  | [] => by
    show (0 : Nat) ≤ _
    exact Nat.zero_le _
  | [x] => by
    show x.length ≤ _
    simp only [List.map_cons, List.map_nil, List.sum_cons, List.sum_nil]
    omega
  | x :: z :: r => by
    have ih := join_len_le y (z :: r)
    show (x ++ y ++ Str.join y (z :: r)).length ≤ _
    rw [Str.length_append, Str.length_append]
    simp only [List.map_cons, List.sum_cons, List.length_cons, Nat.succ_mul] at ih ⊢
    omega
theorem join_snoc (x : Str) : ∀ ls : List Str, Str.join (Str.ofString "") (ls ++ [x]) = Str.join (Str.ofString "") ls ++ x
  | [] => by
    show x = Str.empty ++ x
    rw [Str.empty_append]
  | [y] => by
    show y ++ Str.ofString "" ++ x = y ++ x
    rw [empty_str, Str.append_empty]
  | y :: z :: r => by
    have ih := join_snoc x (z :: r)
    show y ++ Str.ofString "" ++ Str.join (Str.ofString "") (z :: (r ++ [x])) = y ++ Str.ofString "" ++ Str.join (Str.ofString "") (z :: r) ++ x
    rw [show z :: (r ++ [x]) = (z :: r) ++ [x] from rfl, ih, Str.append_assoc, Str.append_assoc, Str.append_assoc]
abbrev mkS (l : List Nat) : Str := ⟨l.toArray⟩
theorem mkS_len (l : List Nat) : (mkS l).length = l.length := by
  rw [TL.len_tl, TL.tl_mk]
/-- the pieces of three behind the first f signs -/
def pcs (z : List Nat) (f k : Nat) : List Str := (List.range k).map fun i => mkS ((z.drop (f + 3 * i)).take 3)
/-- the same from the end, as the law finds them -/
def pcsR (z : List Nat) (j : Nat) : List Str := (List.range j).map fun i => mkS ((z.drop (z.length - 3 * (i + 1))).take 3)
theorem pcs_rev {z : List Nat} {f k : Nat} (h : z.length = f + 3 * k) : (pcsR z k).reverse = pcs z f k := by
  apply List.ext_getElem?
  intro i
  unfold pcs pcsR
  by_cases hi : i < k
  · rw [List.getElem?_reverse (by simpa using hi), List.length_map, List.length_range, List.getElem?_map, List.getElem?_map, List.getElem?_range (by omega), List.getElem?_range hi]
    simp only [Option.map_some]
    rw [show z.length - 3 * (k - 1 - i + 1) = f + 3 * i by omega]
  · rw [List.getElem?_eq_none (by simp; omega), List.getElem?_eq_none (by simp; omega)]
def frs (n : Nat) : Nat := if n = 0 then 3 else (n - 1) % 3 + 1
def grpT (z : Str) : Str := Txt.join (Str.ofString ",") (mkS (z.cps.toList.take (frs z.length)) :: pcs z.cps.toList (frs z.length) ((z.length - 1) / 3))
theorem pcs_len {z : List Nat} {f k : Nat} : ∀ y ∈ pcs z f k, y.length ≤ 3 := by
  intro y hy
  obtain ⟨i, _, rfl⟩ := List.mem_map.mp hy
  rw [mkS_len, List.length_take]
  exact Nat.min_le_left _ _
theorem sum_le_three : ∀ {ps : List Str}, (∀ y ∈ ps, y.length ≤ 3) → (ps.map (·.length)).sum ≤ 3 * ps.length
  | [], _ => Nat.zero_le _
  | y :: ps, h => by
    have := sum_le_three fun z hz => h z (List.mem_cons_of_mem y hz)
    have := h y List.mem_cons_self
    simp only [List.map_cons, List.sum_cons, List.length_cons]
    omega
theorem frs_le (n : Nat) : frs n ≤ 3 := by
  unfold frs
  split <;> omega
theorem grp_all (z : Str) : ∀ y ∈ mkS (z.cps.toList.take (frs z.length)) :: pcs z.cps.toList (frs z.length) ((z.length - 1) / 3), y.length ≤ 3 := by
  intro y hy
  rcases List.mem_cons.mp hy with rfl | h
  · rw [mkS_len, List.length_take]
    exact Nat.le_trans (Nat.min_le_left _ _) (frs_le _)
  · exact pcs_len y h
theorem grp_len (z : Str) : (grpT z).length ≤ 4 * ((z.length - 1) / 3 + 1) := by
  unfold grpT
  rw [TL.join_eq]
  refine Nat.le_trans (join_len_le _ _) ?_
  have h := sum_le_three (grp_all z)
  have e : (Str.ofString ",").length = 1 := by decide +kernel
  rw [e]
  simp only [List.length_cons] at h ⊢
  have l : (pcs z.cps.toList (frs z.length) ((z.length - 1) / 3)).length = (z.length - 1) / 3 := by
    unfold pcs
    rw [List.length_map, List.length_range]
  rw [l] at h ⊢
  omega
theorem just_len (x : Str) (i : Int) : (Txt.ljust x i).length ≤ x.length + i.toNat ∧ (Txt.rjust x i).length ≤ x.length + i.toNat := by
  have key : ∀ {l : List Nat} {y : Str}, y.cps.toList = l → y.length = l.length := fun h => (TL.len_tl _).trans (congrArg List.length h)
  constructor
  · rw [show Txt.ljust x i = Txt.ljustF x i 32 from rfl, key (PyProof.Rows.ljustF_list x i 32), List.length_append, List.length_replicate, ← TL.len_tl]
    omega
  · rw [show Txt.rjust x i = Txt.rjustF x i 32 from rfl, key (PyProof.Rows.rjustF_list x i 32), List.length_append, List.length_replicate, ← TL.len_tl]
    omega
def lineT (x : Int × Int × Int × Int) (n wh : Int) : Str :=
  Txt.rjust (decT n) 8 ++ Str.ofString "  " ++ (Txt.ljust (pairT x.1 x.2.1) 14 ++ Str.ofString "  " ++ Txt.ljust (pairT x.2.2.1 x.2.2.2) 14) ++ Str.ofString "  " ++ Txt.rjust (grpT (decT wh)) 12 ++ Str.ofString "\n"
/-! ### the texts of numbers, of pairs -/
theorem ps_never {X : Cx} {st : Stmt} : PS X st (fun _ _ _ => False) := ⟨fun _ _ _ _ _ _ h => h.elim⟩
theorem log2_lt_of {m k : Nat} (h : m < 2 ^ k) (hk : 0 < k) : m.log2 < k := by
  by_cases z : m = 0
  · rw [z]
    simpa using hk
  · exact (Nat.log2_lt z).mpr h
theorem text_len {n : Int} (h : n.natAbs < 10 ^ 64) : n.natAbs.log2 < 1920 ∧ (decT n).length ≤ 70 := by
  refine ⟨log2_lt_of (Nat.lt_of_lt_of_le h (by decide)) (by decide), ?_⟩
  have e := int_text_length_le10 (k := 64) (by decide) h
  unfold decT
  rw [PySem.ofString_length]
  omega
theorem dV' {x y : Int} : decide (V.int x = V.int y) = decide (x = y) := by
  by_cases h : x = y
  · rw [decide_eq_true h, h, decide_eq_true rfl]
  · rw [decide_eq_false h, decide_eq_false fun z => h (V.int.inj z)]
theorem sz_eq : sizeLine = 16777216 := rfl
section
variable {base : Heap} {K : PySem.W.Frag} {mg : Str → Option Value} {P : Program} {w : World}
def spDecL (L : Int → Prop) : Sp := fun vs H Q _ => ∃ n : Int, vs = [.int n] ∧ n.natAbs < 10 ^ 64 ∧ L n ∧ ∀ H', Same H H' → Q (.str (decT n)) H'
theorem dec_core (T : Txt K mg) {k : Nat} {sp' : Sp} {L : Int → Prop} (G : FnOk P w K mg base CX0 k T.f_decimal_text T.d_decimal_text ["number"] sp')
    (neg : ∀ (n : Int) (H : Hp) (Q : VK), L n → n < 0 → n.natAbs < 10 ^ 64 → (∀ H', Same H H' → Q (.str (decT (-n))) H') → sp' [.int (-n)] H Q E0) : FnOk P w K mg base CX0 (k + 1) T.f_decimal_text T.d_decimal_text ["number"] (spDecL L) := by
  refine T.F_decimal_text.ok sc_decimal_text (fun vs H Q E h => ?_) (fun cdv A outer s H vs Q E hr h => ?_)
  · obtain ⟨n, rfl, _⟩ := h
    rfl
  · obtain ⟨n, rfl, hn, hL, q⟩ := h
    refine ⟨_, (pss_cons (ps_if (pt_cmpR op_lt (pv 0) pe_int (nomark _)) (pss_one (ps_ret (pe_joined (.cons pe_str (.cons (pe_fmt (pe_call G hr (by rfl) T.g_decimal_text T.F_decimal_text.kp T.b_decimal_text .nil pass0 (pa_cons (pe_un un_neg (pv 0)) pa_nil))) .nil))))) pss_nil)
      (pss_cons (ps_set (i := 1) sc_decimal_text.nd rfl (Or.inl rfl) (pv 0))
      (pss_cons (ps_set (i := 2) sc_decimal_text.nd rfl (Or.inl rfl) (pe_lst pa_nil))
      (pss_cons (ps_while PassesOwn.never (pt_cmpR op_ge (pv 1) (pe_glob (v := .int (10 ^ 64)) (by rfl) T.g_GROUP T.rv_GROUP) (nomark _)) (pss_cons ps_never
      (pss_one ps_never)))
      (pss_cons (ps_expr (pe_bm PySem.F.plainAttrs_list PySem.F.slot_list_append PySem.F.type_list_append mt_append (pv 2) (pa_cons (pe_callTy call_str_int (by rfl) T.n_str (by decide +kernel) (pa_cons (pv 1) pa_nil)) pa_nil)))
      (pss_one (ps_ret (pe_join pe_str (pe_revL (pv 2)))))))))), ?_⟩
    refine ⟨_, rfl, n, 0, rfl, rfl, _, rfl, ?_⟩
    by_cases hneg : n < 0
    · rw [decide_eq_true hneg]
      obtain ⟨g1, g2⟩ := text_len (n := -n) (by omega)
      have e0 : Str.empty ++ Str.ofString "-" = Str.ofString "-" := Str.empty_append _
      have l0 : (Str.ofString "-").length = 1 := by decide +kernel
      refine iteT ⟨_, rfl, by rw [e0, l0, sz_eq]; decide, _, rfl, n, rfl, neg n H _ hL hneg hn fun H' s' => .inl ⟨_, rfl, by rw [sz_eq]; omega, _, rfl, ?_, ?_⟩⟩
      · rw [e0, Str.length_append, l0, sz_eq]
        omega
      · rw [e0, neg_text hneg]
        exact q _ s'
    · rw [decide_eq_false hneg]
      obtain ⟨g1, g2⟩ := text_len hn
      refine iteF ⟨_, rfl, Nat.zero_le _, fun l hl => ?_⟩
      refine ⟨fun m σ G => m = 0 ∧ σ = [some (.int n), some (.int n), some (.ref l), none] ∧ G = upd H l (.lst []), ⟨0, rfl, rfl, rfl⟩, ?_⟩
      rintro m σ G ⟨rfl, rfl, rfl⟩
      refine ⟨_, rfl, n, 10 ^ 64, rfl, rfl, _, rfl, ?_⟩
      rw [decide_eq_false (by omega)]
      refine iteF ⟨_, rfl, .inl ⟨rfl, _, SqL.of upd_same⟩, _, rfl, n, rfl, g1, l, _, _, rfl, rfl, upd_same, by decide, ?_⟩
      refine ⟨⟨_, rfl⟩, _, rfl, l, _, rfl, SqL.of upd_same, fun p hp => ⟨_, p, [decT n], rfl, rfl, .inl (SqL.of (by rw [upd_same]; rfl)), ?_, ?_⟩⟩
      · show (decT n).length + 0 + 1 * 0 ≤ 16777216
        omega
      · have s1 : Same H (upd (upd (upd H l (.lst [])) l (.lst ([] ++ [.str (decT n)]))) p (.lst ([] ++ [V.str (decT n)]).reverse)) := fun a o z => by
          have na := ne_of_none z hl
          rw [upd_ne (ne_of_none ((upd_ne na).trans ((upd_ne na).trans z)) hp), upd_ne na, upd_ne na]
          exact z
        exact q _ s1
theorem ok_dec0 (T : Txt K mg) : FnOk P w K mg base CX0 1 T.f_decimal_text T.d_decimal_text ["number"] (spDecL fun n => 0 ≤ n) :=
  dec_core T (k := 0) (sp' := fun _ _ _ _ => False) ⟨fun _ _ _ _ h => h.elim, fun _ _ _ _ _ _ _ _ _ _ _ _ _ h => h.elim⟩ fun n H Q h0 hn _ _ => by omega
def spDec : Sp := fun vs H Q _ => ∃ n : Int, vs = [.int n] ∧ n.natAbs < 10 ^ 64 ∧ ∀ H', Same H H' → Q (.str (decT n)) H'
theorem ok_decimal_text (T : Txt K mg) : FnOk P w K mg base CX0 2 T.f_decimal_text T.d_decimal_text ["number"] spDec := by
  have h := dec_core (L := fun _ => True) T (ok_dec0 (P := P) (w := w) (base := base) T) fun n H Q _ hn hb q => ⟨-n, rfl, by omega, by omega, q⟩
  exact h.imp fun vs H Q E ⟨n, e, hb, q⟩ => ⟨n, e, hb, trivial, q⟩
end
/-! ### the texts of pairs -/
section
variable {base : Heap} {K : PySem.W.Frag} {mg : Str → Option Value} {P : Program} {w : World}
def spPairT (K : PySem.W.Frag) : Sp := fun vs H Q _ => ∃ (p : Addr) (a b : Int), vs = [.ref p] ∧ SqT K H p [.int a, .int b] ∧ a.natAbs < 10 ^ 64 ∧ b.natAbs < 10 ^ 64 ∧ ∀ H', Same H H' → Q (.str (pairT a b)) H'
theorem pair_len {a b : Int} (ha : a.natAbs < 10 ^ 64) (hb : b.natAbs < 10 ^ 64) : (pairT a b).length ≤ 150 := by
  have h1 := (text_len ha).2
  have h2 := (text_len hb).2
  have r1 : (Str.ofString "r").length = 1 := by decide +kernel
  have s1 : (sgT b).length ≤ 1 := by
    unfold sgT
    split <;> decide +kernel
  unfold pairT
  split
  · omega
  split
  · rw [Str.length_append, r1]
    omega
  · rw [Str.length_append, Str.length_append, Str.length_append, r1]
    omega
theorem ok_pair_text (T : Txt K mg) : FnOk P w K mg base CX0 3 T.f_pair_text T.d_pair_text ["pair"] (spPairT K) := by
  refine T.F_pair_text.ok sc_pair_text (fun vs H Q E h => ?_) (fun cdv A outer s H vs Q E hr h => ?_)
  · obtain ⟨p, a, b, rfl, _⟩ := h
    rfl
  · obtain ⟨p, a, b, rfl, hp, ha, hb, q⟩ := h
    refine ⟨_, (pss_cons (ps_asg (pv 0) (pg_tup (by rfl) (pgs_cons (pg_name (i := 2) sc_pair_text.nd rfl (Or.inl rfl)) (pgs_cons (pg_name (i := 3) sc_pair_text.nd rfl (Or.inl rfl)) pgs_nil))))
      (pss_cons (ps_if (pt_cmpR op_eq (pv 3) pe_int (nomark _)) (pss_one (ps_ret (pe_call (ok_decimal_text T) (hr.mono (by decide)) (by rfl) T.g_decimal_text T.F_decimal_text.kp T.b_decimal_text .nil pass0 (pa_cons (pv 2) pa_nil)))) pss_nil)
      (pss_cons (ps_if (pt_cmpR op_eq (pv 2) pe_int (nomark _)) (pss_one (ps_ret (pe_joined (.cons (pe_fmt (pe_call (ok_decimal_text T) (hr.mono (by decide)) (by rfl) T.g_decimal_text T.F_decimal_text.kp T.b_decimal_text .nil pass0 (pa_cons (pv 3) pa_nil))) (.cons pe_str .nil))))) pss_nil)
      (pss_cons (ps_set (i := 1) sc_pair_text.nd rfl (Or.inl rfl) (pe_ifExp (pt_cmpR op_gt (pv 3) pe_int (nomark _)) pe_str pe_str))
      (pss_one (ps_ret (pe_joined (.cons (pe_fmt (pe_call (ok_decimal_text T) (hr.mono (by decide)) (by rfl) T.g_decimal_text T.F_decimal_text.kp T.b_decimal_text .nil pass0 (pa_cons (pv 2) pa_nil))) (.cons (pe_fmt (pv 1)) (.cons (pe_fmt (pe_call (ok_decimal_text T) (hr.mono (by decide)) (by rfl) T.g_decimal_text T.F_decimal_text.kp T.b_decimal_text .nil pass0 (pa_cons (pv 3) pa_nil))) (.cons pe_str .nil))))))))))), ?_⟩
    have la := (text_len ha).2
    have lb := (text_len hb).2
    have r1 : (Str.ofString "r").length = 1 := by decide +kernel
    refine ⟨_, rfl, p, _, rfl, hp, rfl, .int a, _, rfl, .int b, _, rfl, rfl, ?_⟩
    unfold pairT at q
    by_cases b0 : b = 0
    · rw [if_pos b0] at q
      exact ⟨_, rfl, rfl, true, congrArg V.bl (by rw [dV', decide_eq_true b0]), iteT ⟨_, rfl, a, rfl, ha, fun H1 s1 => q _ s1⟩⟩
    rw [if_neg b0] at q
    refine ⟨_, rfl, rfl, false, congrArg V.bl (by rw [dV', decide_eq_false b0]), iteF ?_⟩
    by_cases a0 : a = 0
    · rw [if_pos a0] at q
      refine ⟨_, rfl, rfl, true, congrArg V.bl (by rw [dV', decide_eq_true a0]), iteT ⟨_, rfl, b, rfl, hb, fun H1 s1 => .inl ⟨_, rfl, by rw [sz_eq]; omega, _, rfl, by rw [Str.empty_append, sz_eq]; omega, _, rfl, by rw [Str.empty_append, Str.length_append, r1, sz_eq]; omega, ?_⟩⟩⟩
      rw [Str.empty_append]
      exact q _ s1
    rw [if_neg a0] at q
    refine ⟨_, rfl, rfl, false, congrArg V.bl (by rw [dV', decide_eq_false a0]), iteF ?_⟩
    have s1 : (sgT b).length ≤ 1 := by
      unfold sgT
      split <;> decide +kernel
    have fin : ∀ H1, Same H H1 → ∀ sg, sg = sgT b → Q (.str (Str.empty ++ decT a ++ sg ++ decT b ++ Str.ofString "r")) H1 := by
      rintro H1 e sg rfl
      rw [Str.empty_append]
      exact q _ e
    have go : ∀ sg : Str, sg = sgT b → tRet (fun σ H Q => tJs [tFmt (tCall spDec [] E0 (tCons (tVar 1) tNil)), tFmt (tVar 3), tFmt (tCall spDec [] E0 (tCons (tVar 2) tNil)), tC (.str "r")] Str.empty σ H fun out H1 => Q (.str out) H1) { nx := fun _ H' => Q .non H', rt := Q } [some (.ref p), some (.int a), some (.int b), some (.str sg)] H := by
      intro sg esg
      have hsg : sg.length ≤ 1 := by rw [esg]; exact s1
      refine ⟨_, rfl, a, rfl, ha, fun H1 e1 => .inl ⟨_, rfl, by rw [sz_eq]; omega, _, rfl, by rw [Str.empty_append, sz_eq]; omega, _, rfl, .inl ⟨_, rfl, by rw [sz_eq]; omega, _, rfl, by rw [Str.empty_append, Str.length_append, sz_eq]; omega, _, rfl, b, rfl, hb, fun H2 e2 => .inl ⟨_, rfl, by rw [sz_eq]; omega, _, rfl, by rw [Str.empty_append, Str.length_append, Str.length_append, sz_eq]; omega, _, rfl, by rw [Str.empty_append, Str.length_append, Str.length_append, Str.length_append, r1, sz_eq]; omega, ?_⟩⟩⟩⟩
      exact fin H2 (e1.trans e2) sg esg
    by_cases bp : b > 0
    · exact ⟨_, rfl, b, 0, rfl, rfl, true, congrArg V.bl (decide_eq_true bp), iteT (go _ (by unfold sgT; rw [if_pos bp]))⟩
    · exact ⟨_, rfl, b, 0, rfl, rfl, false, congrArg V.bl (decide_eq_false bp), iteF (go _ (by unfold sgT; rw [if_neg bp]))⟩
end
/-! ### the law's own texts of pairs -/
section
variable {base : Heap} {K : PySem.W.Frag} {mg : Str → Option Value} {P : Program} {w : World}
theorem ok_lpair_text (T : Txt K mg) : FnOk P w K mg base CX0 1 T.f_lpair_text T.d_lpair_text ["_law_pair"] (spPairT K) := by
  refine T.F_lpair_text.ok sc_lpair_text (fun vs H Q E h => ?_) (fun cdv A outer s H vs Q E hr h => ?_)
  · obtain ⟨p, a, b, rfl, _⟩ := h
    rfl
  · obtain ⟨p, a, b, rfl, hp, ha, hb, q⟩ := h
    refine ⟨_, (pss_cons (ps_asg (pv 0) (pg_tup (by rfl) (pgs_cons (pg_name (i := 1) sc_lpair_text.nd rfl (Or.inl rfl)) (pgs_cons (pg_name (i := 2) sc_lpair_text.nd rfl (Or.inl rfl)) pgs_nil))))
      (pss_cons (ps_if (pt_cmpR op_eq (pv 2) pe_int (nomark _)) (pss_one (ps_ret (pe_callTy call_str_int (by rfl) T.n_str (by decide +kernel) (pa_cons (pv 1) pa_nil)))) pss_nil)
      (pss_cons (ps_if (pt_cmpR op_eq (pv 1) pe_int (nomark _)) (pss_one (ps_ret (pe_op op_add_str (pe_callTy call_str_int (by rfl) T.n_str (by decide +kernel) (pa_cons (pv 2) pa_nil)) pe_str))) pss_nil)
      (pss_one (ps_ret (pe_op op_add_str (pe_op op_add_str (pe_op op_add_str (pe_callTy call_str_int (by rfl) T.n_str (by decide +kernel) (pa_cons (pv 1) pa_nil)) (pe_ifExp (pt_cmpR op_gt (pv 2) pe_int (nomark _)) pe_str pe_str)) (pe_callTy call_str_int (by rfl) T.n_str (by decide +kernel) (pa_cons (pv 2) pa_nil))) pe_str)))))), ?_⟩
    obtain ⟨ga, la⟩ := text_len ha
    obtain ⟨gb, lb⟩ := text_len hb
    have r1 : (Str.ofString "r").length = 1 := by decide +kernel
    refine ⟨_, rfl, p, _, rfl, hp, rfl, .int a, _, rfl, .int b, _, rfl, rfl, ?_⟩
    unfold pairT at q
    by_cases b0 : b = 0
    · rw [if_pos b0] at q
      exact ⟨_, rfl, rfl, true, congrArg V.bl (by rw [dV', decide_eq_true b0]), iteT ⟨_, rfl, a, rfl, ga, q _ (Same.refl _)⟩⟩
    rw [if_neg b0] at q
    refine ⟨_, rfl, rfl, false, congrArg V.bl (by rw [dV', decide_eq_false b0]), iteF ?_⟩
    by_cases a0 : a = 0
    · rw [if_pos a0] at q
      exact ⟨_, rfl, rfl, true, congrArg V.bl (by rw [dV', decide_eq_true a0]), iteT ⟨_, rfl, b, rfl, gb, decT b, _, rfl, rfl, by rw [r1, sz_eq]; omega, q _ (Same.refl _)⟩⟩
    rw [if_neg a0] at q
    refine ⟨_, rfl, rfl, false, congrArg V.bl (by rw [dV', decide_eq_false a0]), iteF ?_⟩
    have s1 : (sgT b).length ≤ 1 := by
      unfold sgT
      split <;> decide +kernel
    by_cases bp : b > 0
    · have e : sgT b = Str.ofString "+" := if_pos bp
      rw [e] at q s1
      exact ⟨_, rfl, a, rfl, ga, _, rfl, b, 0, rfl, rfl, true, congrArg V.bl (decide_eq_true bp), iteT ⟨decT a, _, rfl, rfl, by rw [sz_eq]; omega, _, rfl, b, rfl, gb, _, decT b, rfl, rfl, by rw [Str.length_append, sz_eq]; omega, _, _, rfl, rfl, by rw [Str.length_append, Str.length_append, r1, sz_eq]; omega, q _ (Same.refl _)⟩⟩
    · have e : sgT b = Str.ofString "" := if_neg bp
      rw [e] at q s1
      exact ⟨_, rfl, a, rfl, ga, _, rfl, b, 0, rfl, rfl, false, congrArg V.bl (decide_eq_false bp), iteF ⟨decT a, _, rfl, rfl, by rw [sz_eq]; omega, _, rfl, b, rfl, gb, _, decT b, rfl, rfl, by rw [Str.length_append, sz_eq]; omega, _, _, rfl, rfl, by rw [Str.length_append, Str.length_append, r1, sz_eq]; omega, q _ (Same.refl _)⟩⟩
end
/-! ### numbers that are read: a text is a number's own exactly where it has no needless zero -/
open PySem.NumText in
theorem dval_lt : ∀ {cs : List Nat}, AllDigits cs → digitsVal cs < 10 ^ cs.length := by
  intro cs
  have h : ∀ n (cs : List Nat), cs.length = n → AllDigits cs → digitsVal cs < 10 ^ n := by
    intro n
    induction n with
    | zero =>
      intro cs hl _
      rw [List.eq_nil_of_length_eq_zero hl]
      decide
    | succ n ih =>
      intro cs hl had
      have hne : cs ≠ [] := fun e => by rw [e] at hl; simp at hl
      have e := List.dropLast_concat_getLast hne
      have l1 : cs.dropLast.length = n := by rw [List.length_dropLast, hl]; rfl
      have h1 := ih cs.dropLast l1 fun c hc => had c (List.dropLast_subset _ hc)
      have h2 := had _ (List.getLast_mem hne)
      rw [← e, digitsVal_snoc, Nat.pow_succ]
      omega
  exact h _ cs rfl
open PySem.NumText in
theorem num_canon {cs : List Nat} (had : AllDigits cs) (hne : cs ≠ []) : TL.numL (digitsVal cs) = cs ↔ (cs = [48] ∨ cs.head? ≠ some 48) := by
  constructor
  · intro h
    match cs, hne with
    | c :: r, _ =>
      by_cases z : c = 48
      · subst z
        cases r with
        | nil => exact .inl rfl
        | cons c2 r2 =>
          exfalso
          have hl := TL.numL_len (n := digitsVal (c2 :: r2)) (k := (c2 :: r2).length) (Nat.succ_pos _) (dval_lt had.tail)
          rw [digitsVal_zero] at h
          rw [h] at hl
          simp at hl
          omega
      · exact .inr fun e => z (Option.some.inj e)
  · intro h
    have hc : cs.length = (cs.length - 1) + 1 := by
      have : cs.length ≠ 0 := fun e => hne (List.eq_nil_of_length_eq_zero e)
      omega
    have big : cs.length - 1 = 0 ∨ ∃ c r, cs = c :: r ∧ 49 ≤ c := by
      rcases h with rfl | h
      · exact .inl rfl
      · match cs, hne with
        | c :: r, _ =>
          have h1 := had.head
          have h2 : c ≠ 48 := fun e => h (congrArg some e)
          exact .inr ⟨c, r, rfl, by omega⟩
    have e := toDigits_digitsVal _ cs hc had big
    unfold TL.numL
    rw [e, List.map_map]
    have : ∀ l : List Nat, AllDigits l → l.map (Char.toNat ∘ Char.ofNat) = l := by
      intro l
      induction l with
      | nil => exact fun _ => rfl
      | cons c r ih =>
        intro hl
        have h1 := hl.head
        rw [List.map_cons, ih hl.tail]
        congr 1
        have : ∀ c : Nat, c < 58 → Char.toNat (Char.ofNat c) = c := by decide
        exact this c (by omega)
    exact this cs had
def minusB (z : List Nat) : Bool := z.head? == some 45
def digsL (z : List Nat) : List Nat := if minusB z = true then z.drop 1 else z
def digB (c : Nat) : Bool := decide (48 ≤ c ∧ c ≤ 57)
def guardB (z : List Nat) : Bool := decide (1 ≤ (digsL z).length ∧ (digsL z).length ≤ 20) && (digsL z).all digB
def zeroB (z : List Nat) : Bool := ((digsL z).head? == some 48) && !(z == [48])
def valN (z : List Nat) : Int := if minusB z = true then -((NumText.digitsVal (digsL z) : Nat) : Int) else ((NumText.digitsVal (digsL z) : Nat) : Int)
/-- the number of a text, or nothing -/
def readN (z : List Nat) : Option Int := if guardB z = true then (if zeroB z = true then none else some (valN z)) else none
theorem guard_digits {z : List Nat} (h : guardB z = true) : NumText.AllDigits (digsL z) ∧ digsL z ≠ [] ∧ (digsL z).length ≤ 20 := by
  unfold guardB at h
  rw [Bool.and_eq_true] at h
  obtain ⟨h1, h2⟩ := h
  have h1 := of_decide_eq_true h1
  refine ⟨fun c hc => ?_, fun e => ?_, h1.2⟩
  · exact of_decide_eq_true (List.all_eq_true.mp h2 c hc)
  · rw [e] at h1
    simp at h1
theorem minus_eq {z : List Nat} (h : minusB z = true) : z = 45 :: digsL z := by
  unfold digsL
  rw [if_pos h]
  unfold minusB at h
  match z, h with
  | c :: r, h =>
    have : c = 45 := by simpa using h
    rw [this]
    rfl
theorem guard_int {z : List Nat} (h : guardB z = true) : intText? (mkS z) = some (valN z) := by
  obtain ⟨h1, h2, h3⟩ := guard_digits h
  unfold valN
  by_cases m : minusB z = true
  · rw [if_pos m]
    refine intText_neg (x := mkS z) (cs := digsL z) (minus_eq m) h1 h2 ?_
    rw [mkS_len]
    have := congrArg List.length (minus_eq m)
    rw [List.length_cons] at this
    omega
  · have e : digsL z = z := by
      unfold digsL
      rw [if_neg m]
    rw [if_neg m]
    rw [e] at h1 h2 h3 ⊢
    exact intText_digits (x := mkS z) h1 h2 (by rw [mkS_len]; omega)
theorem guard_len {z : List Nat} (h : guardB z = true) : z.length ≤ 21 := by
  obtain ⟨_, _, h3⟩ := guard_digits h
  by_cases m : minusB z = true
  · have := congrArg List.length (minus_eq m)
    rw [List.length_cons] at this
    omega
  · unfold digsL at h3
    rw [if_neg m] at h3
    omega
theorem guard_bd {z : List Nat} (h : guardB z = true) : (valN z).natAbs < 10 ^ 20 := by
  obtain ⟨h1, h2, h3⟩ := guard_digits h
  have := Nat.lt_of_lt_of_le (dval_lt h1) (Nat.pow_le_pow_right (show 0 < 10 by decide) h3)
  unfold valN
  split <;> omega
/-- str(int(text)) == text -/
theorem guard_text {z : List Nat} (h : guardB z = true) : decT (valN z) = mkS z ↔ zeroB z = false := by
  obtain ⟨h1, h2, h3⟩ := guard_digits h
  have tlN : ∀ n : Nat, TL.tl (decT ((n : Nat) : Int)) = TL.numL n := fun n => TL.tl_num n
  have ext : ∀ {s : Str}, s = mkS z ↔ TL.tl s = z := fun {s} => ⟨fun e => by rw [e, TL.tl_mk], fun e => TL.ext_tl (by rw [e, TL.tl_mk])⟩
  rw [ext]
  unfold valN
  by_cases m : minusB z = true
  · have ez := minus_eq m
    have nz : (z == [48]) = false := by
      rw [ez]
      rfl
    rw [if_pos m]
    unfold zeroB
    rw [nz, Bool.not_false, Bool.and_true]
    have hd : ∃ c r, digsL z = c :: r ∧ 48 ≤ c ∧ c ≤ 57 := by
      match hz : digsL z, h2 with
      | c :: r, _ =>
        rw [hz] at h1
        exact ⟨c, r, rfl, h1.head⟩
    by_cases v0 : NumText.digitsVal (digsL z) = 0
    · -- a minus and noughts
      obtain ⟨c, r, ec, c0, c1⟩ := hd
      have c48 : c = 48 := by
        rcases Nat.lt_or_ge c 49 with l | l
        · omega
        · rw [ec] at v0
          have := NumText.digitsVal_pos (cs := r) l
          omega
      rw [v0, ec, c48]
      constructor
      · intro e
        rw [ez] at e
        have e0 : TL.tl (decT (-((0 : Nat) : Int))) = [48] := by decide +kernel
        rw [e0] at e
        cases e
      · intro e
        simp at e
    · have neg : -((NumText.digitsVal (digsL z) : Nat) : Int) < 0 := by omega
      rw [← neg_text neg, TL.tl_append, Int.neg_neg, tlN]
      have em : TL.tl (Str.ofString "-") = [45] := by decide +kernel
      rw [em]
      have cut : ([45] ++ TL.numL (NumText.digitsVal (digsL z)) = z) ↔ TL.numL (NumText.digitsVal (digsL z)) = digsL z := by
        constructor
        · intro e
          rw [List.singleton_append] at e
          have := e.trans ez
          injection this
        · intro e
          rw [e, List.singleton_append]
          exact ez.symm
      rw [cut, num_canon h1 h2]
      have n48 : digsL z ≠ [48] := fun e => v0 (by rw [e]; decide)
      simp [n48]
  · have e : digsL z = z := by
      unfold digsL
      rw [if_neg m]
    rw [if_neg m, tlN]
    rw [e] at h1 h2 ⊢
    rw [num_canon h1 h2]
    unfold zeroB
    rw [e]
    by_cases q : z = [48]
    · subst q
      simp
    · have : (z == [48]) = false := by simpa using q
      rw [this]
      simp [q]
/-! ### pairs that are read -/
def signB (c : Nat) : Bool := c == 43 || c == 45
/-- the places of signs behind the first letter -/
def sgs (b : List Nat) : List Nat := (List.range' 1 (b.length - 1)).filter fun k => signB (b.getD k 0)
def sgAt (b : List Nat) : Nat := (sgs b).getLast?.getD 0
def IsAt (b : List Nat) (k : Nat) : Prop := (k = 0 ∧ ∀ j, 1 ≤ j → j < b.length → signB (b.getD j 0) = false) ∨ (1 ≤ k ∧ k < b.length ∧ signB (b.getD k 0) = true ∧ ∀ j, k < j → j < b.length → signB (b.getD j 0) = false)
theorem at_one {b : List Nat} {k l : Nat} (h : IsAt b k) (g : IsAt b l) : k = l := by
  rcases h with ⟨rfl, h⟩ | ⟨h1, h2, h3, h4⟩ <;> rcases g with ⟨rfl, g⟩ | ⟨g1, g2, g3, g4⟩
  · rfl
  · rw [h l g1 g2] at g3
    cases g3
  · rw [g k h1 h2] at h3
    cases h3
  · rcases Nat.lt_trichotomy k l with z | z | z
    · rw [h4 l z g2] at g3
      cases g3
    · exact z
    · rw [g4 k z h2] at h3
      cases h3
theorem sgAt_is (b : List Nat) : IsAt b (sgAt b) := by
  have mem : ∀ k, k ∈ sgs b ↔ (1 ≤ k ∧ k < b.length) ∧ signB (b.getD k 0) = true := by
    intro k
    unfold sgs
    rw [List.mem_filter, List.mem_range'_1]
    constructor
    · rintro ⟨⟨h1, h2⟩, h3⟩
      exact ⟨⟨h1, by omega⟩, h3⟩
    · rintro ⟨⟨h1, h2⟩, h3⟩
      exact ⟨⟨h1, by omega⟩, h3⟩
  unfold sgAt
  cases hl : (sgs b).getLast? with
  | none =>
    have e : sgs b = [] := List.getLast?_eq_none_iff.mp hl
    refine .inl ⟨rfl, fun j h1 h2 => ?_⟩
    cases hs : signB (b.getD j 0) with
    | false => rfl
    | true =>
      have := (mem j).mpr ⟨⟨h1, h2⟩, hs⟩
      rw [e] at this
      cases this
  | some k =>
    have hk := (mem k).mp (List.mem_of_getLast? hl)
    show IsAt b k
    refine .inr ⟨hk.1.1, hk.1.2, hk.2, fun j h1 h2 => ?_⟩
    cases hs : signB (b.getD j 0) with
    | false => rfl
    | true =>
      have hj := (mem j).mpr ⟨⟨by omega, h2⟩, hs⟩
      -- the list ascends
      have asc : (sgs b).Pairwise (· < ·) := List.Pairwise.filter _ List.pairwise_lt_range'
      obtain ⟨ys, e⟩ := List.getLast?_eq_some_iff.mp hl
      rw [e] at hj asc
      rcases List.mem_append.mp hj with z | z
      · have := (List.pairwise_append.mp asc).2.2 j z k (by simp)
        omega
      · have := List.mem_singleton.mp z
        omega
/-- what a text with an r at its end tells, the sign at k -/
def resP (b : List Nat) (k : Nat) : Option (Int × Int) :=
  if k = 0 then (match readN b with | none => none | some n => if n = 0 then none else some (0, n))
  else match readN (b.take k), readN (if (b.drop k).head? = some 43 then (b.drop k).drop 1 else b.drop k) with
    | some m, some n => if n = 0 ∨ m = 0 ∨ ((b.drop k).head? = some 43 ∧ n < 0) then none else some (m, n)
    | _, _ => none
def readP (z : List Nat) : Option (Int × Int) := if z.getLast? = some 114 then resP z.dropLast (sgAt z.dropLast) else (readN z).map fun n => (n, 0)
theorem readN_text {z : List Nat} {n : Int} (h : readN z = some n) : decT n = mkS z ∧ n.natAbs < 10 ^ 20 := by
  unfold readN at h
  split at h
  · rename_i g
    split at h
    · cases h
    · rename_i zb
      cases h
      exact ⟨(guard_text g).mpr (by simpa using zb), guard_bd g⟩
  · cases h
theorem mk_inj {a b : List Nat} : mkS a = mkS b ↔ a = b := ⟨fun e => by have := congrArg TL.tl e; rwa [TL.tl_mk, TL.tl_mk] at this, fun e => by rw [e]⟩
theorem mk_app (a b : List Nat) : mkS a ++ mkS b = mkS (a ++ b) := TL.ext_tl (by rw [TL.tl_append, TL.tl_mk, TL.tl_mk, TL.tl_mk])
theorem r_S : Str.ofString "r" = mkS [114] := by decide +kernel
theorem plus_S : Str.ofString "+" = mkS [43] := by decide +kernel
theorem nil_S : Str.ofString "" = mkS [] := by decide +kernel
theorem dec_zero : decT 0 = mkS [48] := by decide +kernel
theorem minus_neg {z : List Nat} {n : Int} (h : readN z = some n) (m : minusB z = true) : n ≤ 0 := by
  unfold readN at h
  split at h
  · split at h
    · cases h
    · cases h
      unfold valN
      rw [if_pos m]
      omega
  · cases h
/-- what the program makes of it -/
def progP (b : List Nat) (k : Nat) : Option (Int × Int) :=
  match (if k = 0 then readN [48] else readN (b.take k)), readN (if k = 0 then b else if (b.drop k).head? = some 43 then (b.drop k).drop 1 else b.drop k) with
  | some m, some n => if pairT m n = mkS (b ++ [114]) then some (m, n) else none
  | _, _ => none
theorem prog_res {b : List Nat} {k : Nat} (h : IsAt b k) : progP b k = resP b k := by
  unfold progP resP
  have zr : readN [48] = some 0 := by decide +kernel
  by_cases k0 : k = 0
  · rw [if_pos k0, if_pos k0, if_pos k0, zr]
    cases hn : readN b with
    | none => rfl
    | some n =>
      obtain ⟨tx, _⟩ := readN_text hn
      dsimp only
      by_cases n0 : n = 0
      · have no : ¬ pairT 0 n = mkS (b ++ [114]) := by
          unfold pairT
          rw [if_pos n0, dec_zero, mk_inj]
          rw [n0, dec_zero, mk_inj] at tx
          rw [← tx]
          decide
        rw [if_neg no, if_pos n0]
      · have yes : pairT 0 n = mkS (b ++ [114]) := by
          unfold pairT
          rw [if_neg n0, if_pos rfl, tx, r_S, mk_app]
        rw [if_pos yes, if_neg n0]
  · rw [if_neg k0, if_neg k0, if_neg k0]
    rcases h with ⟨z, _⟩ | ⟨k1, kb, ks, _⟩
    · exact absurd z k0
    have eb : b.take k ++ b.drop k = b := List.take_append_drop k b
    obtain ⟨c, r, eo, hc⟩ : ∃ c r, b.drop k = c :: r ∧ signB c = true := by
      have e : b[k]? = some b[k] := List.getElem?_eq_getElem kb
      refine ⟨b[k], b.drop (k + 1), List.drop_eq_getElem_cons kb, ?_⟩
      rw [List.getD_eq_getElem?_getD, e] at ks
      exact ks
    have lone : (b.take k).length = k := by rw [List.length_take, Nat.min_eq_left (by omega)]
    cases hm : readN (b.take k) with
    | none => rfl
    | some m =>
      obtain ⟨tm, _⟩ := readN_text hm
      cases hn : readN (if (b.drop k).head? = some 43 then (b.drop k).drop 1 else b.drop k) with
      | none => rfl
      | some n =>
        obtain ⟨tn, _⟩ := readN_text hn
        dsimp only
        by_cases n0 : n = 0
        · have no : ¬ pairT m n = mkS (b ++ [114]) := by
            unfold pairT
            rw [if_pos n0, tm, mk_inj]
            intro e
            have := congrArg List.length e
            rw [lone, List.length_append] at this
            simp at this
            omega
          rw [if_neg no, if_pos (.inl n0)]
        by_cases m0 : m = 0
        · have no : ¬ pairT m n = mkS (b ++ [114]) := by
            unfold pairT
            rw [if_neg n0, if_pos m0, tn, r_S, mk_app, mk_inj]
            intro e
            have e := List.append_cancel_right e
            have le := congrArg List.length e
            have : (b.drop k).length = b.length - k := List.length_drop
            split at le
            · rw [List.length_drop] at le
              omega
            · omega
          rw [if_neg no, if_pos (.inr (.inl m0))]
        have hc' : c = 43 ∨ c = 45 := by
          unfold signB at hc
          simpa using hc
        have whole : b = b.take k ++ (c :: r) := by rw [← eo]; exact eb.symm
        have pt : pairT m n = decT m ++ sgT n ++ decT n ++ Str.ofString "r" := by
          unfold pairT
          rw [if_neg n0, if_neg m0]
        have hd : (b.drop k).head? = some c := by rw [eo]; rfl
        rcases hc' with rfl | rfl
        · rw [if_pos hd] at hn tn
          rw [eo, List.drop_one, List.tail_cons] at hn tn
          by_cases np : 0 < n
          · have yes : pairT m n = mkS (b ++ [114]) := by
              rw [pt, tm, tn, r_S]
              unfold sgT
              rw [if_pos np, plus_S, mk_app, mk_app, mk_app, mk_inj, List.append_assoc (b.take k), List.singleton_append, ← whole]
            rw [if_pos yes, if_neg]
            rintro (z | z | z)
            · exact n0 z
            · exact m0 z
            · omega
          · have no : ¬ pairT m n = mkS (b ++ [114]) := by
              rw [pt, tm, tn, r_S]
              unfold sgT
              rw [if_neg np, nil_S, mk_app, mk_app, mk_app, mk_inj, List.append_nil]
              intro e
              have e := List.append_cancel_right e
              have := congrArg List.length e
              rw [List.length_append, lone] at this
              have l2 := congrArg List.length whole
              rw [List.length_append, lone, List.length_cons] at l2
              omega
            rw [if_neg no, if_pos (.inr (.inr ⟨hd, by omega⟩))]
        · have nh : ¬ (b.drop k).head? = some 43 := by rw [hd]; decide
          rw [if_neg nh] at hn tn
          have neg := minus_neg hn (by rw [eo]; rfl)
          have yes : pairT m n = mkS (b ++ [114]) := by
            rw [pt, tm, tn, r_S]
            unfold sgT
            rw [if_neg (by omega), nil_S, mk_app, mk_app, mk_app, mk_inj, List.append_nil, eb]
          rw [if_pos yes, if_neg]
          rintro (z | z | z)
          · exact n0 z
          · exact m0 z
          · exact nh z.1
/-! ### pieces of texts, by their letters -/
theorem mk_letters (l : List Nat) : (mkS l).cps.toList = l := TL.tl_mk l
theorem neg_ix (n d : Nat) : HT.sIx n d (some (-1)) = n - 1 := by
  unfold HT.sIx
  dsimp only
  rw [if_pos (by decide)]
  omega
theorem cut_front (l : List Nat) (k : Nat) : cutS (mkS l) none (some (k : Int)) = mkS (l.take k) := by
  unfold cutS
  rw [HT.sIx_nat, HT.sIx_none, mk_letters, mkS_len, List.drop_zero, Nat.sub_zero]
  rcases Nat.le_total k l.length with h | h
  · rw [Nat.min_eq_left h]
  · rw [Nat.min_eq_right h, List.take_of_length_le h, List.take_of_length_le (Nat.le_refl _)]
theorem cut_back (l : List Nat) (k : Nat) : cutS (mkS l) (some (k : Int)) none = mkS (l.drop k) := by
  unfold cutS
  rw [HT.sIx_nat, HT.sIx_none, mk_letters, mkS_len]
  rcases Nat.le_total k l.length with h | h
  · rw [Nat.min_eq_left h, List.take_of_length_le (by rw [List.length_drop]; exact Nat.le_refl _)]
  · rw [Nat.min_eq_right h, List.drop_eq_nil_of_le h, List.drop_eq_nil_of_le (Nat.le_refl _), List.take_nil]
theorem cut_init (l : List Nat) : cutS (mkS l) none (some (-1)) = mkS l.dropLast := by
  unfold cutS
  rw [neg_ix, HT.sIx_none, mk_letters, mkS_len, List.drop_zero, Nat.sub_zero, List.dropLast_eq_take]
theorem cut_mid (l : List Nat) {k : Nat} (hk : k ≤ l.length) : cutS (mkS l) (some (k : Int)) (some (-1)) = mkS (l.dropLast.drop k) := by
  unfold cutS
  rw [neg_ix, HT.sIx_nat, mk_letters, mkS_len, Nat.min_eq_left hk, List.dropLast_eq_take, List.drop_take]
theorem last_one : ∀ (l : List Nat), l.drop (l.length - 1) = l.getLast?.toList
  | [] => rfl
  | [c] => rfl
  | c :: d :: r => by
    have e := last_one (d :: r)
    rw [List.getLast?_cons_cons]
    rw [← e]
    have : (c :: d :: r).length - 1 = ((d :: r).length - 1) + 1 := by simp
    rw [this, List.drop_succ_cons]
theorem cut_last (l : List Nat) : cutS (mkS l) (some (-1)) none = mkS l.getLast?.toList := by
  unfold cutS
  rw [neg_ix, HT.sIx_none, mk_letters, mkS_len, last_one, List.take_of_length_le]
  · cases l with
    | nil => exact Nat.le_refl _
    | cons c r =>
      cases (c :: r).getLast? with
      | none => exact Nat.zero_le _
      | some d => show 1 ≤ _; simp
theorem last_is (l : List Nat) (c : Nat) : decide (cutS (mkS l) (some (-1)) none = mkS [c]) = (l.getLast? == some c) := by
  rw [cut_last, Bool.eq_iff_iff, decide_eq_true_iff, mk_inj]
  cases l.getLast? with
  | none => simp
  | some d => simp
theorem one_at (l : List Nat) (c i : Nat) : Builtin.Str.subAt (mkS l) (mkS [c]) i = (l[i]? == some c) := by
  rw [StrLaws.subAt_eq, mk_letters, mk_letters, mkS_len, List.length_singleton]
  have e : (l.drop i).take 1 = l[i]?.toList := by
    rcases Nat.lt_or_ge i l.length with h | h
    · rw [List.drop_eq_getElem_cons h, List.getElem?_eq_getElem h]
      rfl
    · rw [List.drop_eq_nil_of_le h, List.getElem?_eq_none h]
      rfl
  rw [e]
  cases l[i]? with
  | none => rfl
  | some d =>
    rw [Bool.eq_iff_iff, beq_iff_eq, beq_iff_eq]
    simp
theorem ends_is (l : List Nat) (c : Nat) : PySem.Txt.endswith (mkS l) (mkS [c]) = (l.getLast? == some c) := by
  unfold PySem.Txt.endswith
  rw [one_at, mkS_len, mkS_len, List.length_singleton, List.getLast?_eq_getElem?]
  cases l with
  | nil => rfl
  | cons d r =>
    have : decide (0 + 1 ≤ (d :: r).length) = true := decide_eq_true (by simp)
    rw [this, Bool.true_and]
theorem prefix_is (l : List Nat) (c : Nat) : PySem.Txt.removeprefix (mkS l) (mkS [c]) = mkS (if l.head? = some c then l.drop 1 else l) := by
  rw [PySem.StrLaws.removeprefix_eq, one_at, mkS_len, mkS_len, List.length_singleton, mk_letters]
  cases l with
  | nil => rfl
  | cons d r =>
    have : decide (0 + 1 ≤ (d :: r).length) = true := decide_eq_true (by simp)
    rw [this, Bool.true_and]
    by_cases h : d = c
    · subst h
      rw [if_pos (by simp), if_pos (show (d :: r).head? = some d from rfl)]
      show mkS _ = _
      rw [List.take_of_length_le (by simp)]
    · rw [if_neg (by simpa using h), if_neg (by simpa using h)]
/-- where a letter stands last -/
def LastC (l : List Nat) (c : Nat) (r : Int) : Prop := (r = -1 ∧ ∀ j < l.length, l.getD j 0 ≠ c) ∨ ∃ k : Nat, r = k ∧ k < l.length ∧ l.getD k 0 = c ∧ ∀ j, k < j → j < l.length → l.getD j 0 ≠ c
theorem rfind_is (l : List Nat) (c : Nat) : LastC l c (PySem.Txt.rfind (mkS l) (mkS [c])) := by
  have at_iff : ∀ i, PySem.StrLaws.At (mkS l) (mkS [c]) (mkS l).length i ↔ i < l.length ∧ l.getD i 0 = c := by
    intro i
    unfold PySem.StrLaws.At
    rw [one_at, mkS_len, mkS_len, List.length_singleton]
    constructor
    · rintro ⟨h1, h2⟩
      have h : i < l.length := h1
      refine ⟨h, ?_⟩
      rw [List.getElem?_eq_getElem h] at h2
      rw [List.getD_eq_getElem?_getD, List.getElem?_eq_getElem h]
      simpa using h2
    · rintro ⟨h, h2⟩
      refine ⟨h, ?_⟩
      rw [List.getD_eq_getElem?_getD, List.getElem?_eq_getElem h] at h2
      rw [List.getElem?_eq_getElem h]
      simpa using h2
  unfold PySem.Txt.rfind
  rcases PySem.StrLaws.last_spec (mkS l) (mkS [c]) with ⟨e, no⟩ | ⟨i, e, a, no⟩
  · rw [e]
    exact .inl ⟨rfl, fun j hj z => no j ((at_iff j).mpr ⟨hj, z⟩)⟩
  · rw [e]
    obtain ⟨h1, h2⟩ := (at_iff i).mp a
    exact .inr ⟨i, rfl, h1, h2, fun j hj hl z => no j hj ((at_iff j).mpr ⟨hl, z⟩)⟩
theorem max_at {b : List Nat} {p m : Int} (hp : LastC b 43 p) (hm : LastC b 45 m) : ((if m > p then m else p) < 1 ∧ IsAt b 0) ∨ ∃ k : Nat, 1 ≤ k ∧ (if m > p then m else p) = k ∧ IsAt b k := by
  have sg : ∀ j, b.getD j 0 ≠ 43 → b.getD j 0 ≠ 45 → signB (b.getD j 0) = false := by
    intro j h1 h2
    unfold signB
    rw [beq_eq_false_iff_ne.mpr h1, beq_eq_false_iff_ne.mpr h2]
    rfl
  have top : ∀ (k : Nat), k < b.length → signB (b.getD k 0) = true → (∀ j, k < j → j < b.length → b.getD j 0 ≠ 43 ∧ b.getD j 0 ≠ 45) → ∀ x : Int, x = k → (x < 1 ∧ IsAt b 0) ∨ ∃ k : Nat, 1 ≤ k ∧ x = k ∧ IsAt b k := by
    intro k hk hs hn x ex
    rcases Nat.eq_zero_or_pos k with rfl | k1
    · exact .inl ⟨by omega, .inl ⟨rfl, fun j j1 jl => sg j (hn j (by omega) jl).1 (hn j (by omega) jl).2⟩⟩
    · exact .inr ⟨k, k1, ex, .inr ⟨k1, hk, hs, fun j jk jl => sg j (hn j jk jl).1 (hn j jk jl).2⟩⟩
  rcases hp with ⟨rfl, np⟩ | ⟨i, rfl, li, ei, ni⟩ <;> rcases hm with ⟨rfl, nm⟩ | ⟨j, rfl, lj, ej, nj⟩
  · rw [if_neg (by decide)]
    exact .inl ⟨by decide, .inl ⟨rfl, fun x _ xl => sg x (np x xl) (nm x xl)⟩⟩
  · rw [if_pos (by omega)]
    exact top j lj (by rw [ej]; rfl) (fun x h1 h2 => ⟨np x h2, nj x h1 h2⟩) _ rfl
  · rw [if_neg (by omega)]
    exact top i li (by rw [ei]; rfl) (fun x h1 h2 => ⟨ni x h1 h2, nm x h2⟩) _ rfl
  · by_cases h : (j : Int) > i
    · rw [if_pos h]
      exact top j lj (by rw [ej]; rfl) (fun x h1 h2 => ⟨ni x (by omega) h2, nj x h1 h2⟩) _ rfl
    · rw [if_neg h]
      refine top i li (by rw [ei]; rfl) (fun x h1 h2 => ⟨ni x h1 h2, ?_⟩) _ rfl
      exact nj x (by omega) h2
/-! ### texts that are read back, and texts that are too long -/
def lets (n : Int) : List Nat := if n < 0 then 45 :: TL.numL n.natAbs else TL.numL n.natAbs
theorem dec_lets (n : Int) : decT n = mkS (lets n) := by
  have nat : ∀ m : Nat, decT (m : Int) = mkS (TL.numL m) := fun m => TL.ext_tl (by rw [TL.tl_mk]; exact TL.tl_num m)
  unfold lets
  by_cases h : n < 0
  · rw [if_pos h, ← neg_text h, show -n = ((n.natAbs : Nat) : Int) by omega, nat, show Str.ofString "-" = mkS [45] by decide +kernel, mk_app]
    rfl
  · rw [if_neg h]
    have := nat n.natAbs
    rwa [show ((n.natAbs : Nat) : Int) = n by omega] at this
theorem num_minus (m : Nat) : minusB (TL.numL m) = false := by
  unfold minusB
  rw [beq_eq_false_iff_ne]
  intro e
  exact TL.numL_free (n := m) (s := 45) (.inl (by decide)) (List.mem_of_mem_head? e)
theorem lets_digs (n : Int) : digsL (lets n) = TL.numL n.natAbs := by
  unfold digsL lets
  by_cases h : n < 0
  · rw [if_pos h, if_pos (by rfl)]
    rfl
  · rw [if_neg h, if_neg (by rw [num_minus]; decide)]
theorem lets_minus (n : Int) : minusB (lets n) = decide (n < 0) := by
  unfold lets
  by_cases h : n < 0
  · rw [if_pos h, decide_eq_true h]
    rfl
  · rw [if_neg h, decide_eq_false h, num_minus]
theorem read_lets {n : Int} (h : n.natAbs < 10 ^ 20) : readN (lets n) = some n := by
  have g : guardB (lets n) = true := by
    unfold guardB
    rw [lets_digs, Bool.and_eq_true]
    have l0 : (TL.numL n.natAbs).length ≠ 0 := fun e => TL.numL_ne n.natAbs (List.eq_nil_of_length_eq_zero e)
    refine ⟨decide_eq_true ⟨by omega, TL.numL_len (by decide) h⟩, List.all_eq_true.mpr fun c hc => decide_eq_true ?_⟩
    exact TL.numL_digits _ c hc
  have v : valN (lets n) = n := by
    unfold valN
    rw [lets_minus, lets_digs, TL.numL_val]
    by_cases z : n < 0
    · rw [if_pos (decide_eq_true z)]
      omega
    · rw [if_neg (by rw [decide_eq_false z]; decide)]
      omega
  have t := guard_text g
  rw [v] at t
  unfold readN
  rw [if_pos g, t.mp (dec_lets n), if_neg (by decide), v]
theorem lets_ne (n : Int) : lets n ≠ [] := by
  unfold lets
  split
  · exact fun e => by cases e
  · exact TL.numL_ne _
theorem num_sign {m j : Nat} (h : j < (TL.numL m).length) : signB ((TL.numL m).getD j 0) = false := by
  have : (TL.numL m).getD j 0 ∈ TL.numL m := by
    rw [List.getD_eq_getElem?_getD, List.getElem?_eq_getElem h]
    exact List.getElem_mem h
  have := TL.numL_digits m _ this
  unfold signB
  rw [beq_eq_false_iff_ne.mpr (by omega), beq_eq_false_iff_ne.mpr (by omega)]
  rfl
theorem lets_at (n : Int) : IsAt (lets n) 0 := by
  refine .inl ⟨rfl, fun j h1 h2 => ?_⟩
  revert h2
  unfold lets
  split
  · intro h2
    obtain ⟨i, rfl⟩ : ∃ i, j = i + 1 := ⟨j - 1, by omega⟩
    rw [List.getD_cons_succ]
    rw [List.length_cons] at h2
    exact num_sign (by omega)
  · exact fun h2 => num_sign h2
theorem lets_last (n : Int) : ¬ (lets n).getLast? = some 114 := by
  intro e
  have m := List.mem_of_getLast? e
  revert m
  unfold lets
  split
  · intro m
    rcases List.mem_cons.mp m with z | z
    · cases z
    · exact TL.numL_free (.inr (by decide)) z
  · exact fun m => TL.numL_free (.inr (by decide)) m
def pairL (a b : Int) : List Nat := if b = 0 then lets a else if a = 0 then lets b ++ [114] else lets a ++ (if 0 < b then [43] else []) ++ lets b ++ [114]
theorem pair_lets (a b : Int) : pairT a b = mkS (pairL a b) := by
  unfold pairT pairL sgT
  split
  · exact dec_lets a
  split
  · rw [dec_lets, r_S, mk_app]
  · split
    · rw [dec_lets, dec_lets, plus_S, r_S, mk_app, mk_app, mk_app]
    · rw [dec_lets, dec_lets, nil_S, r_S, mk_app, mk_app, mk_app]
theorem read_pairL {a b : Int} (ha : a.natAbs < 10 ^ 20) (hb : b.natAbs < 10 ^ 20) : readP (pairL a b) = some (a, b) := by
  unfold readP pairL
  by_cases b0 : b = 0
  · rw [if_pos b0, if_neg (lets_last a), read_lets ha, b0]
    rfl
  rw [if_neg b0]
  by_cases a0 : a = 0
  · rw [if_pos a0, if_pos (by simp), List.dropLast_concat, at_one (sgAt_is _) (lets_at b)]
    unfold resP
    rw [if_pos rfl, read_lets hb]
    dsimp only
    rw [if_neg b0, a0]
  rw [if_neg a0, if_pos (by simp), List.dropLast_concat]
  have la : (lets a).length ≠ 0 := fun e => lets_ne a (List.eq_nil_of_length_eq_zero e)
  -- the sign, and what stands behind it
  obtain ⟨c, m, e, sc⟩ : ∃ c m, (if 0 < b then [43] else []) ++ lets b = c :: TL.numL m ∧ ((c = 43 ∧ 0 < b ∧ lets b = TL.numL m) ∨ (c = 45 ∧ b < 0 ∧ lets b = 45 :: TL.numL m)) := by
    by_cases p : 0 < b
    · have : lets b = TL.numL b.natAbs := by unfold lets; rw [if_neg (by omega)]
      exact ⟨43, b.natAbs, by rw [if_pos p, this]; rfl, .inl ⟨rfl, p, this⟩⟩
    · have n : b < 0 := by omega
      have : lets b = 45 :: TL.numL b.natAbs := by unfold lets; rw [if_pos n]
      exact ⟨45, b.natAbs, by rw [if_neg p, this]; rfl, .inr ⟨rfl, n, this⟩⟩
  rw [List.append_assoc, e]
  have sg : signB c = true := by
    rcases sc with ⟨rfl, _⟩ | ⟨rfl, _⟩ <;> rfl
  have iA : IsAt (lets a ++ c :: TL.numL m) (lets a).length := by
    refine .inr ⟨by omega, by rw [List.length_append, List.length_cons]; omega, ?_, fun j h1 h2 => ?_⟩
    · rw [List.getD_eq_getElem?_getD, List.getElem?_append_right (Nat.le_refl _), Nat.sub_self]
      exact sg
    · rw [List.length_append, List.length_cons] at h2
      obtain ⟨i, rfl⟩ : ∃ i, j = (lets a).length + (i + 1) := ⟨j - (lets a).length - 1, by omega⟩
      rw [List.getD_eq_getElem?_getD, List.getElem?_append_right (by omega), Nat.add_sub_cancel_left, List.getElem?_cons_succ, ← List.getD_eq_getElem?_getD]
      exact num_sign (by omega)
  rw [at_one (sgAt_is _) iA]
  unfold resP
  rw [if_neg la, List.take_left', List.drop_left', read_lets ha]
  · rcases sc with ⟨rfl, p, eb⟩ | ⟨rfl, n, eb⟩
    · rw [if_pos (show (43 :: TL.numL m).head? = some 43 from rfl), List.drop_one, List.tail_cons, ← eb, read_lets hb]
      dsimp only
      rw [if_neg]
      rintro (z | z | z) <;> omega
    · rw [if_neg (by simp), ← eb, read_lets hb]
      dsimp only
      rw [if_neg]
      rintro (z | z | z)
      · omega
      · omega
      · rw [eb] at z
        cases z.1
  · rfl
  · rfl
theorem readN_short {z : List Nat} {n : Int} (h : readN z = some n) : z.length ≤ 21 := by
  unfold readN at h
  split at h
  · rename_i g
    exact guard_len g
  · cases h
theorem readP_short {z : List Nat} {p : Int × Int} (h : readP z = some p) : z.length ≤ 44 := by
  unfold readP at h
  split at h
  · rename_i e
    obtain ⟨b, rfl⟩ := List.getLast?_eq_some_iff.mp e
    rw [List.dropLast_concat] at h
    rw [List.length_append, List.length_singleton]
    unfold resP at h
    split at h
    · cases hn : readN b with
      | none =>
        rw [hn] at h
        cases h
      | some n =>
        have := readN_short hn
        omega
    · generalize sgAt b = k at h
      cases hm : readN (b.take k) with
      | none =>
        rw [hm] at h
        cases h
      | some m =>
        cases hn : readN (if (b.drop k).head? = some 43 then (b.drop k).drop 1 else b.drop k) with
        | none =>
          rw [hm, hn] at h
          cases h
        | some n =>
          have h1 := readN_short hm
          have h2 := readN_short hn
          rw [List.length_take] at h1
          split at h2
          · rw [List.length_drop, List.length_drop] at h2
            omega
          · rw [List.length_drop] at h2
            omega
  · cases hn : readN z with
    | none =>
      rw [hn] at h
      cases h
    | some n =>
      have := readN_short hn
      omega
theorem long_none {z : List Nat} (h : 44 < z.length) : readP z = none := by
  cases e : readP z with
  | none => rfl
  | some p =>
    have := readP_short e
    omega
/-! ### what is a step, by the program -/
def itD : Itm → PyData
  | .non => .none
  | .str s => .str s
  | .int n => .int n
  | .pair a b => .tuple [.int a, .int b]
  | .sheet x => encS x
theorem ItAt.dp {K : PySem.W.Frag} {H : Hp} {v : V} {t : Itm} (h : ItAt H v t) : Dp K H v (itD t) := by
  cases t with
  | non =>
    cases (show v = .non from h)
    exact .non
  | str s =>
    cases (show v = .str s from h)
    exact .str _
  | int n =>
    cases (show v = .int n from h)
    exact .int _
  | pair a b =>
    obtain ⟨p, rfl, h⟩ := h
    exact .tup (SqT.of h) (.cons (.int _) (.cons (.int _) .nil))
  | sheet x =>
    obtain ⟨p, rfl, u, v, h1, h2, h3⟩ := h
    exact .tup (SqT.of h1) (.cons (.tup (SqT.of h2) (.cons (.int _) (.cons (.int _) .nil))) (.cons (.tup (SqT.of h3) (.cons (.int _) (.cons (.int _) .nil))) .nil))
theorem itD_plain (t : Itm) : (itD t).plain = true := by
  cases t <;> simp [itD, encS, PyData.plain, PyData.plainAll]
/-- x in a tuple of texts, x of any kind -/
def rInTD (K : PySem.W.Frag) : R2 := fun x y H Q => ∃ (d : PyData) (ss : List Str), Dp K H x d ∧ Dp K H y (.tuple (ss.map .str)) ∧ d.plain = true ∧ Q (.bl ((ss.map PyData.str).any fun z => PyData.eqv z d)) H
theorem strs_plain : ∀ ss : List Str, PyData.plainAll (ss.map .str) = true ∧ PyData.depthAll (ss.map .str) = 0
  | [] => ⟨by simp [PyData.plainAll], by simp [PyData.depthAll]⟩
  | s :: ss => by
    obtain ⟨h1, h2⟩ := strs_plain ss
    exact ⟨by simp [PyData.plainAll, PyData.plain, h1], by simp [PyData.depthAll, PyData.depth, h2]⟩
theorem op_inTD {X : Cx} (hu : X.A.units + 64 < cLine) : OpR X (compareOp .In) (rInTD X.K) := by
  intro pins s σ H x y v u Q I rx ry h
  obtain ⟨d, ss, hd, hy, pl, q⟩ := h
  obtain ⟨as, r1⟩ := Dp.reads I d x v hd rx
  obtain ⟨bs, r2⟩ := Dp.reads I _ y u hy ry
  obtain ⟨p1, p2⟩ := strs_plain ss
  refine SeqAt.in_tuple_data r2 r1 p1 pl ?_ ⟨.bl _, H, I, rfl, q⟩
  rw [p2, Nat.zero_min]
  omega
theorem in_sides (t : Itm) : ((["across", "along"] : List Str).map PyData.str).any (fun z => PyData.eqv z (itD t)) = sideB t := by
  cases t with
  | str s =>
    have e : ∀ c : Str, PyData.eqv (.str c) (.str s) = decide (s = c) := fun c => by
      by_cases z : s = c
      · subst z
        rw [decide_eq_true rfl]
        simp only [PyData.eqv]
        simp
      · rw [decide_eq_false z]
        simp only [PyData.eqv]
        simpa using fun q => z q.symm
    show (PyData.eqv (.str "across") (.str s) || (PyData.eqv (.str "along") (.str s) || false)) = decide (s = "across" ∨ s = "along")
    rw [e, e, Bool.or_false, Bool.decide_or]
  | int n => simp [itD, sideB, PyData.eqv]
  | non => simp [itD, sideB, PyData.eqv]
  | pair a b => simp [itD, sideB, PyData.eqv]
  | sheet x => simp [itD, encS, sideB, PyData.eqv]
section
variable {base : Heap} {K : PySem.W.Frag} {mg : Str → Option Value} {P : Program} {w : World}
def spItm (f : Itm → Bool) : Sp := fun vs H Q _ => ∃ (v : V) (t : Itm), vs = [v] ∧ ItAt H v t ∧ Q (.bl (f t)) H
theorem ok_is_pair (T : Txt K mg) : FnOk P w K mg base CX0 1 T.f_is_pair T.d_is_pair ["item"] (spItm pairB) := by
  refine T.F_is_pair.ok sc_is_pair (fun vs H Q E h => ?_) (fun cdv A outer s H vs Q E hr h => ?_)
  · obtain ⟨v, t, rfl, _⟩ := h
    rfl
  · obtain ⟨v, t, rfl, h, q⟩ := h
    refine ⟨_, (pss_one (ps_ret (pe_and (pe_callB call_isi (by rfl) T.n_isinstance (by decide +kernel) (pa_cons (pv 0) (pa_cons (pe_bltn (v := .ty "tuple") (by rfl) T.n_tuple (by decide +kernel) rfl) pa_nil))) (pe_and (pe_cmpR op_eq (pe_callB call_len_seq (by rfl) T.n_len (by decide +kernel) (pa_cons (pv 0) pa_nil)) pe_int (nomark _)) (pe_and (pe_callB call_isi (by rfl) T.n_isinstance (by decide +kernel) (pa_cons (pe_ix ix_tup (pv 0) pe_int (fun _ _ => rfl)) (pa_cons (pe_bltn (v := .ty "int") (by rfl) T.n_int (by decide +kernel) rfl) pa_nil))) (pe_one (pe_callB call_isi (by rfl) T.n_isinstance (by decide +kernel) (pa_cons (pe_ix ix_tup (pv 0) pe_int (fun _ _ => rfl)) (pa_cons (pe_bltn (v := .ty "int") (by rfl) T.n_int (by decide +kernel) rfl) pa_nil))))))))), ?_⟩
    cases t with
    | str s =>
      cases (show v = .str s from h)
      exact ⟨_, rfl, .str s, .ty "tuple", _, _, false, rfl, ClsV.ty _, TyX.base (TyOf.str _), kit_ty (by decide +kernel), false, rfl, iteF q⟩
    | non =>
      cases (show v = .non from h)
      exact ⟨_, rfl, .non, .ty "tuple", _, _, false, rfl, ClsV.ty _, TyX.base (TyOf.non), kit_ty (by decide +kernel), false, rfl, iteF q⟩
    | int n =>
      cases (show v = .int n from h)
      exact ⟨_, rfl, .int n, .ty "tuple", _, _, false, rfl, ClsV.ty _, TyX.base (TyOf.int _), kit_ty (by decide +kernel), false, rfl, iteF q⟩
    | pair a b =>
      obtain ⟨p, rfl, h⟩ := h
      refine ⟨_, rfl, .ref p, .ty "tuple", _, _, true, rfl, ClsV.ty _, TyX.base (TyOf.tup h), kit_ty (by decide +kernel), true, rfl, iteT ?_⟩
      refine ⟨_, rfl, p, _, rfl, .inr (SqT.of h), rfl, true, rfl, iteT ?_⟩
      refine ⟨_, rfl, p, _, 0, .int a, rfl, rfl, SqT.of h, atI_nat (j := 0) rfl, .int a, .ty "int", _, _, true, rfl, ClsV.ty _, TyX.base (TyOf.int _), kit_ty (by decide +kernel), true, rfl, iteT ?_⟩
      exact ⟨_, rfl, p, _, 1, .int b, rfl, rfl, SqT.of h, atI_nat (j := 1) rfl, .int b, .ty "int", _, _, true, rfl, ClsV.ty _, TyX.base (TyOf.int _), kit_ty (by decide +kernel), q⟩
    | sheet x =>
      obtain ⟨p, rfl, u, v, h, h2, h3⟩ := h
      refine ⟨_, rfl, .ref p, .ty "tuple", _, _, true, rfl, ClsV.ty _, TyX.base (TyOf.tup h), kit_ty (by decide +kernel), true, rfl, iteT ?_⟩
      refine ⟨_, rfl, p, _, rfl, .inr (SqT.of h), rfl, true, rfl, iteT ?_⟩
      exact ⟨_, rfl, p, _, 0, .ref u, rfl, rfl, SqT.of h, atI_nat (j := 0) rfl, .ref u, .ty "int", _, _, false, rfl, ClsV.ty _, TyX.base (TyOf.tup h2), kit_ty (by decide +kernel), false, rfl, iteF q⟩
theorem ok_is_two_pairs (T : Txt K mg) : FnOk P w K mg base CX0 2 T.f_is_two_pairs T.d_is_two_pairs ["item"] (spItm sheetB) := by
  refine T.F_is_two_pairs.ok sc_is_two_pairs (fun vs H Q E h => ?_) (fun cdv A outer s H vs Q E hr h => ?_)
  · obtain ⟨v, t, rfl, _⟩ := h
    rfl
  · obtain ⟨v, t, rfl, h, q⟩ := h
    refine ⟨_, (pss_one (ps_ret (pe_and (pe_callB call_isi (by rfl) T.n_isinstance (by decide +kernel) (pa_cons (pv 0) (pa_cons (pe_bltn (v := .ty "tuple") (by rfl) T.n_tuple (by decide +kernel) rfl) pa_nil))) (pe_and (pe_cmpR op_eq (pe_callB call_len_seq (by rfl) T.n_len (by decide +kernel) (pa_cons (pv 0) pa_nil)) pe_int (nomark _)) (pe_and (pe_call (ok_is_pair T) (hr.mono (by decide)) (by rfl) T.g_is_pair T.F_is_pair.kp T.b_is_pair .nil pass0 (pa_cons (pe_ix ix_tup (pv 0) pe_int (fun _ _ => rfl)) pa_nil)) (pe_one (pe_call (ok_is_pair T) (hr.mono (by decide)) (by rfl) T.g_is_pair T.F_is_pair.kp T.b_is_pair .nil pass0 (pa_cons (pe_ix ix_tup (pv 0) pe_int (fun _ _ => rfl)) pa_nil)))))))), ?_⟩
    cases t with
    | str s =>
      cases (show v = .str s from h)
      exact ⟨_, rfl, .str s, .ty "tuple", _, _, false, rfl, ClsV.ty _, TyX.base (TyOf.str _), kit_ty (by decide +kernel), false, rfl, iteF q⟩
    | non =>
      cases (show v = .non from h)
      exact ⟨_, rfl, .non, .ty "tuple", _, _, false, rfl, ClsV.ty _, TyX.base (TyOf.non), kit_ty (by decide +kernel), false, rfl, iteF q⟩
    | int n =>
      cases (show v = .int n from h)
      exact ⟨_, rfl, .int n, .ty "tuple", _, _, false, rfl, ClsV.ty _, TyX.base (TyOf.int _), kit_ty (by decide +kernel), false, rfl, iteF q⟩
    | pair a b =>
      obtain ⟨p, rfl, h⟩ := h
      refine ⟨_, rfl, .ref p, .ty "tuple", _, _, true, rfl, ClsV.ty _, TyX.base (TyOf.tup h), kit_ty (by decide +kernel), true, rfl, iteT ?_⟩
      refine ⟨_, rfl, p, _, rfl, .inr (SqT.of h), rfl, true, rfl, iteT ?_⟩
      exact ⟨_, rfl, p, _, 0, .int a, rfl, rfl, SqT.of h, atI_nat (j := 0) rfl, .int a, .int a, rfl, rfl, false, rfl, iteF q⟩
    | sheet x =>
      obtain ⟨p, rfl, u, v, h, h2, h3⟩ := h
      refine ⟨_, rfl, .ref p, .ty "tuple", _, _, true, rfl, ClsV.ty _, TyX.base (TyOf.tup h), kit_ty (by decide +kernel), true, rfl, iteT ?_⟩
      refine ⟨_, rfl, p, _, rfl, .inr (SqT.of h), rfl, true, rfl, iteT ?_⟩
      refine ⟨_, rfl, p, _, 0, .ref u, rfl, rfl, SqT.of h, atI_nat (j := 0) rfl, .ref u, .pair x.1 x.2.1, rfl, ⟨u, rfl, h2⟩, true, rfl, iteT ?_⟩
      exact ⟨_, rfl, p, _, 1, .ref v, rfl, rfl, SqT.of h, atI_nat (j := 1) rfl, .ref v, .pair x.2.2.1 x.2.2.2, rfl, ⟨v, rfl, h3⟩, q⟩
def fitB (k : Str) (t : Itm) : Bool := if k = "sheet" then sheetB t else if k = "side" then sideB t else if k = "pair" then pairB t else leastB (if k = "pieces" then 2 else 1) t
def spFits : Sp := fun vs H Q _ => ∃ (v : V) (t : Itm) (k : Str), vs = [v, .str k] ∧ ItAt H v t ∧ Q (.bl (fitB k t)) H
theorem ok_fits (T : Txt K mg) : FnOk P w K mg base CX0 3 T.f_fits T.d_fits ["item", "kind"] spFits := by
  refine T.F_fits.ok sc_fits (fun vs H Q E h => ?_) (fun cdv A outer s H vs Q E hr h => ?_)
  · obtain ⟨v, t, k, rfl, _⟩ := h
    rfl
  · obtain ⟨v, t, k, rfl, h, q⟩ := h
    refine ⟨_, (pss_cons (ps_if (pt_cmpR op_eq (pv 1) pe_str (nomark _)) (pss_one (ps_ret (pe_call (ok_is_two_pairs T) (hr.mono (by decide)) (by rfl) T.g_is_two_pairs T.F_is_two_pairs.kp T.b_is_two_pairs .nil pass0 (pa_cons (pv 0) pa_nil)))) pss_nil)
      (pss_cons (ps_if (pt_cmpR op_eq (pv 1) pe_str (nomark _)) (pss_one (ps_ret (pe_cmpR (op_inTD hr.units) (pv 0) (ClX.pe_cval (pe_glob (v := .ref T.C_Heap) (by rfl) T.g_Heap rfl)) (by rfl)))) pss_nil)
      (pss_cons (ps_if (pt_cmpR op_eq (pv 1) pe_str (nomark _)) (pss_one (ps_ret (pe_call (ok_is_pair T) (hr.mono (by decide)) (by rfl) T.g_is_pair T.F_is_pair.kp T.b_is_pair .nil pass0 (pa_cons (pv 0) pa_nil)))) pss_nil)
      (pss_cons (ps_set (i := 2) sc_fits.nd rfl (Or.inl rfl) (pe_ifExp (pt_cmpR op_eq (pv 1) pe_str (nomark _)) pe_int pe_int))
      (pss_one (ps_ret (pe_and (pe_callB call_isi (by rfl) T.n_isinstance (by decide +kernel) (pa_cons (pv 0) (pa_cons (pe_bltn (v := .ty "int") (by rfl) T.n_int (by decide +kernel) rfl) pa_nil))) (pe_one (pe_cmpR op_ge (pv 0) (pv 2) (nomark _)))))))))), ?_⟩
    have kd : ∀ c : Str, decide (V.str k = V.str c) = decide (k = c) := fun c => by
      by_cases z : k = c
      · rw [z, decide_eq_true rfl, decide_eq_true rfl]
      · rw [decide_eq_false fun e => z (V.str.inj e), decide_eq_false z]
    unfold fitB at q
    refine ⟨_, rfl, rfl, _, rfl, ?_⟩
    rw [kd]
    by_cases k1 : k = "sheet"
    · rw [decide_eq_true k1]
      rw [if_pos k1] at q
      exact iteT ⟨_, rfl, v, t, rfl, h, q⟩
    rw [decide_eq_false k1]
    rw [if_neg k1] at q
    refine iteF ⟨_, rfl, rfl, _, rfl, ?_⟩
    rw [kd]
    by_cases k2 : k = "side"
    · rw [decide_eq_true k2]
      rw [if_pos k2] at q
      refine iteT ⟨_, rfl, T.C_Heap, .type "type", .ref T.s_SIDES, .ref T.s_SIDES, rfl, T.cr_Heap, T.cv_SIDES, itD t, ["across", "along"], h.dp, .tup (T.sq_SIDES _) (.cons (.str _) (.cons (.str _) .nil)), itD_plain t, ?_⟩
      rw [in_sides]
      exact q
    rw [decide_eq_false k2]
    rw [if_neg k2] at q
    refine iteF ⟨_, rfl, rfl, _, rfl, ?_⟩
    rw [kd]
    by_cases k3 : k = "pair"
    · rw [decide_eq_true k3]
      rw [if_pos k3] at q
      exact iteT ⟨_, rfl, v, t, rfl, h, q⟩
    rw [decide_eq_false k3]
    rw [if_neg k3] at q
    refine iteF ?_
    have rest : ∀ n : Int, Q (.bl (leastB n t)) H → tAndV (tCB (rIsi K) (tCons (tVar 0) (tCons (tC (.ty "int")) tNil))) (tOp (rI0 fun i j => V.bl (decide (j ≤ i))) (tVar 0) (tVar 2)) [some v, some (.str k), some (.int n)] H Q := by
      intro n q
      cases t with
      | str s =>
        cases (show v = .str s from h)
        exact ⟨_, rfl, .str s, .ty "int", _, _, false, rfl, ClsV.ty _, TyX.base (TyOf.str _), kit_ty (by decide +kernel), false, rfl, iteF q⟩
      | non =>
        cases (show v = .non from h)
        exact ⟨_, rfl, .non, .ty "int", _, _, false, rfl, ClsV.ty _, TyX.base (TyOf.non), kit_ty (by decide +kernel), false, rfl, iteF q⟩
      | int m =>
        cases (show v = .int m from h)
        exact ⟨_, rfl, .int m, .ty "int", _, _, true, rfl, ClsV.ty _, TyX.base (TyOf.int _), kit_ty (by decide +kernel), true, rfl, iteT ⟨_, rfl, _, rfl, m, n, rfl, rfl, q⟩⟩
      | pair a b =>
        obtain ⟨p, rfl, h⟩ := h
        exact ⟨_, rfl, .ref p, .ty "int", _, _, false, rfl, ClsV.ty _, TyX.base (TyOf.tup h), kit_ty (by decide +kernel), false, rfl, iteF q⟩
      | sheet x =>
        obtain ⟨p, rfl, u, v, h, _⟩ := h
        exact ⟨_, rfl, .ref p, .ty "int", _, _, false, rfl, ClsV.ty _, TyX.base (TyOf.tup h), kit_ty (by decide +kernel), false, rfl, iteF q⟩
    refine ⟨_, rfl, rfl, _, rfl, ?_⟩
    rw [kd]
    by_cases k4 : k = "pieces"
    · rw [decide_eq_true k4]
      rw [if_pos k4] at q
      exact iteT (rest 2 q)
    · rw [decide_eq_false k4]
      rw [if_neg k4] at q
      exact iteF (rest 1 q)
structure Shps (K : PySem.W.Frag) (w : World) (d : Addr) : Prop where
  ex : ∃ es n, KDict K w d es n
/-- a comprehension over two tuples of one length -/
theorem lc_zipT {K : PySem.W.Frag} {a b : Addr} {xs ys : List V} {g : TG} {tt : TT} {te : TE} {vs : List Nat} {σ : L2.St} {H1 : Hp} {D : Addr} {Qd : Hp → Prop} (hn : xs.length = ys.length) (Pv : Nat → Hp → Prop) (h0 : Pv 0 (upd H1 D (.lst []))) (hl : ∀ i G, Pv i G → SqT K G a xs ∧ SqT K G b ys)
    (turn : ∀ i x y G T, xs[i]? = some x → ys[i]? = some y → Pv i G → G T = none → g (.ref T) (wipe σ vs) (upd G T (.tup [x, y])) fun σ2 H2 => wipe σ2 vs = wipe σ vs ∧ tt σ2 H2 fun c H3 => if c = true then te σ2 H3 fun z H4 => ∃ acc, H4 D = some (.lst acc) ∧ acc.length < sizeLine ∧ Pv (i + 1) (upd H4 D (.lst (acc ++ [z]))) else Pv (i + 1) H3)
    (fin : ∀ G, Pv xs.length G → Qd G) : ∃ W : Nat → Nat → Hp → Prop, (∃ m, W 0 m (upd H1 D (.lst []))) ∧ ∀ i m G, W i m G → ((RZ.ItzT K a b).stop i G ∧ Qd G) ∨ ((RZ.ItzT K a b).go i G ∧ ∃ Nx : Hp → Prop, (∀ G', Nx G' → ∃ m', m' < m ∧ W (i + 1) m' G') ∧ ∀ x G', (RZ.ItzT K a b).yld i G x G' → g x (wipe σ vs) G' fun σ2 H2 => wipe σ2 vs = wipe σ vs ∧ tt σ2 H2 fun c H3 => if c = true then te σ2 H3 fun z H4 => ∃ acc, H4 D = some (.lst acc) ∧ acc.length < sizeLine ∧ Nx (upd H4 D (.lst (acc ++ [z]))) else Nx H3) := by
  refine ⟨fun i m G => i + m = xs.length ∧ Pv i G, ⟨xs.length, Nat.zero_add _, h0⟩, ?_⟩
  rintro i m G ⟨hm, pv⟩
  obtain ⟨s1, s2⟩ := hl i G pv
  cases m with
  | zero =>
    obtain rfl : i = xs.length := hm
    exact .inl ⟨⟨xs, ys, s1, s2, .inl (Nat.le_refl _)⟩, fin G pv⟩
  | succ m =>
    have lt : i < xs.length := by omega
    have lt2 : i < ys.length := by omega
    refine .inr ⟨⟨xs, ys, xs[i], ys[i], s1, s2, List.getElem?_eq_getElem lt, List.getElem?_eq_getElem lt2⟩, Pv (i + 1), fun G' z => ⟨m, Nat.lt_succ_self m, by omega, z⟩, ?_⟩
    rintro x G' ⟨T, y, z, rfl, hT, rfl, a1, a2⟩
    exact turn i y z G T (a1 xs s1) (a2 ys s2) pv hT
/-- an item of a dict of the program's top -/
theorem pe_kdget {X : Cx} {d : Addr} {es : Array DictEntry} {n : Nat} {o i : Expr} {td ty : TE} {pos : Pos} (D : KDict X.K X.w d es n) (ho : PE X o td) (hi : PE X i ty) (hs : NoSl i) :
    PE X (.Subscript o i pos) (fun σ H Q => td σ H fun v H1 => ty σ H1 fun y H2 => ∃ (z : Str) (u0 : Value) (v0 : V), v = .ref d ∧ y = .str z ∧ PySem.W.nsIn X.K d z = some (some u0) ∧ RelV v0 u0 ∧ Q v0 H2) := by
  refine ⟨fun pins s σ H Q I q => ?_⟩
  refine subD_of PySem.F.slot_dict_getitem.lookup hs (thn (ho.run pins s σ H _ I q) fun u s1 ⟨v, H1, I1, rv, q1⟩ => thn (hi.run pins s1 σ H1 _ I1 q1) fun iv s2 ⟨y, H2, I2, ry, z, u0, v0, e1, e2, e3, e4, q2⟩ => ?_)
  subst e1
  cases rv
  exact ⟨⟨_, I2.kIn _ _ D.at_, rfl⟩, op_item_kd D pins s2 σ H2 (.ref d) y (.ref d) iv Q I2 rfl ry ⟨z, u0, v0, rfl, e2, e3, e4, q2⟩⟩
def shapeOf (s : Str) : Option (List Str) :=
  if s = "saw" then some ["sheet", "side", "pair", "copies"] else if s = "split" then some ["sheet", "side", "pieces", "copies"] else if s = "glue" then some ["sheet", "sheet", "side", "copies"]
  else if s = "stack" then some ["sheet", "side", "pieces", "copies"] else if s = "turn" then some ["sheet", "copies"] else none
def fitAll : List Itm → List Str → Bool
  | t :: ts, k :: ks => fitB k t && fitAll ts ks
  | _, _ => true
def shapeB : List Itm → Bool
  | .str s :: ts => match shapeOf s with
    | some ks => decide (ts.length = ks.length) && fitAll ts ks
    | none => false
  | _ => false
/-- what the table says of a word -/
theorem shape_at (T : Txt K mg) {s : Str} (h : s ∈ words) : (shapeOf s = none ∧ PySem.W.nsIn K T.u_SHAPES s = some none) ∨ ∃ ks p, shapeOf s = some ks ∧ PySem.W.nsIn K T.u_SHAPES s = some (some (.ref p)) ∧ ∀ H, SqT K H p (ks.map V.str) := by
  simp only [words, List.mem_cons, List.not_mem_nil, or_false] at h
  rcases h with rfl | rfl | rfl | rfl | rfl
  · exact .inr ⟨_, T.p_SHAPES_saw, rfl, T.h_SHAPES_saw, T.q_SHAPES_saw⟩
  · exact .inr ⟨_, T.p_SHAPES_split, rfl, T.h_SHAPES_split, T.q_SHAPES_split⟩
  · exact .inr ⟨_, T.p_SHAPES_glue, rfl, T.h_SHAPES_glue, T.q_SHAPES_glue⟩
  · exact .inr ⟨_, T.p_SHAPES_stack, rfl, T.h_SHAPES_stack, T.q_SHAPES_stack⟩
  · exact .inr ⟨_, T.p_SHAPES_turn, rfl, T.h_SHAPES_turn, T.q_SHAPES_turn⟩
theorem fit_list : ∀ {ts : List Itm} {ks : List Str}, ts.length = ks.length → (List.zipWith (fun t k => fitB k t) ts ks).all id = fitAll ts ks
  | [], [], _ => rfl
  | t :: ts, k :: ks, h => by
    rw [List.zipWith_cons_cons, List.all_cons, fit_list (Nat.succ.inj h)]
    rfl
def spStep (f : List Itm → Bool) : Sp := fun vs H Q _ => ∃ (p : Addr) (ts : List Itm), vs = [.ref p] ∧ StepAt H p ts ∧ ts.length ≤ 10 ∧ Headed ts ∧ ∀ H', Same H H' → Q (.bl (f ts)) H'
theorem ok_has_shape (T : Txt K mg) (D : Shps K w T.u_SHAPES) : FnOk P w K mg base CX0 4 T.f_has_shape T.d_has_shape ["step"] (spStep shapeB) := by
  obtain ⟨esD, nD, KD⟩ := D.ex
  refine T.F_has_shape.ok sc_has_shape (fun vs H Q E h => ?_) (fun cdv A outer s H vs Q E hr h => ?_)
  · obtain ⟨p, ts, rfl, _⟩ := h
    rfl
  · obtain ⟨p, ts, rfl, ⟨vs, hp, hts⟩, ln, hH, q⟩ := h
    refine ⟨_, (pss_cons (ps_if (PW.pt (pw_or (pt_cmpR op_eq (pe_callB call_len_seq (by rfl) T.n_len (by decide +kernel) (pa_cons (pv 0) pa_nil)) pe_int (nomark _)) (pw_or (pt_not (pt_val (pe_callB call_isi (by rfl) T.n_isinstance (by decide +kernel) (pa_cons (pe_ix ix_tup (pv 0) pe_int (fun _ _ => rfl)) (pa_cons (pe_bltn (v := .ty "str") (by rfl) T.n_str (by decide +kernel) rfl) pa_nil))))) (pw_or1 (pt_cmpR (op_notIn_kd KD) (pe_ix ix_tup (pv 0) pe_int (fun _ _ => rfl)) (pe_glob (v := .ref T.u_SHAPES) (by rfl) T.g_SHAPES rfl) (by rfl)))))) (pss_one (ps_ret pe_bl)) pss_nil)
      (pss_cons (ps_set (i := 1) sc_has_shape.nd rfl (Or.inl rfl) (pe_kdget KD (pe_glob (v := .ref T.u_SHAPES) (by rfl) T.g_SHAPES rfl) (pe_ix ix_tup (pv 0) pe_int (fun _ _ => rfl)) (fun _ _ => rfl)))
      (pss_one (ps_ret (pe_and (pe_cmpR op_eq (pe_callB call_len_seq (by rfl) T.n_len (by decide +kernel) (pa_cons (pv 0) pa_nil)) (pe_op op_add (pe_callB call_len_seq (by rfl) T.n_len (by decide +kernel) (pa_cons (pv 1) pa_nil)) pe_int) (nomark _)) (pe_one (pe_callB (cr_all rfl) (by rfl) T.n_all (by decide +kernel) (pa_cons (pe_lc (own := [("item", 2), ("kind", 3)]) (g := (gTup K 2 (gCons (gName 2) (gCons (gName 3) gNil)))) (tt := tYes) (te := tCall spFits [] E0 (tCons (tVar 2) (tCons (tVar 3) tNil))) (by rfl) sc_has_shape.nd (RZ.pi_zipA (by rfl) T.n_zip (pa_cons (pe_slice sl_tupA (pv 0) (po_some pe_int) po_none) (pa_cons (pv 1) pa_nil))) (blkOk_by (own := [("item", 2), ("kind", 3)]) (N := ["step", "shape", "item", "kind"]) (sc := defScope s_has_shape) (by decide +kernel)) (fun _ _ _ _ _ => (pg_tup (by rfl) (pgs_cons (pg_name (i := 2) sc_has_shape.nd rfl (Or.inl rfl)) (pgs_cons (pg_name (i := 3) sc_has_shape.nd rfl (Or.inl rfl)) pgs_nil)))) (fun _ _ _ _ _ => pts_nil) (fun _ _ _ _ _ => (pe_call (ok_fits T) (hr.mono (by decide)) (by rfl) T.g_fits T.F_fits.kp T.b_fits .nil pass0 (pa_cons (pv 2) (pa_cons (pv 3) pa_nil))))) pa_nil)))))))), ?_⟩
    cases hts with
    | nil => exact ⟨_, rfl, p, _, rfl, .inr (SqT.of hp), rfl, true, rfl, iteT (q H (Same.refl _))⟩
    | @cons v t vs ts hv hts =>
      have hlen := Paired.length hts
      refine ⟨_, rfl, p, _, rfl, .inr (SqT.of hp), rfl, false, ?_, iteF ?_⟩
      · rw [dV', decide_eq_false (by rw [List.length_cons]; omega)]
      have no : (∀ s, t ≠ .str s) → shapeB (t :: ts) = false := fun z => by
        cases t with
        | str s => exact absurd rfl (z s)
        | _ => rfl
      cases t with
      | int n =>
        cases (show v = .int n from hv)
        exact ⟨_, rfl, p, _, 0, .int n, rfl, rfl, SqT.of hp, atI_nat (j := 0) rfl, .int n, .ty "str", _, _, false, rfl, ClsV.ty _, TyX.base (TyOf.int _), kit_ty (by decide +kernel), false, rfl, iteT (q H (Same.refl _))⟩
      | non =>
        cases (show v = .non from hv)
        exact ⟨_, rfl, p, _, 0, .non, rfl, rfl, SqT.of hp, atI_nat (j := 0) rfl, .non, .ty "str", _, _, false, rfl, ClsV.ty _, TyX.base (TyOf.non), kit_ty (by decide +kernel), false, rfl, iteT (q H (Same.refl _))⟩
      | pair a b =>
        obtain ⟨r, rfl, h⟩ := hv
        exact ⟨_, rfl, p, _, 0, .ref r, rfl, rfl, SqT.of hp, atI_nat (j := 0) rfl, .ref r, .ty "str", _, _, false, rfl, ClsV.ty _, TyX.base (TyOf.tup h), kit_ty (by decide +kernel), false, rfl, iteT (q H (Same.refl _))⟩
      | sheet x =>
        obtain ⟨r, rfl, u, u', h, _⟩ := hv
        exact ⟨_, rfl, p, _, 0, .ref r, rfl, rfl, SqT.of hp, atI_nat (j := 0) rfl, .ref r, .ty "str", _, _, false, rfl, ClsV.ty _, TyX.base (TyOf.tup h), kit_ty (by decide +kernel), false, rfl, iteT (q H (Same.refl _))⟩
      | str s =>
        cases (show v = .str s from hv)
        have hw := hH s _ rfl
        refine ⟨_, rfl, p, _, 0, .str s, rfl, rfl, SqT.of hp, atI_nat (j := 0) rfl, .str s, .ty "str", _, _, true, rfl, ClsV.ty _, TyX.base (TyOf.str _), kit_ty (by decide +kernel), true, rfl, iteF ?_⟩
        rcases shape_at T hw with ⟨sn, nn⟩ | ⟨ks, pk, sn, nn, sq⟩
        · refine ⟨_, rfl, p, _, 0, .str s, rfl, rfl, SqT.of hp, atI_nat (j := 0) rfl, s, none, rfl, rfl, nn, true, rfl, iteT ?_⟩
          have z : shapeB (.str s :: ts) = false := by simp only [shapeB, sn]
          rw [z] at q
          exact q H (Same.refl _)
        · have sB : shapeB (.str s :: ts) = (decide (ts.length = ks.length) && fitAll ts ks) := by
            simp only [shapeB, sn]
          rw [sB] at q
          refine ⟨_, rfl, p, _, 0, .str s, rfl, rfl, SqT.of hp, atI_nat (j := 0) rfl, s, some (.ref pk), rfl, rfl, nn, false, rfl, iteF ?_⟩
          refine ⟨_, rfl, p, _, 0, .str s, rfl, rfl, SqT.of hp, atI_nat (j := 0) rfl, s, .ref pk, .ref pk, rfl, rfl, nn, rfl, ?_⟩
          refine ⟨_, rfl, p, _, rfl, .inr (SqT.of hp), _, rfl, pk, _, rfl, .inr (sq _), _, 1, rfl, rfl, rfl, ?_⟩
          have lk : (ks.map V.str).length = ks.length := List.length_map ..
          by_cases le : ts.length = ks.length
          · rw [decide_eq_true le, Bool.true_and] at q
            refine ⟨true, ?_, iteT ?_⟩
            · rw [dV', decide_eq_true (by rw [List.length_cons, lk, hlen]; omega)]
            have c1 : cutV (V.str s :: vs) (some 1) none = vs := by
              unfold cutV
              rw [HT.sIx_none, show (1 : Int) = ((1 : Nat) : Int) from rfl, HT.sIx_nat, List.length_cons, Nat.min_eq_left (by omega), List.drop_succ_cons, List.drop_zero, List.take_of_length_le (by omega)]
            refine ⟨_, rfl, 1, rfl, p, _, rfl, SqT.of hp, fun z => ?_, fun _ p2 n2 => ?_⟩
            · have := z.1
              rw [show (1 : Int) = ((1 : Nat) : Int) from rfl, HT.sIx_nat, List.length_cons] at this
              omega
            rw [c1]
            have e2 := same_new (o := .tup vs) n2
            refine ⟨_, rfl, p2, pk, vs, ks.map V.str, rfl, .inr ⟨SqT.of upd_same, sq _, fun L nL => ?_⟩⟩
            have e3 := same_new (o := .lst []) nL
            refine lc_zipT (K := K) (a := p2) (b := pk) (xs := vs) (ys := ks.map V.str) (by rw [lk, hlen, le]) (fun i G => Same (upd H p2 (.tup vs)) G ∧ G L = some (.lst (((List.zipWith (fun t k => fitB k t) ts ks).take i).map V.bl))) ⟨e3, upd_same⟩ (fun i G z => ⟨SqT.of (z.1 _ _ upd_same), sq _⟩) ?_ ?_
            · rintro i x y G T1 hx hy ⟨sG, hG⟩ nT
              obtain ⟨t, ht, rt⟩ := Paired.getL hts hx
              rw [List.getElem?_map] at hy
              cases hk : ks[i]? with
              | none =>
                rw [hk] at hy
                cases hy
              | some k =>
                rw [hk] at hy
                cases hy
                have eT := same_new (o := .tup [x, .str k]) nT
                have hi := (List.getElem?_eq_some_iff.mp hx).1
                refine ⟨T1, _, rfl, SqT.of upd_same, rfl, x, _, rfl, .str k, _, rfl, rfl, rfl, _, rfl, _, rfl, x, t, k, rfl, (rt.same (e2.trans (sG.trans eT))), _, eT _ _ hG, ?_, fun a o z => (upd_ne (ne_of_none z nL)).trans ((sG.trans eT) a o z), ?_⟩
                · rw [List.length_map, List.length_take]
                  rw [List.length_cons] at ln
                  exact small1000 (by omega)
                · rw [upd_same, List.take_add_one, List.getElem?_zipWith, ht, hk, List.map_append]
                  rfl
            · rintro G ⟨sG, hG⟩
              have hz : (List.zipWith (fun t k => fitB k t) ts ks).length = vs.length := by
                rw [List.length_zipWith, ← le, Nat.min_self, hlen]
              rw [← hz, List.take_length] at hG
              refine ⟨L, _, rfl, SqL.of hG, ?_⟩
              rw [fit_list le]
              exact q _ (e2.trans sG)
          · rw [decide_eq_false le, Bool.false_and] at q
            refine ⟨false, ?_, iteF (q H (Same.refl _))⟩
            rw [dV', decide_eq_false (by rw [List.length_cons, lk, hlen]; omega)]
end
/-! ### even splits and glues, is_step, check_steps -/
def sideOf (x : Sh) (s : Str) : Int × Int := if s = "across" then (x.1, x.2.1) else (x.2.2.1, x.2.2.2)
def turnS (x : Sh) : Sh := (x.2.2.1, x.2.2.2, x.1, x.2.1)
def evenB (x : Sh) (s : Str) (n : Int) : Bool := decide ((sideOf x s).1 % n = 0) && decide ((sideOf x s).2 % n = 0)
def glueB (x y : Sh) (s : Str) : Bool := decide (sideOf (turnS x) s = sideOf (turnS y) s)
def moreB : List Itm → Bool
  | [.str w, .sheet x, .str s, .int n, .int _] => if w = "split" then evenB x s n else true
  | [.str w, .sheet x, .sheet y, .str s, .int _] => if w = "glue" then glueB x y s else true
  | _ => true
def stepB (ts : List Itm) : Bool := shapeB ts && moreB ts
abbrev SideW (s : Str) : Prop := s = "across" ∨ s = "along"
theorem fit_sheet {t : Itm} (h : fitB "sheet" t = true) : ∃ x, t = .sheet x := by
  cases t <;> first | exact ⟨_, rfl⟩ | cases h
theorem fit_side {t : Itm} (h : fitB "side" t = true) : ∃ s, t = .str s ∧ SideW s := by
  cases t with
  | str s => exact ⟨s, rfl, of_decide_eq_true h⟩
  | _ => cases h
theorem fit_pair {t : Itm} (h : fitB "pair" t = true) : ∃ a b, t = .pair a b := by
  cases t <;> first | exact ⟨_, _, rfl⟩ | cases h
theorem fit_pieces {t : Itm} (h : fitB "pieces" t = true) : ∃ n, t = .int n ∧ 2 ≤ n := by
  cases t with
  | int n => exact ⟨n, rfl, of_decide_eq_true h⟩
  | _ => cases h
theorem fit_copies {t : Itm} (h : fitB "copies" t = true) : ∃ n, t = .int n ∧ 1 ≤ n := by
  cases t with
  | int n => exact ⟨n, rfl, of_decide_eq_true h⟩
  | _ => cases h
/-- what has a shape -/
inductive Shaped : List Itm → Prop
  | saw {x : Sh} {s : Str} {a b c : Int} (hs : SideW s) (hc : 1 ≤ c) : Shaped [.str "saw", .sheet x, .str s, .pair a b, .int c]
  | split {x : Sh} {s : Str} {n c : Int} (hs : SideW s) (hn : 2 ≤ n) (hc : 1 ≤ c) : Shaped [.str "split", .sheet x, .str s, .int n, .int c]
  | glue {x y : Sh} {s : Str} {c : Int} (hs : SideW s) (hc : 1 ≤ c) : Shaped [.str "glue", .sheet x, .sheet y, .str s, .int c]
  | stack {x : Sh} {s : Str} {n c : Int} (hs : SideW s) (hn : 2 ≤ n) (hc : 1 ≤ c) : Shaped [.str "stack", .sheet x, .str s, .int n, .int c]
  | turn {x : Sh} {c : Int} (hc : 1 ≤ c) : Shaped [.str "turn", .sheet x, .int c]
theorem fit4 {ts : List Itm} {k1 k2 k3 k4 : Str} (h : (decide (ts.length = 4) && fitAll ts [k1, k2, k3, k4]) = true) : ∃ t1 t2 t3 t4, ts = [t1, t2, t3, t4] ∧ fitB k1 t1 = true ∧ fitB k2 t2 = true ∧ fitB k3 t3 = true ∧ fitB k4 t4 = true := by
  rw [Bool.and_eq_true] at h
  obtain ⟨h1, h2⟩ := h
  have h1 := of_decide_eq_true h1
  match ts, h1 with
  | [t1, t2, t3, t4], _ =>
    simp only [fitAll, Bool.and_eq_true, Bool.and_true] at h2
    exact ⟨t1, t2, t3, t4, rfl, h2.1, h2.2.1, h2.2.2.1, h2.2.2.2⟩
theorem shape_inv {ts : List Itm} (h : shapeB ts = true) : Shaped ts := by
  match ts, h with
  | .str s :: ts, h =>
    by_cases s1 : s = "saw"
    · subst s1
      obtain ⟨t1, t2, t3, t4, rfl, f1, f2, f3, f4⟩ := fit4 (show (decide (ts.length = 4) && fitAll ts ["sheet", "side", "pair", "copies"]) = true from h)
      obtain ⟨x, rfl⟩ := fit_sheet f1
      obtain ⟨w, rfl, hw⟩ := fit_side f2
      obtain ⟨a, b, rfl⟩ := fit_pair f3
      obtain ⟨c, rfl, hc⟩ := fit_copies f4
      exact .saw hw hc
    by_cases s2 : s = "split"
    · subst s2
      obtain ⟨t1, t2, t3, t4, rfl, f1, f2, f3, f4⟩ := fit4 (show (decide (ts.length = 4) && fitAll ts ["sheet", "side", "pieces", "copies"]) = true from h)
      obtain ⟨x, rfl⟩ := fit_sheet f1
      obtain ⟨w, rfl, hw⟩ := fit_side f2
      obtain ⟨n, rfl, hn⟩ := fit_pieces f3
      obtain ⟨c, rfl, hc⟩ := fit_copies f4
      exact .split hw hn hc
    by_cases s3 : s = "glue"
    · subst s3
      obtain ⟨t1, t2, t3, t4, rfl, f1, f2, f3, f4⟩ := fit4 (show (decide (ts.length = 4) && fitAll ts ["sheet", "sheet", "side", "copies"]) = true from h)
      obtain ⟨x, rfl⟩ := fit_sheet f1
      obtain ⟨y, rfl⟩ := fit_sheet f2
      obtain ⟨w, rfl, hw⟩ := fit_side f3
      obtain ⟨c, rfl, hc⟩ := fit_copies f4
      exact .glue hw hc
    by_cases s4 : s = "stack"
    · subst s4
      obtain ⟨t1, t2, t3, t4, rfl, f1, f2, f3, f4⟩ := fit4 (show (decide (ts.length = 4) && fitAll ts ["sheet", "side", "pieces", "copies"]) = true from h)
      obtain ⟨x, rfl⟩ := fit_sheet f1
      obtain ⟨w, rfl, hw⟩ := fit_side f2
      obtain ⟨n, rfl, hn⟩ := fit_pieces f3
      obtain ⟨c, rfl, hc⟩ := fit_copies f4
      exact .stack hw hn hc
    by_cases s5 : s = "turn"
    · subst s5
      have h : (decide (ts.length = 2) && fitAll ts ["sheet", "copies"]) = true := h
      rw [Bool.and_eq_true] at h
      obtain ⟨h1, h2⟩ := h
      have h1 := of_decide_eq_true h1
      match ts, h1 with
      | [t1, t2], _ =>
        simp only [fitAll, Bool.and_eq_true, Bool.and_true] at h2
        obtain ⟨x, rfl⟩ := fit_sheet h2.1
        obtain ⟨c, rfl, hc⟩ := fit_copies h2.2
        exact .turn hc
    · exfalso
      have sn : shapeOf s = none := by
        unfold shapeOf
        rw [if_neg s1, if_neg s2, if_neg s3, if_neg s4, if_neg s5]
      simp only [shapeB, sn] at h
      cases h
section
variable {base : Heap} {K : PySem.W.Frag} {mg : Str → Option Value} {P : Program} {w : World}
def spTurned : Sp := fun vs H Q _ => ∃ (p : Addr) (x : Sh), vs = [.ref p] ∧ ShAt H p x ∧ ∀ q H', H q = none → Same H H' → ShAt H' q (turnS x) → Q (.ref q) H'
theorem ok_turned (T : Txt K mg) : FnOk P w K mg base CX0 1 T.f_turned T.d_turned ["sheet"] spTurned := by
  refine T.F_turned.ok sc_turned (fun vs H Q E h => ?_) (fun cdv A outer s H vs Q E hr h => ?_)
  · obtain ⟨p, x, rfl, _⟩ := h
    rfl
  · obtain ⟨p, x, rfl, ⟨u, v, h1, h2, h3⟩, q⟩ := h
    refine ⟨_, (pss_cons (ps_asg (pv 0) (pg_tup (by rfl) (pgs_cons (pg_name (i := 1) sc_turned.nd rfl (Or.inl rfl)) (pgs_cons (pg_name (i := 2) sc_turned.nd rfl (Or.inl rfl)) pgs_nil))))
      (pss_one (ps_ret (pe_tup (pa_cons (pv 2) (pa_cons (pv 1) pa_nil)))))), ?_⟩
    refine ⟨_, rfl, p, _, rfl, SqT.of h1, rfl, .ref u, _, rfl, .ref v, _, rfl, rfl, _, rfl, _, rfl, by show 2 ≤ sizeLine; decide, fun t ht => ?_⟩
    have e := same_new (o := .tup [.ref v, .ref u]) ht
    exact q t _ ht e ⟨v, u, upd_same, e _ _ h3, e _ _ h2⟩
def spSideOf : Sp := fun vs H Q _ => ∃ (p : Addr) (x : Sh) (s : Str), vs = [.ref p, .str s] ∧ ShAt H p x ∧ ∀ r, H r = some (.tup [.int (sideOf x s).1, .int (sideOf x s).2]) → Q (.ref r) H
theorem ok_side_of (T : Txt K mg) : FnOk P w K mg base CX0 1 T.f_side_of T.d_side_of ["sheet", "side"] spSideOf := by
  refine T.F_side_of.ok sc_side_of (fun vs H Q E h => ?_) (fun cdv A outer s H vs Q E hr h => ?_)
  · obtain ⟨p, x, s, rfl, _⟩ := h
    rfl
  · obtain ⟨p, x, sd, rfl, ⟨u, v, h1, h2, h3⟩, q⟩ := h
    refine ⟨_, (pss_cons (ps_asg (pv 0) (pg_tup (by rfl) (pgs_cons (pg_name (i := 2) sc_side_of.nd rfl (Or.inl rfl)) (pgs_cons (pg_name (i := 3) sc_side_of.nd rfl (Or.inl rfl)) pgs_nil))))
      (pss_one (ps_ret (pe_ifExp (pt_cmpR op_eq (pv 1) pe_str (nomark _)) (pv 2) (pv 3))))), ?_⟩
    unfold sideOf at q
    refine ⟨_, rfl, p, _, rfl, SqT.of h1, rfl, .ref u, _, rfl, .ref v, _, rfl, rfl, ?_⟩
    by_cases z : sd = "across"
    · rw [if_pos z] at q
      exact ⟨_, rfl, rfl, true, by rw [z, decide_eq_true rfl], iteT ⟨_, rfl, q u h2⟩⟩
    · rw [if_neg z] at q
      exact ⟨_, rfl, rfl, false, by rw [decide_eq_false fun e => z (V.str.inj e)], iteF ⟨_, rfl, q v h3⟩⟩
def spSplit : Sp := fun vs H Q _ => ∃ (p : Addr) (x : Sh) (s : Str) (n c : Int), vs = [.ref p] ∧ StepAt H p [.str "split", .sheet x, .str s, .int n, .int c] ∧ 2 ≤ n ∧ Q (.bl (evenB x s n)) H
theorem ok_is_even_split (T : Txt K mg) : FnOk P w K mg base CX0 2 T.f_is_even_split T.d_is_even_split ["step"] spSplit := by
  refine T.F_is_even_split.ok sc_is_even_split (fun vs H Q E h => ?_) (fun cdv A outer s H vs Q E hr h => ?_)
  · obtain ⟨p, x, s, n, c, rfl, _⟩ := h
    rfl
  · obtain ⟨p, x, sd, n, c, rfl, ⟨vs, hp, hts⟩, hn, q⟩ := h
    refine ⟨_, (pss_cons (ps_asg (pv 0) (pg_tup (by rfl) (pgs_cons (pg_name (i := 1) sc_is_even_split.nd rfl (Or.inl rfl)) (pgs_cons (pg_name (i := 2) sc_is_even_split.nd rfl (Or.inl rfl)) (pgs_cons (pg_name (i := 3) sc_is_even_split.nd rfl (Or.inl rfl)) (pgs_cons (pg_name (i := 4) sc_is_even_split.nd rfl (Or.inl rfl)) (pgs_cons (pg_name (i := 5) sc_is_even_split.nd rfl (Or.inl rfl)) pgs_nil)))))))
      (pss_cons (ps_asg (pe_call (ok_side_of T) (hr.mono (by decide)) (by rfl) T.g_side_of T.F_side_of.kp T.b_side_of .nil pass0 (pa_cons (pv 2) (pa_cons (pv 3) pa_nil))) (pg_tup (by rfl) (pgs_cons (pg_name (i := 6) sc_is_even_split.nd rfl (Or.inl rfl)) (pgs_cons (pg_name (i := 7) sc_is_even_split.nd rfl (Or.inl rfl)) pgs_nil))))
      (pss_one (ps_ret (pe_and (pe_cmpR op_eq (pe_op op_mod (pv 6) (pv 4)) pe_int (nomark _)) (pe_one (pe_cmpR op_eq (pe_op op_mod (pv 7) (pv 4)) pe_int (nomark _)))))))), ?_⟩
    match vs, hts with
    | [v0, v1, v2, v3, v4], .cons h0 (.cons ⟨px, e1, hx⟩ (.cons h2 (.cons h3 (.cons h4 .nil)))) =>
      subst e1
      cases (show v0 = .str "split" from h0)
      cases (show v2 = .str sd from h2)
      cases (show v3 = .int n from h3)
      cases (show v4 = .int c from h4)
      refine ⟨_, rfl, p, _, rfl, SqT.of hp, rfl, .str "split", _, rfl, .ref px, _, rfl, .str sd, _, rfl, .int n, _, rfl, .int c, _, rfl, rfl, ?_⟩
      refine ⟨_, rfl, _, rfl, px, x, sd, rfl, hx, fun r hr' => ⟨r, _, rfl, SqT.of hr', rfl, .int _, _, rfl, .int _, _, rfl, rfl, ?_⟩⟩
      unfold evenB at q
      refine ⟨_, rfl, _, rfl, _, n, rfl, rfl, (show 0 < n by omega), rfl, _, rfl, ?_⟩
      rw [dV']
      cases z : decide ((sideOf x sd).1 % n = 0) with
      | false =>
        rw [z, Bool.false_and] at q
        exact iteF q
      | true =>
        rw [z, Bool.true_and] at q
        refine iteT ⟨_, rfl, _, rfl, _, n, rfl, rfl, (show 0 < n by omega), rfl, ?_⟩
        rw [dV']
        exact q
def spGlue : Sp := fun vs H Q _ => ∃ (p : Addr) (x y : Sh) (s : Str) (c : Int), vs = [.ref p] ∧ StepAt H p [.str "glue", .sheet x, .sheet y, .str s, .int c] ∧ ∀ H', Same H H' → Q (.bl (glueB x y s)) H'
theorem pair_eqv (a b c e : Int) : PyData.eqv (.tuple [.int a, .int b]) (.tuple [.int c, .int e]) = decide ((a, b) = (c, e)) := by
  rw [Bool.eq_iff_iff, decide_eq_true_iff]
  simp [PyData.eqv, PyData.eqvAll]
theorem dpair {H : Hp} {p : Addr} {x y : Int} (h : H p = some (.tup [.int x, .int y])) : Dp K H (.ref p) (.tuple [.int x, .int y]) := .tup (SqT.of h) (.cons (.int x) (.cons (.int y) .nil))
theorem ok_is_even_glue (T : Txt K mg) : FnOk P w K mg base CX0 2 T.f_is_even_glue T.d_is_even_glue ["step"] spGlue := by
  refine T.F_is_even_glue.ok sc_is_even_glue (fun vs H Q E h => ?_) (fun cdv A outer s H vs Q E hr h => ?_)
  · obtain ⟨p, x, y, s, c, rfl, _⟩ := h
    rfl
  · obtain ⟨p, x, y, sd, c, rfl, ⟨vs, hp, hts⟩, q⟩ := h
    refine ⟨_, (pss_cons (ps_asg (pv 0) (pg_tup (by rfl) (pgs_cons (pg_name (i := 1) sc_is_even_glue.nd rfl (Or.inl rfl)) (pgs_cons (pg_name (i := 2) sc_is_even_glue.nd rfl (Or.inl rfl)) (pgs_cons (pg_name (i := 3) sc_is_even_glue.nd rfl (Or.inl rfl)) (pgs_cons (pg_name (i := 4) sc_is_even_glue.nd rfl (Or.inl rfl)) (pgs_cons (pg_name (i := 5) sc_is_even_glue.nd rfl (Or.inl rfl)) pgs_nil)))))))
      (pss_one (ps_ret (pe_cmpR (op_eqD hr.units) (pe_call (ok_side_of T) (hr.mono (by decide)) (by rfl) T.g_side_of T.F_side_of.kp T.b_side_of .nil pass0 (pa_cons (pe_call (ok_turned T) (hr.mono (by decide)) (by rfl) T.g_turned T.F_turned.kp T.b_turned .nil pass0 (pa_cons (pv 2) pa_nil)) (pa_cons (pv 4) pa_nil))) (pe_call (ok_side_of T) (hr.mono (by decide)) (by rfl) T.g_side_of T.F_side_of.kp T.b_side_of .nil pass0 (pa_cons (pe_call (ok_turned T) (hr.mono (by decide)) (by rfl) T.g_turned T.F_turned.kp T.b_turned .nil pass0 (pa_cons (pv 3) pa_nil)) (pa_cons (pv 4) pa_nil))) (nomark _))))), ?_⟩
    match vs, hts with
    | [v0, v1, v2, v3, v4], .cons h0 (.cons ⟨px, e1, hx⟩ (.cons ⟨py, e2, hy⟩ (.cons h3 (.cons h4 .nil)))) =>
      subst e1 e2
      cases (show v0 = .str "glue" from h0)
      cases (show v3 = .str sd from h3)
      cases (show v4 = .int c from h4)
      refine ⟨_, rfl, p, _, rfl, SqT.of hp, rfl, .str "glue", _, rfl, .ref px, _, rfl, .ref py, _, rfl, .str sd, _, rfl, .int c, _, rfl, rfl, ?_⟩
      refine ⟨_, rfl, px, x, rfl, hx, fun q1 H1 n1 s1 hq1 => ⟨_, rfl, q1, _, sd, rfl, hq1, fun r1 hr1 => ⟨_, rfl, py, y, rfl, hy.same s1, fun q2 H2 n2 s2 hq2 => ⟨_, rfl, q2, _, sd, rfl, hq2, fun r2 hr2 => ?_⟩⟩⟩⟩
      refine ⟨_, _, dpair (s2 _ _ hr1), dpair hr2, rfl, rfl, ?_⟩
      rw [pair_eqv]
      exact q _ (s1.trans s2)
theorem ok_is_step (T : Txt K mg) (D : Shps K w T.u_SHAPES) : FnOk P w K mg base CX0 5 T.f_is_step T.d_is_step ["step"] (spStep stepB) := by
  refine T.F_is_step.ok sc_is_step (fun vs H Q E h => ?_) (fun cdv A outer s H vs Q E hr h => ?_)
  · obtain ⟨p, ts, rfl, _⟩ := h
    rfl
  · obtain ⟨p, ts, rfl, hS, ln, hH, q⟩ := h
    refine ⟨_, (pss_cons (ps_if (pt_not (pt_val (pe_call (ok_has_shape T D) (hr.mono (by decide)) (by rfl) T.g_has_shape T.F_has_shape.kp T.b_has_shape .nil pass0 (pa_cons (pv 0) pa_nil)))) (pss_one (ps_ret pe_bl)) pss_nil)
      (pss_cons (ps_if (pt_cmpR op_eq (pe_ix ix_tup (pv 0) pe_int (fun _ _ => rfl)) pe_str (nomark _)) (pss_one (ps_ret (pe_call (ok_is_even_split T) (hr.mono (by decide)) (by rfl) T.g_is_even_split T.F_is_even_split.kp T.b_is_even_split .nil pass0 (pa_cons (pv 0) pa_nil)))) pss_nil)
      (pss_cons (ps_if (pt_cmpR op_eq (pe_ix ix_tup (pv 0) pe_int (fun _ _ => rfl)) pe_str (nomark _)) (pss_one (ps_ret (pe_call (ok_is_even_glue T) (hr.mono (by decide)) (by rfl) T.g_is_even_glue T.F_is_even_glue.kp T.b_is_even_glue .nil pass0 (pa_cons (pv 0) pa_nil)))) pss_nil)
      (pss_one (ps_ret pe_bl))))), ?_⟩
    refine ⟨_, rfl, p, ts, rfl, hS, ln, hH, fun H1 s1 => ⟨_, rfl, ?_⟩⟩
    unfold stepB at q
    cases z : shapeB ts with
    | false =>
      rw [z, Bool.false_and] at q
      exact iteT (q _ s1)
    | true =>
      rw [z, Bool.true_and] at q
      refine iteF ?_
      have hS1 := hS.same s1
      obtain ⟨vs, hp, hts⟩ := id hS1
      have at0 : ∀ {wd : Str} {r : List Itm}, ts = .str wd :: r → ∃ vs', vs = .str wd :: vs' := by
        rintro wd r rfl
        match vs, hts with
        | v :: vs', .cons e _ => exact ⟨vs', by rw [show v = .str wd from e]⟩
      cases shape_inv z with
      | saw hs hc =>
        obtain ⟨vs', rfl⟩ := at0 rfl
        exact ⟨_, rfl, p, _, 0, .str "saw", rfl, rfl, SqT.of hp, atI_nat (j := 0) rfl, rfl, false, by decide +kernel, iteF ⟨_, rfl, p, _, 0, .str "saw", rfl, rfl, SqT.of hp, atI_nat (j := 0) rfl, rfl, false, by decide +kernel, iteF (q _ s1)⟩⟩
      | @split x sd n c hs hn hc =>
        obtain ⟨vs', rfl⟩ := at0 rfl
        exact ⟨_, rfl, p, _, 0, .str "split", rfl, rfl, SqT.of hp, atI_nat (j := 0) rfl, rfl, true, by decide +kernel, iteT ⟨_, rfl, p, x, sd, n, c, rfl, hS1, hn, q _ s1⟩⟩
      | @glue x y sd c hs hc =>
        obtain ⟨vs', rfl⟩ := at0 rfl
        exact ⟨_, rfl, p, _, 0, .str "glue", rfl, rfl, SqT.of hp, atI_nat (j := 0) rfl, rfl, false, by decide +kernel, iteF ⟨_, rfl, p, _, 0, .str "glue", rfl, rfl, SqT.of hp, atI_nat (j := 0) rfl, rfl, true, by decide +kernel, iteT ⟨_, rfl, p, x, y, sd, c, rfl, hS1, fun H2 s2 => q _ (s1.trans s2)⟩⟩⟩
      | stack hs hn hc =>
        obtain ⟨vs', rfl⟩ := at0 rfl
        exact ⟨_, rfl, p, _, 0, .str "stack", rfl, rfl, SqT.of hp, atI_nat (j := 0) rfl, rfl, false, by decide +kernel, iteF ⟨_, rfl, p, _, 0, .str "stack", rfl, rfl, SqT.of hp, atI_nat (j := 0) rfl, rfl, false, by decide +kernel, iteF (q _ s1)⟩⟩
      | turn hc =>
        obtain ⟨vs', rfl⟩ := at0 rfl
        exact ⟨_, rfl, p, _, 0, .str "turn", rfl, rfl, SqT.of hp, atI_nat (j := 0) rfl, rfl, false, by decide +kernel, iteF ⟨_, rfl, p, _, 0, .str "turn", rfl, rfl, SqT.of hp, atI_nat (j := 0) rfl, rfl, false, by decide +kernel, iteF (q _ s1)⟩⟩
end
/-- steps, in a list or in a tuple -/
inductive HandedS (K : PySem.W.Frag) (H : Hp) : V → List (List Itm) → Prop
  | list {l : Addr} {as : List Addr} {ss : List (List Itm)} (hl : SqL K H l (as.map V.ref)) (hr : Paired (StepAt H) as ss) : HandedS K H (.ref l) ss
  | tup {l : Addr} {as : List Addr} {ss : List (List Itm)} (hl : SqT K H l (as.map V.ref)) (hr : Paired (StepAt H) as ss) : HandedS K H (.ref l) ss
def Throws (C : Addr) (fs : List (Str × V)) (H : Hp) (E : XK) : Prop := ∀ x Hf, H x = none → Same H Hf → Hf x = some (.xd fs) → E (.ref C) (some x) Hf
theorem Throws.up {C : Addr} {fs : List (Str × V)} {H H1 : Hp} {E : XK} (h : Throws C fs H E) (s : Same H H1) : Throws C fs H1 E := fun x Hf hx s1 f1 => h x Hf (s.free hx) (s.trans s1) f1
def badStep (i : Nat) : List (Str × V) := [("at", .int (i : Int)), ("word", .str "BadStep")]
def FirstOdd (ss : List (List Itm)) (i : Nat) : Prop := (∃ t, ss[i]? = some t ∧ stepB t = false) ∧ ∀ j t, j < i → ss[j]? = some t → stepB t = true
section
variable {base : Heap} {K : PySem.W.Frag} {mg : Str → Option Value} {w : World}
theorem step_row {H : Hp} {as : List Addr} {ss : List (List Itm)} (h : Paired (StepAt H) as ss) {i : Nat} {v : V} (hv : (as.map V.ref)[i]? = some v) : ∃ a t, v = .ref a ∧ ss[i]? = some t ∧ StepAt H a t := by
  rw [List.getElem?_map] at hv
  cases ha : as[i]? with
  | none =>
    rw [ha] at hv
    cases hv
  | some a =>
    rw [ha] at hv
    obtain ⟨t, ht, z⟩ := Paired.getL h ha
    exact ⟨a, t, (Option.some.inj hv).symm, ht, z⟩
def spCkSteps (T : Txt K mg) : Sp := fun vs H Q E => ∃ (r : V) (ss : List (List Itm)), vs = [r] ∧ HandedS K H r ss ∧ (∀ t ∈ ss, t.length ≤ 10 ∧ Headed t) ∧ ((∀ t ∈ ss, stepB t = true) → ∀ H', Same H H' → Q .non H') ∧ (∀ i, FirstOdd ss i → Throws T.e_BadStep.C (badStep i) H E)
theorem ok_check_steps (T : Txt K mg) (D : Shps K w T.u_SHAPES) : FnOk PySem.Challenge.pw_grainyard_k64_texts_of_sheets_and_steps w K mg base (L2.CX PySem.Challenge.pw_grainyard_k64_texts_of_sheets_and_steps w) 6 T.f_check_steps T.d_check_steps ["steps"] (spCkSteps T) := by
  refine T.F_check_steps.okX sc_check_steps (fun vs H Q E h => ?_) (fun cdv A outer s H vs Q E hr h => ?_)
  · obtain ⟨r, ss, rfl, _⟩ := h
    rfl
  · obtain ⟨r, ss, rfl, hh, ln, q1, q2⟩ := h
    refine ⟨_, (pss_one (ps_for (passes_of rfl) rfl (PI.or (pi_enum (by rfl) T.n_enumerate (pa_cons (pv 0) pa_nil)) (pi_enumT (by rfl) T.n_enumerate (pa_cons (pv 0) pa_nil))) (pg_tup (by rfl) (pgs_cons (pg_name (i := 1) sc_check_steps.nd rfl (Or.inl rfl)) (pgs_cons (pg_name (i := 2) sc_check_steps.nd rfl (Or.inl rfl)) pgs_nil))) (pss_one (ps_if (pt_not (pt_val (pe_call (ok_is_step T D) (hr.mono (by decide)) (by rfl) T.g_is_step T.F_is_step.kp T.b_is_step .nil pass0 (pa_cons (pv 2) pa_nil)))) (pss_one (ps_raise rfl (takes_of rfl rfl rfl rfl) (pmk_oex (oex_of T.e_BadStep) T.e_BadStep.iC T.e_BadStep.tI (ini_BadStep T) (hr.mono (by decide)) (bi_BadStep T) .nil pass0 (by rfl) T.e_BadStep.g (pa_cons (pv 1) pa_nil)))) pss_nil)))), ?_⟩
    have all : (∀ j t, j < ss.length → ss[j]? = some t → stepB t = true) → ∀ t ∈ ss, stepB t = true := by
      intro g t ht
      obtain ⟨j, hj⟩ := List.mem_iff_getElem?.mp ht
      exact g j t (List.getElem?_eq_some_iff.mp hj).1 hj
    cases hh with
    | @list l as _ hl hr' =>
      refine .inl ⟨_, rfl, l, _, rfl, hl, for_enumL (K := K) (a := l) (xs := as.map V.ref) (fun i σ H' => ∃ y1 y2, σ = [some (.ref l), y1, y2] ∧ Same H H' ∧ ∀ j t, j < i → ss[j]? = some t → stepB t = true) ⟨_, _, rfl, Same.refl _, fun j f hj => absurd hj (Nat.not_lt_zero _)⟩ ?_ ?_ ?_⟩
      · rintro i τ G hi ⟨_, _, _, s, _⟩
        exact Same.seq s hl
      · rintro i x τ G T1 hx ⟨y1, y2, rfl, s, good⟩ hT
        obtain ⟨a, t, rfl, ht, hs⟩ := step_row hr' hx
        have s1 := s.trans (same_new (o := .tup [.int (i : Nat), .ref a]) hT)
        refine ⟨T1, _, rfl, SqT.of upd_same, rfl, .int i, _, rfl, .ref a, _, rfl, rfl, ?_⟩
        refine ⟨_, rfl, a, t, rfl, hs.same s1, (ln t (List.mem_of_getElem? ht)).1, (ln t (List.mem_of_getElem? ht)).2, fun H2 s2 => ⟨_, rfl, ?_⟩⟩
        cases z : stepB t with
        | true =>
          refine iteF ⟨_, _, rfl, s1.trans s2, fun j t' hj ht' => ?_⟩
          rcases Nat.lt_succ_iff_lt_or_eq.mp hj with l | rfl
          · exact good j t' l ht'
          · cases ht.symm.trans ht'
            exact z
        | false => exact iteT ⟨_, rfl, mk_use rfl (by decide) fun x Hf hx s3 f3 => ((q2 i ⟨⟨t, ht, z⟩, good⟩).up (s1.trans s2)) x Hf hx s3 f3⟩
      · rintro τ G ⟨_, _, rfl, s, good⟩
        rw [List.length_map, Paired.length hr'] at good
        exact q1 (all good) _ s
    | @tup l as _ hl hr' =>
      refine .inr ⟨_, rfl, l, _, rfl, hl, for_enumT (K := K) (a := l) (xs := as.map V.ref) (fun i σ H' => ∃ y1 y2, σ = [some (.ref l), y1, y2] ∧ Same H H' ∧ ∀ j t, j < i → ss[j]? = some t → stepB t = true) ⟨_, _, rfl, Same.refl _, fun j f hj => absurd hj (Nat.not_lt_zero _)⟩ ?_ ?_ ?_⟩
      · rintro i τ G hi ⟨_, _, _, s, _⟩
        exact Evl.ex_t s hl
      · rintro i x τ G T1 hx ⟨y1, y2, rfl, s, good⟩ hT
        obtain ⟨a, t, rfl, ht, hs⟩ := step_row hr' hx
        have s1 := s.trans (same_new (o := .tup [.int (i : Nat), .ref a]) hT)
        refine ⟨T1, _, rfl, SqT.of upd_same, rfl, .int i, _, rfl, .ref a, _, rfl, rfl, ?_⟩
        refine ⟨_, rfl, a, t, rfl, hs.same s1, (ln t (List.mem_of_getElem? ht)).1, (ln t (List.mem_of_getElem? ht)).2, fun H2 s2 => ⟨_, rfl, ?_⟩⟩
        cases z : stepB t with
        | true =>
          refine iteF ⟨_, _, rfl, s1.trans s2, fun j t' hj ht' => ?_⟩
          rcases Nat.lt_succ_iff_lt_or_eq.mp hj with l | rfl
          · exact good j t' l ht'
          · cases ht.symm.trans ht'
            exact z
        | false => exact iteT ⟨_, rfl, mk_use rfl (by decide) fun x Hf hx s3 f3 => ((q2 i ⟨⟨t, ht, z⟩, good⟩).up (s1.trans s2)) x Hf hx s3 f3⟩
      · rintro τ G ⟨_, _, rfl, s, good⟩
        rw [List.length_map, Paired.length hr'] at good
        exact q1 (all good) _ s
end

/-! ### texts of heaps that are read: the math -/
abbrev rn (z : Str) : Option Int := readN z.cps.toList
abbrev rp (z : Str) : Option (Int × Int) := readP z.cps.toList
def sheetT (x : Sh) : Str := pairT x.1 x.2.1 ++ Str.ofString " x " ++ pairT x.2.2.1 x.2.2.2
/-- letters below the digits and the signs -/
theorem lets_free {c : Nat} (h : c < 43) (n : Int) : c ∉ lets n := by
  have hd : ∀ m : Nat, c ∉ TL.numL m := fun m hm => by
    have := TL.numL_digits m c hm
    omega
  unfold lets
  split
  · intro z
    rcases List.mem_cons.mp z with z | z
    · omega
    · exact hd _ z
  · exact hd _
theorem pair_free {c : Nat} (h : c < 43) (a b : Int) : c ∉ TL.tl (pairT a b) := by
  rw [pair_lets, TL.tl_mk]
  unfold pairL
  have h1 := lets_free h a
  have h2 := lets_free h b
  split
  · exact h1
  split
  · intro z
    rcases List.mem_append.mp z with z | z
    · exact h2 z
    · rw [List.mem_singleton.mp z] at h
      omega
  · intro z
    simp only [List.mem_append, List.mem_singleton] at z
    rcases z with ((z | z) | z) | z
    · exact h1 z
    · split at z
      · rw [List.mem_singleton.mp z] at h
        omega
      · cases z
    · exact h2 z
    · omega
theorem tl_x : TL.tl (Str.ofString " x ") = 32 :: [120, 32] := by decide +kernel
theorem tl_b : TL.tl (Str.ofString " ") = 32 :: [] := by decide +kernel
theorem tl_n : TL.tl (Str.ofString "\n") = 10 :: [] := by decide +kernel
theorem join_two (y a b : Str) : Str.join y [a, b] = a ++ y ++ b := rfl
/-- the pair of a text is written so -/
theorem readP_text {l : List Nat} {m n : Int} (h : readP l = some (m, n)) : pairT m n = mkS l ∧ m.natAbs < 10 ^ 20 ∧ n.natAbs < 10 ^ 20 := by
  unfold readP at h
  split at h
  · rename_i hl
    obtain ⟨b, rfl⟩ := List.getLast?_eq_some_iff.mp hl
    rw [List.dropLast_concat, ← prog_res (sgAt_is b)] at h
    unfold progP at h
    split at h
    · rename_i m' n' hm hn
      split at h
      · rename_i e
        cases h
        refine ⟨e, ?_, (readN_text hn).2⟩
        by_cases k0 : sgAt b = 0
        · rw [if_pos k0] at hm
          exact (readN_text hm).2
        · rw [if_neg k0] at hm
          exact (readN_text hm).2
      · cases h
    · cases h
  · cases hn : readN l with
    | none =>
      rw [hn] at h
      cases h
    | some k =>
      rw [hn] at h
      cases h
      refine ⟨?_, (readN_text hn).2, by decide⟩
      unfold pairT
      rw [if_pos rfl]
      exact (readN_text hn).1
theorem rp_text {z : Str} {p : Int × Int} (h : rp z = some p) : pairT p.1 p.2 = z ∧ p.1.natAbs < 10 ^ 20 ∧ p.2.natAbs < 10 ^ 20 := by
  have := readP_text (m := p.1) (n := p.2) h
  rwa [show mkS z.cps.toList = z from TL.mk_tl z] at this
theorem rn_text {z : Str} {n : Int} (h : rn z = some n) : decT n = z ∧ n.natAbs < 10 ^ 20 := by
  have := readN_text h
  rwa [show mkS z.cps.toList = z from TL.mk_tl z] at this
theorem rn_dec {n : Int} (h : n.natAbs < 10 ^ 20) : rn (decT n) = some n := by
  show readN (decT n).cps.toList = _
  rw [dec_lets, mk_letters]
  exact read_lets h
theorem rp_pairT {a b : Int} (ha : a.natAbs < 10 ^ 20) (hb : b.natAbs < 10 ^ 20) : rp (pairT a b) = some (a, b) := by
  show readP (pairT a b).cps.toList = _
  rw [pair_lets, mk_letters]
  exact read_pairL ha hb
def two : List (Option (Int × Int)) → Option Sh
  | [some p, some q] => some (p.1, p.2, q.1, q.2)
  | _ => none
/-- the sheet of a text -/
def readSh (z : Str) : Option Sh := two ((Txt.split z (Str.ofString " x ")).map rp)
def Small20 (x : Sh) : Prop := x.1.natAbs < 10 ^ 20 ∧ x.2.1.natAbs < 10 ^ 20 ∧ x.2.2.1.natAbs < 10 ^ 20 ∧ x.2.2.2.natAbs < 10 ^ 20
theorem two_some {l : List (Option (Int × Int))} {x : Sh} (h : two l = some x) : l = [some (x.1, x.2.1), some (x.2.2.1, x.2.2.2)] := by
  unfold two at h
  split at h
  · cases h
    rfl
  · cases h
theorem readSh_text {z : Str} {x : Sh} (h : readSh z = some x) : sheetT x = z ∧ Small20 x := by
  have e := two_some h
  match hs : Txt.split z (Str.ofString " x "), e with
  | [a, b], e =>
    rw [List.map_cons, List.map_cons, List.map_nil] at e
    have e1 := (List.cons.inj e).1
    have e2 := (List.cons.inj (List.cons.inj e).2).1
    obtain ⟨t1, b1, b2⟩ := rp_text e1
    obtain ⟨t2, b3, b4⟩ := rp_text e2
    have j := StrLaws.join_split z (Str.ofString " x ")
    rw [hs, join_two] at j
    refine ⟨?_, b1, b2, b3, b4⟩
    unfold sheetT
    rw [t1, t2, j]
  | [], e => exact absurd (congrArg List.length e) (by simp)
  | [a], e => exact absurd (congrArg List.length e) (by simp)
  | a :: b :: c :: r, e => exact absurd (congrArg List.length e) (by simp)
theorem readSh_sheet {x : Sh} (h : Small20 x) : readSh (sheetT x) = some x := by
  unfold readSh
  have e : Txt.split (sheetT x) (Str.ofString " x ") = [pairT x.1 x.2.1, pairT x.2.2.1 x.2.2.2] := by
    have := TL.split_join (y := Str.ofString " x ") tl_x (by decide +kernel) (parts := [pairT x.1 x.2.1, pairT x.2.2.1 x.2.2.2]) (by simp) (by
      intro p hp
      simp only [List.mem_cons, List.not_mem_nil, or_false] at hp
      rcases hp with rfl | rfl <;> exact pair_free (by decide) _ _)
    rwa [TL.join_eq, join_two] at this
  rw [e, List.map_cons, List.map_cons, List.map_nil, rp_pairT h.1 h.2.1, rp_pairT h.2.2.1 h.2.2.2]
  rfl
theorem first_of {c : Nat} : ∀ {l : List Nat}, c ∈ l → ∃ p q, l = p ++ c :: q ∧ c ∉ p
  | [], h => by cases h
  | d :: l, h => by
    by_cases e : d = c
    · exact ⟨[], l, by rw [e]; rfl, by simp⟩
    · have h' : c ∈ l := by
        rcases List.mem_cons.mp h with z | z
        · exact absurd z.symm e
        · exact z
      obtain ⟨p, q, e1, e2⟩ := first_of h'
      refine ⟨d :: p, q, by rw [e1]; rfl, ?_⟩
      intro z
      rcases List.mem_cons.mp z with z | z
      · exact e z.symm
      · exact e2 z
/-- a text up to its first blank, and what stands behind it -/
theorem blank_cases (z : Str) : (32 ∉ TL.tl z) ∨ ∃ a b : Str, 32 ∉ TL.tl a ∧ z = a ++ Str.ofString " " ++ b := by
  by_cases h : 32 ∈ TL.tl z
  · obtain ⟨p, q, e, hp⟩ := first_of h
    have t : TL.tl (mkS p ++ Str.ofString " " ++ mkS q) = p ++ [32] ++ q := by rw [TL.tl_append, TL.tl_append, tl_b, TL.tl_mk p, TL.tl_mk q]
    exact .inr ⟨mkS p, mkS q, by rw [TL.tl_mk]; exact hp, TL.ext_tl (e.trans (t.trans (by rw [List.append_assoc]; rfl)).symm)⟩
  · exact .inl h
/-- split at blanks, by the first one -/
theorem split_first (z : Str) : ∃ r, Txt.split z (Str.ofString " ") = (Txt.partition z (Str.ofString " ")).1 :: r ∧ Str.join (Str.ofString " ") r = (Txt.partition z (Str.ofString " ")).2.2 := by
  have hk : (Str.ofString " ").cps.all (· < 256) = true := by decide +kernel
  have sp : ∀ z, (Txt.split z (Str.ofString " ")).map TL.tl = TL.spl (32 :: []) 0 [] (TL.tl z) := fun z => by
    rw [TL.split_spl z _ (by rw [tl_b]; simp) (TL.kind_ok hk), tl_b]
  rcases blank_cases z with h | ⟨a, b, ha, rfl⟩
  · rw [TL.partition_none tl_b h]
    refine ⟨[], ?_, rfl⟩
    refine TL.map_tl_inj ?_
    rw [sp, TL.spl_last1 h]
    rfl
  · rw [TL.partition_app tl_b ha]
    refine ⟨Txt.split b (Str.ofString " "), ?_, StrLaws.join_split b _⟩
    refine TL.map_tl_inj ?_
    rw [sp, TL.tl_append, TL.tl_append, tl_b, List.append_assoc, TL.spl_part1 ha, List.map_cons, sp]
    rfl
/-! ### numbers that are read -/
/-- i not in range(lo, hi) -/
theorem op_notIn_rng {X : Cx} : OpR X (compareOp .NotIn) (fun x y H Q => ∃ i a lo hi, x = V.int i ∧ y = V.ref a ∧ H a = some (.rng lo hi) ∧ Q (.bl (!decide (lo ≤ i ∧ i < hi))) H) := by
  rintro pins s σ H x y v u Q I rx ry ⟨i, a, lo, hi, rfl, rfl, ha, q⟩
  obtain ⟨k, rfl⟩ := rx
  cases (show u = Value.ref a from ry)
  obtain ⟨t1, t2, t3, ho⟩ := I.hok a _ ha
  have rng : s.TypeIs (.ref a) "range" := ⟨_, ho, rfl⟩
  apply wpAny_bind
  apply wpAny_contains_slot rng F.slot_range_contains
  refine call_meets F.slot_range_contains rng F.entry_range_contains (F.args_range_contains_2 _ _) (q_contains a lo hi i t1 t2 t3 k) ⟨ho, ?_⟩
  refine wpAny_truthy_bool (wpAny_pure ⟨.bl _, H, I, rfl, ?_⟩)
  rw [place1]
  exact q
theorem dig_in (c : Nat) : decide (c ∈ (Str.ofString "0123456789").cps.toList) = digB c := by
  have e : (Str.ofString "0123456789").cps.toList = [48, 49, 50, 51, 52, 53, 54, 55, 56, 57] := by decide +kernel
  rw [e]
  unfold digB
  by_cases h : 48 ≤ c ∧ c ≤ 57
  · rw [decide_eq_true h, decide_eq_true]
    simp only [List.mem_cons, List.not_mem_nil, or_false]
    omega
  · rw [decide_eq_false h, decide_eq_false]
    simp only [List.mem_cons, List.not_mem_nil, or_false]
    omega
def optV : Option Int → V
  | none => .non
  | some n => .int n
section
variable {base : Heap} {K : PySem.W.Frag} {mg : Str → Option Value} {P : Program} {w : World}
theorem starts_minus (z : Str) : Txt.startswith z (Str.ofString "-") = minusB z.cps.toList := by
  unfold Txt.startswith minusB
  have e : (Str.ofString "-").cps.toList = [45] := by decide +kernel
  have l : (Str.ofString "-").length = 1 := by decide +kernel
  rw [StrLaws.subAt_eq, e, l, List.drop_zero, TL.len_tl]
  show (decide (0 + 1 ≤ z.cps.toList.length) && _) = _
  cases z.cps.toList with
  | nil => decide
  | cons c r =>
    have h : decide (0 + 1 ≤ (c :: r).length) = true := decide_eq_true (by simp)
    rw [h, Bool.true_and]
    simp
theorem cut_tail (z : Str) : cutS z (some 1) none = mkS (z.cps.toList.drop 1) := by
  unfold cutS
  rw [show (some (1 : Int)) = some ((1 : Nat) : Int) from rfl, HT.sIx_nat, HT.sIx_none]
  have hl : z.length = z.cps.toList.length := TL.len_tl z
  congr 2
  rw [hl]
  generalize z.cps.toList = l
  cases l with
  | nil => rfl
  | cons c r =>
    have : min 1 (c :: r).length = 1 := by rw [List.length_cons]; omega
    rw [this]
    exact List.take_of_length_le (by simp)
theorem digs_len (z : List Nat) : (digsL z).length ≤ z.length := by
  unfold digsL
  split
  · rw [List.length_drop]
    omega
  · exact Nat.le_refl _
theorem mk_self (z : Str) : mkS z.cps.toList = z := TL.mk_tl z
theorem dS {x y : Str} : decide (V.str x = V.str y) = decide (x = y) := by
  by_cases h : x = y
  · rw [h, decide_eq_true rfl, decide_eq_true rfl]
  · rw [decide_eq_false h, decide_eq_false fun z => h (V.str.inj z)]
def spReadN : Sp := fun vs H Q _ => ∃ z : Str, vs = [.str z] ∧ z.length ≤ 6000 ∧ ∀ H', Same H H' → Q (optV (readN z.cps.toList)) H'
theorem ok_read_number (T : Txt K mg) : FnOk P w K mg base CX0 1 T.f_read_number T.d_read_number ["text"] spReadN := by
  refine T.F_read_number.ok sc_read_number (fun vs H Q E h => ?_) (fun cdv A outer s H vs Q E hr h => ?_)
  · obtain ⟨z, rfl, _⟩ := h
    rfl
  · obtain ⟨z, rfl, hz, q⟩ := h
    refine ⟨_, (Evl.pss_cut (ps_set (i := 1) sc_read_number.nd rfl (Or.inl rfl) (pe_ifExp (pt_val (pe_m1 PySem.F.slot_str_startswith PySem.F.type_str_startswith mt_startswith (pv 0) pe_str)) (pe_slice sl_str (pv 0) (po_some pe_int) po_none) (pv 0)))
      (pss_cons (ps_if (PW.pt (pw_or (pt_cmpR op_notIn_rng (pe_callB call_len_str (by rfl) T.n_len (by decide +kernel) (pa_cons (pv 1) pa_nil)) (pe_callTy cr_range2 (by rfl) T.n_range (by decide +kernel) (pa_cons pe_int (pa_cons (pe_op op_add (pe_glob (v := .int (20)) (by rfl) T.g_MOST_DIGITS T.rv_MOST_DIGITS) pe_int) pa_nil))) (by rfl)) (pw_or1 (pt_not (pt_val (pe_callB (cr_all rfl) (by rfl) T.n_all (by decide +kernel) (pa_cons (pe_lc (own := [("digit", 3)]) (g := (gName 3)) (tt := tYes) (by rfl) sc_read_number.nd (pi_str (pv 1)) (blkOk_by (own := [("digit", 3)]) (N := ["text", "digits", "number", "digit"]) (sc := defScope s_read_number) (by decide +kernel)) (fun _ _ _ _ _ => (pg_name (i := 3) sc_read_number.nd rfl (Or.inl rfl))) (fun _ _ _ _ _ => pts_nil) (fun _ _ _ _ _ => (pe_cmpR op_in_sign (pv 3) pe_str (by rfl)))) pa_nil))))))) (pss_one (ps_ret pe_non)) pss_nil)
      (pss_cons (ps_set (i := 2) sc_read_number.nd rfl (Or.inl rfl) (pe_callTy call_int_str (by rfl) T.n_int (by decide +kernel) (pa_cons (pv 0) pa_nil)))
      (pss_one (ps_ret (pe_ifExp (pt_cmpR op_eq (pe_callTy call_str_int (by rfl) T.n_str (by decide +kernel) (pa_cons (pv 2) pa_nil)) (pv 0) (nomark _)) (pv 2) pe_non)))))), ?_⟩
    have hzl : z.cps.toList.length ≤ 6000 := by rw [← TL.len_tl]; exact hz
    have hz' : z.length ≤ sizeLine := by rw [sz_eq]; omega
    refine ⟨fun σ G => σ = [some (.str z), some (.str (mkS (digsL z.cps.toList))), none, none] ∧ G = H, ?_, ?_⟩
    · refine ⟨_, rfl, ⟨_, rfl⟩, z, _, rfl, rfl, _, rfl, ?_⟩
      rw [starts_minus]
      cases m : minusB z.cps.toList with
      | true =>
        refine iteT ⟨_, rfl, 1, rfl, z, rfl, hz', ?_, rfl⟩
        rw [cut_tail]
        unfold digsL
        rw [if_pos m]
        rfl
      | false =>
        refine iteF ⟨_, rfl, ?_, rfl⟩
        unfold digsL
        rw [if_neg (by rw [m]; decide), mk_self]
        rfl
    rintro σ G ⟨rfl, rfl⟩
    have dl := digs_len z.cps.toList
    have hd : (mkS (digsL z.cps.toList)).length ≤ sizeLine := by rw [mkS_len, sz_eq]; omega
    unfold readN at q
    refine ⟨_, rfl, _, rfl, hd, 20, 1, rfl, rfl, 1, 21, rfl, fun p np => ⟨_, p, 1, 21, rfl, rfl, upd_same, _, rfl, ?_⟩⟩
    have s1 := same_new (o := .rng 1 21) np
    have el : ((mkS (digsL z.cps.toList)).length : Int) = ((digsL z.cps.toList).length : Int) := by rw [mkS_len]
    by_cases g1 : 1 ≤ ((mkS (digsL z.cps.toList)).length : Int) ∧ ((mkS (digsL z.cps.toList)).length : Int) < 21
    · rw [decide_eq_true g1]
      refine iteF ⟨_, rfl, _, rfl, fun L nL => lc_it walk_str (fun i X => Same G X ∧ X L = some (.lst (((digsL z.cps.toList).take i |>.map digB).map V.bl))) ⟨s1.trans (same_new nL), upd_same⟩ (fun _ _ _ _ => trivial) ?_ ?_⟩
      · rintro i x X X' hi ⟨sX, hL⟩ ⟨rfl, c, hc, rfl⟩
        refine ⟨rfl, _, rfl, c, _, rfl, rfl, _, hL, ?_, fun a o zz => (upd_ne (ne_of_none zz (s1.free nL))).trans (sX _ _ zz), ?_⟩
        · rw [List.length_map, List.length_map, List.length_take]
          exact Nat.lt_of_le_of_lt (Nat.min_le_right _ _) (by rw [sz_eq]; omega)
        · have e : (digsL z.cps.toList)[i]? = some c := by simpa using hc
          rw [upd_same, dig_in, List.take_succ, e, List.map_append, List.map_append]
          rfl
      · rintro X ⟨sX, hL⟩
        have en : (mkS (digsL z.cps.toList)).cps.size = (digsL z.cps.toList).length := by simp
        rw [en, List.take_length] at hL
        refine ⟨L, _, rfl, SqL.of hL, _, rfl, ?_⟩
        have ga : guardB z.cps.toList = ((digsL z.cps.toList).map digB).all id := by
          unfold guardB
          rw [decide_eq_true (by rw [el] at g1; omega), Bool.true_and, List.all_map]
          rfl
        rw [← ga]
        cases g : guardB z.cps.toList with
        | false =>
          rw [g, if_neg (by decide)] at q
          exact iteT (q _ sX)
        | true =>
          rw [g, if_pos rfl] at q
          have vb := guard_bd g
          have e64 : (valN z.cps.toList).natAbs < 10 ^ 64 := by omega
          have ml := guard_len g
          refine iteF ⟨_, rfl, z, valN z.cps.toList, rfl, by rw [← mk_self z]; exact guard_int g, by rw [TL.len_tl]; show z.cps.toList.length ≤ 640; omega, ?_⟩
          refine ⟨_, rfl, _, rfl, (text_len e64).1, _, rfl, rfl, _, rfl, ?_⟩
          rw [show Str.ofString (toString (valN z.cps.toList)) = decT (valN z.cps.toList) from rfl, dS]
          have gt := guard_text g
          rw [mk_self] at gt
          cases zb : zeroB z.cps.toList with
          | false =>
            rw [decide_eq_true (gt.mpr zb)]
            rw [zb, if_neg (by decide)] at q
            exact iteT ⟨_, rfl, q _ sX⟩
          | true =>
            rw [decide_eq_false fun e => by rw [gt.mp e] at zb; cases zb]
            rw [zb, if_pos rfl] at q
            exact iteF (q _ sX)
    · rw [decide_eq_false g1]
      have g : guardB z.cps.toList = false := by
        unfold guardB
        rw [decide_eq_false (by rw [el] at g1; omega), Bool.false_and]
      rw [g, if_neg (by decide)] at q
      exact iteT (iteT (q _ s1))
theorem cut_head (z : Str) : cutS z none (some 1) = mkS (z.cps.toList.take 1) := by
  unfold cutS
  rw [show (some (1 : Int)) = some ((1 : Nat) : Int) from rfl, HT.sIx_nat, HT.sIx_none, List.drop_zero, Nat.sub_zero]
  have hl : z.length = z.cps.toList.length := TL.len_tl z
  congr 2
  rw [hl]
  generalize z.cps.toList = l
  cases l with
  | nil => rfl
  | cons c r => rw [show min 1 (c :: r).length = 1 by rw [List.length_cons]; omega]
theorem first_is (z : Str) (c : Nat) : decide (cutS z none (some 1) = mkS [c]) = (z.cps.toList.head? == some c) := by
  rw [cut_head]
  have inj : ∀ {a b : List Nat}, mkS a = mkS b ↔ a = b := fun {a b} => ⟨fun e => by have := congrArg TL.tl e; rwa [TL.tl_mk, TL.tl_mk] at this, fun e => by rw [e]⟩
  rw [Bool.eq_iff_iff, decide_eq_true_iff, inj]
  cases z.cps.toList with
  | nil => simp
  | cons d r => simp
theorem minus_S : Str.ofString "-" = mkS [45] := by decide +kernel
theorem zero_S : Str.ofString "0" = mkS [48] := by decide +kernel
theorem ok_number_read (T : Txt K mg) : FnOk P w K mg base CX0 1 T.f_number_read T.d_number_read ["_law_word"] spReadN := by
  refine T.F_number_read.ok sc_number_read (fun vs H Q E h => ?_) (fun cdv A outer s H vs Q E hr h => ?_)
  · obtain ⟨z, rfl, _⟩ := h
    rfl
  · obtain ⟨z, rfl, hz, q⟩ := h
    refine ⟨_, (Evl.pss_cut (ps_set (i := 1) sc_number_read.nd rfl (Or.inl rfl) (pe_ifExp (pt_cmpR op_eq (pe_slice sl_str (pv 0) po_none (po_some pe_int)) pe_str (nomark _)) (pe_slice sl_str (pv 0) (po_some pe_int) po_none) (pv 0)))
      (pss_cons (ps_if (PW.pt (pw_or (pt_not (pt_chain op_le op_le pe_int (pe_callB call_len_str (by rfl) T.n_len (by decide +kernel) (pa_cons (pv 1) pa_nil)) pe_int)) (pw_or1 (pt_not (pt_val (pe_callB (cr_all rfl) (by rfl) T.n_all (by decide +kernel) (pa_cons (pe_lc (own := [("_law_sign_z", 2)]) (g := (gName 2)) (tt := tYes) (by rfl) sc_number_read.nd (pi_str (pv 1)) (blkOk_by (own := [("_law_sign_z", 2)]) (N := ["_law_word", "_law_digits", "_law_sign_z"]) (sc := defScope s_number_read) (by decide +kernel)) (fun _ _ _ _ _ => (pg_name (i := 2) sc_number_read.nd rfl (Or.inl rfl))) (fun _ _ _ _ _ => pts_nil) (fun _ _ _ _ _ => (pe_cmpR op_in_sign (pv 2) pe_str (by rfl)))) pa_nil))))))) (pss_one (ps_ret pe_non)) pss_nil)
      (pss_cons (ps_if (PW.pt (pw_and (pt_cmpR op_eq (pe_slice sl_str (pv 1) po_none (po_some pe_int)) pe_str (nomark _)) (pw_and1 (pt_cmpR op_ne (pv 0) pe_str (nomark _))))) (pss_one (ps_ret pe_non)) pss_nil)
      (pss_one (ps_ret (pe_callTy call_int_str (by rfl) T.n_int (by decide +kernel) (pa_cons (pv 0) pa_nil))))))), ?_⟩
    have hzl : z.cps.toList.length ≤ 6000 := by rw [← TL.len_tl]; exact hz
    have hz' : z.length ≤ sizeLine := by rw [sz_eq]; omega
    refine ⟨fun σ G => σ = [some (.str z), some (.str (mkS (digsL z.cps.toList))), none] ∧ G = H, ?_, ?_⟩
    · refine ⟨_, rfl, 1, rfl, z, rfl, hz', rfl, _, rfl, ?_⟩
      have fi : decide (cutS z none (some 1) = mkS [45]) = minusB z.cps.toList := first_is z 45
      rw [dS, minus_S, fi]
      cases m : minusB z.cps.toList with
      | true =>
        refine iteT ⟨_, rfl, 1, rfl, z, rfl, hz', ?_, rfl⟩
        rw [cut_tail]
        unfold digsL
        rw [if_pos m]
        rfl
      | false =>
        refine iteF ⟨_, rfl, ?_, rfl⟩
        unfold digsL
        rw [if_neg (by rw [m]; decide), mk_self]
        rfl
    rintro σ G ⟨rfl, rfl⟩
    have dl := digs_len z.cps.toList
    have hd : (mkS (digsL z.cps.toList)).length ≤ sizeLine := by rw [mkS_len, sz_eq]; omega
    unfold readN at q
    have el : ((mkS (digsL z.cps.toList)).length : Int) = ((digsL z.cps.toList).length : Int) := by rw [mkS_len]
    refine ⟨_, rfl, _, rfl, hd, 1, _, rfl, rfl, _, rfl, ?_⟩
    have bad : ¬ (1 ≤ ((mkS (digsL z.cps.toList)).length : Int) ∧ ((mkS (digsL z.cps.toList)).length : Int) ≤ 20) → ∀ X, Same G X → Q .non X := by
      intro g1 X sX
      have g : guardB z.cps.toList = false := by
        unfold guardB
        rw [decide_eq_false (by rw [el] at g1; omega), Bool.false_and]
      rw [g, if_neg (by decide)] at q
      exact q _ sX
    by_cases h1 : 1 ≤ ((mkS (digsL z.cps.toList)).length : Int)
    · rw [decide_eq_true h1]
      refine iteT ⟨_, 20, rfl, rfl, _, rfl, ?_⟩
      by_cases h2 : ((mkS (digsL z.cps.toList)).length : Int) ≤ 20
      · rw [decide_eq_true h2]
        refine iteF ⟨_, rfl, _, rfl, fun L nL => lc_it walk_str (fun i X => Same G X ∧ X L = some (.lst (((digsL z.cps.toList).take i |>.map digB).map V.bl))) ⟨same_new nL, upd_same⟩ (fun _ _ _ _ => trivial) ?_ ?_⟩
        · rintro i x X X' hi ⟨sX, hL⟩ ⟨rfl, c, hc, rfl⟩
          refine ⟨rfl, _, rfl, c, _, rfl, rfl, _, hL, ?_, fun a o zz => (upd_ne (ne_of_none zz nL)).trans (sX _ _ zz), ?_⟩
          · rw [List.length_map, List.length_map, List.length_take]
            exact Nat.lt_of_le_of_lt (Nat.min_le_right _ _) (by rw [sz_eq]; omega)
          · have e : (digsL z.cps.toList)[i]? = some c := by simpa using hc
            rw [upd_same, dig_in, List.take_succ, e, List.map_append, List.map_append]
            rfl
        · rintro X ⟨sX, hL⟩
          have en : (mkS (digsL z.cps.toList)).cps.size = (digsL z.cps.toList).length := by simp
          rw [en, List.take_length] at hL
          refine ⟨L, _, rfl, SqL.of hL, _, rfl, ?_⟩
          have ga : guardB z.cps.toList = ((digsL z.cps.toList).map digB).all id := by
            unfold guardB
            rw [decide_eq_true (by rw [el] at h1 h2; omega), Bool.true_and, List.all_map]
            rfl
          rw [← ga]
          cases g : guardB z.cps.toList with
          | false =>
            rw [g, if_neg (by decide)] at q
            exact iteT (q _ sX)
          | true =>
            rw [g, if_pos rfl] at q
            have ml := guard_len g
            refine iteF ⟨_, rfl, 1, rfl, _, rfl, hd, rfl, _, rfl, ?_⟩
            have fi : decide (cutS (mkS (digsL z.cps.toList)) none (some 1) = mkS [48]) = ((digsL z.cps.toList).head? == some 48) := first_is (mkS (digsL z.cps.toList)) 48
            rw [dS, zero_S, fi]
            have ret : zeroB z.cps.toList = false → tRet (tCB (fun xs H Q => ∃ a n, xs = [.str a] ∧ PySem.intText? a = some n ∧ a.length ≤ 640 ∧ Q (.int n) H) (tCons (tVar 0) tNil)) { nx := fun _ H' => Q .non H', rt := Q } [some (.str z), some (.str (mkS (digsL z.cps.toList))), none] X := by
              intro zb
              rw [zb, if_neg (by decide)] at q
              exact ⟨_, rfl, z, valN z.cps.toList, rfl, by rw [← mk_self z]; exact guard_int g, by rw [TL.len_tl]; show z.cps.toList.length ≤ 640; omega, q _ sX⟩
            cases hh : ((digsL z.cps.toList).head? == some 48) with
            | false => exact iteF (iteF (ret (by unfold zeroB; rw [hh, Bool.false_and])))
            | true =>
              refine iteT ⟨_, rfl, rfl, _, rfl, ?_⟩
              rw [dS]
              by_cases e0 : z = mkS [48]
              · rw [decide_eq_true e0]
                exact iteF (ret (by unfold zeroB; rw [e0]; rfl))
              · rw [decide_eq_false e0]
                have : zeroB z.cps.toList = true := by
                  unfold zeroB
                  rw [hh, Bool.true_and, Bool.not_eq_true', beq_eq_false_iff_ne]
                  intro e
                  exact e0 (by rw [← mk_self z, e])
                rw [this, if_pos rfl] at q
                exact iteT (q _ sX)
      · rw [decide_eq_false h2]
        exact iteT (bad (fun z => h2 z.2) _ (Same.refl _))
    · rw [decide_eq_false h1]
      exact iteF ⟨_, rfl, iteT (bad (fun z => h1 z.1) _ (Same.refl _))⟩
end
/-! ### two numbers that are read -/
section
variable {base : Heap} {K : PySem.W.Frag} {mg : Str → Option Value} {P : Program} {w : World}
def spReadNs (K : PySem.W.Frag) : Sp := fun vs H Q _ => ∃ (t : Addr) (a b : Str), vs = [.ref t] ∧ SqT K H t [.str a, .str b] ∧ a.length ≤ 6000 ∧ b.length ≤ 6000 ∧
  (∀ H', Same H H' → (readN a.cps.toList = none ∨ readN b.cps.toList = none) → Q .non H') ∧ ∀ m n p H', readN a.cps.toList = some m → readN b.cps.toList = some n → Same H H' → H' p = some (.tup [.int m, .int n]) → Q (.ref p) H'
theorem opt_flat (o : Option Int) : flatV (optV o) = true := by cases o <;> rfl
theorem ok_read_numbers (T : Txt K mg) : FnOk P w K mg base CX0 2 T.f_read_numbers T.d_read_numbers ["texts"] (spReadNs K) := by
  refine T.F_read_numbers.ok sc_read_numbers (fun vs H Q E h => ?_) (fun cdv A outer s H vs Q E hr h => ?_)
  · obtain ⟨t, a, b, rfl, _⟩ := h
    rfl
  · obtain ⟨t, a, b, rfl, hT, la, lb, q1, q2⟩ := h
    refine ⟨_, (pss_cons (ps_set (i := 1) sc_read_numbers.nd rfl (Or.inl rfl) (pe_callTy call_tuple_of (by rfl) T.n_tuple (by decide +kernel) (pa_cons (pe_lc (own := [("text", 2)]) (g := (gName 2)) (tt := tYes) (te := tCall spReadN [] E0 (tCons (tVar 2) tNil)) (by rfl) sc_read_numbers.nd (pi_tup (pv 0)) (blkOk_by (own := [("text", 2)]) (N := ["texts", "numbers", "text"]) (sc := defScope s_read_numbers) (by decide +kernel)) (fun _ _ _ _ _ => (pg_name (i := 2) sc_read_numbers.nd rfl (Or.inl rfl))) (fun _ _ _ _ _ => pts_nil) (fun _ _ _ _ _ => (pe_call (ok_read_number T) (hr.mono (by decide)) (by rfl) T.g_read_number T.F_read_number.kp T.b_read_number .nil pass0 (pa_cons (pv 2) pa_nil)))) pa_nil)))
      (pss_one (ps_ret (pe_ifExp (pt_cmpR op_in_seq pe_non (pv 1) (by rfl)) pe_non (pv 1))))), ?_⟩
    refine ⟨_, rfl, t, rfl, ⟨_, hT⟩, fun L nL => lc_tup (K := K) (a := t) (xs := [.str a, .str b]) (fun i G => Same H G ∧ G L = some (.lst (([a, b].take i).map fun z => optV (readN z.cps.toList)))) ⟨same_new nL, upd_same⟩ (fun i G _ z => Evl.ex_t z.1 hT) ?_ ?_⟩
    · rintro i x G hx ⟨sG, hG⟩
      obtain ⟨z, rfl, lz, hz⟩ : ∃ z : Str, x = .str z ∧ z.length ≤ 6000 ∧ [a, b][i]? = some z := by
        match i, hx with
        | 0, hx => cases hx; exact ⟨a, rfl, la, rfl⟩
        | 1, hx => cases hx; exact ⟨b, rfl, lb, rfl⟩
        | n + 2, hx => simp at hx
      refine ⟨rfl, _, rfl, z, rfl, lz, fun H4 s4 => ⟨_, s4 _ _ hG, ?_, fun a' o zz => (upd_ne (ne_of_none zz nL)).trans (s4 _ _ (sG _ _ zz)), ?_⟩⟩
      · rw [List.length_map, List.length_take]
        exact small1000 (show min i 2 ≤ 1000 from Nat.le_trans (Nat.min_le_right _ _) (by decide))
      · rw [upd_same, List.take_succ, hz, List.map_append]
        rfl
    · rintro G ⟨sG, hG⟩
      have hG' : G L = some (.lst [optV (readN a.cps.toList), optV (readN b.cps.toList)]) := hG
      refine ⟨L, _, rfl, .inl ⟨SqL.of hG', fun p np => ?_⟩⟩
      have e := same_new (o := .tup [optV (readN a.cps.toList), optV (readN b.cps.toList)]) np
      refine ⟨_, rfl, p, [optV (readN a.cps.toList), optV (readN b.cps.toList)], rfl, .inr (SqT.of upd_same), rfl, ?_, ?_⟩
      · simp [opt_flat]
      · cases ha : readN a.cps.toList with
        | none =>
          rw [ha] at e
          exact ⟨true, rfl, iteT (q1 _ (sG.trans e) (.inl ha))⟩
        | some m =>
          cases hb : readN b.cps.toList with
          | none =>
            rw [ha, hb] at e
            exact ⟨true, rfl, iteT (q1 _ (sG.trans e) (.inr hb))⟩
          | some n =>
            rw [ha, hb] at e
            exact ⟨false, rfl, iteF ⟨_, rfl, q2 m n p _ ha hb (sG.trans e) upd_same⟩⟩
end
/-! ### pairs that are read -/
section
variable {base : Heap} {K : PySem.W.Frag} {mg : Str → Option Value} {P : Program} {w : World}
def spReadP : Sp := fun vs H Q _ => ∃ l : List Nat, vs = [.str (mkS l)] ∧ l.length ≤ 5900 ∧
  (∀ H', Same H H' → readP l = none → Q .non H') ∧ ∀ m n p H', readP l = some (m, n) → Same H H' → H' p = some (.tup [.int m, .int n]) → Q (.ref p) H'
theorem ok_read_pair (T : Txt K mg) : FnOk P w K mg base CX0 4 T.f_read_pair T.d_read_pair ["text"] spReadP := by
  refine T.F_read_pair.ok sc_read_pair (fun vs H Q E h => ?_) (fun cdv A outer s H vs Q E hr h => ?_)
  · obtain ⟨l, rfl, _⟩ := h
    rfl
  · obtain ⟨l, rfl, hl, q1, q2⟩ := h
    refine ⟨_, (pss_cons (ps_if (pt_not (pt_val (pe_m1 PySem.F.slot_str_endswith PySem.F.type_str_endswith mt_endswith (pv 0) pe_str))) (pss_one (ps_ret (pe_call (ok_read_numbers T) (hr.mono (by decide)) (by rfl) T.g_read_numbers T.F_read_numbers.kp T.b_read_numbers .nil pass0 (pa_cons (pe_tup (pa_cons (pv 0) (pa_cons pe_str pa_nil))) pa_nil)))) pss_nil)
      (pss_cons (ps_set (i := 1) sc_read_pair.nd rfl (Or.inl rfl) (pe_slice sl_str (pv 0) po_none (po_some (pe_un un_neg pe_int))))
      (pss_cons (ps_set (i := 2) sc_read_pair.nd rfl (Or.inl rfl) (pe_callB (call_max2 rfl) (by rfl) T.n_max (by decide +kernel) (pa_cons (pe_m1 PySem.F.slot_str_rfind PySem.F.type_str_rfind mt_rfind (pv 1) pe_str) (pa_cons (pe_m1 PySem.F.slot_str_rfind PySem.F.type_str_rfind mt_rfind (pv 1) pe_str) pa_nil))))
      (Evl.pss_cut (ps_if (pt_cmpR op_lt (pv 2) pe_int (nomark _)) (pss_one (ps_set (i := 3) sc_read_pair.nd rfl (Or.inl rfl) (pe_call (ok_read_numbers T) (hr.mono (by decide)) (by rfl) T.g_read_numbers T.F_read_numbers.kp T.b_read_numbers .nil pass0 (pa_cons (pe_tup (pa_cons pe_str (pa_cons (pv 1) pa_nil))) pa_nil)))) (pss_one (ps_set (i := 3) sc_read_pair.nd rfl (Or.inl rfl) (pe_call (ok_read_numbers T) (hr.mono (by decide)) (by rfl) T.g_read_numbers T.F_read_numbers.kp T.b_read_numbers .nil pass0 (pa_cons (pe_tup (pa_cons (pe_slice sl_str (pv 1) po_none (po_some (pv 2))) (pa_cons (pe_m1 PySem.F.slot_str_removeprefix PySem.F.type_str_removeprefix mt_removeprefix (pe_slice sl_str (pv 1) (po_some (pv 2)) po_none) pe_str) pa_nil))) pa_nil)))))
      (pss_one (ps_ret (pe_ifExp (PW.pt (pw_and (pt_cmpR op_notN (pv 3) pe_non (nomark _)) (pw_and1 (pt_cmpR op_eq (pe_call (ok_pair_text T) (hr.mono (by decide)) (by rfl) T.g_pair_text T.F_pair_text.kp T.b_pair_text .nil pass0 (pa_cons (pv 3) pa_nil)) (pv 0) (nomark _))))) (pv 3) pe_non))))))), ?_⟩
    have hs : (mkS l).length ≤ sizeLine := by rw [mkS_len, sz_eq]; omega
    have zr : readN [48] = some 0 := by decide +kernel
    refine ⟨_, rfl, ⟨_, rfl⟩, mkS l, _, rfl, rfl, _, rfl, ?_⟩
    rw [r_S, ends_is]
    unfold readP at q1 q2
    cases hr' : (l.getLast? == some 114) with
    | false =>
      have ne : ¬ l.getLast? = some 114 := by simpa using hr'
      rw [if_neg ne] at q1 q2
      refine iteT ⟨_, rfl, small1000 (show 1 ≤ 1000 by decide), fun t nt => ?_⟩
      have s1 := same_new (o := .tup [.str (mkS l), .str (Str.ofString "0")]) nt
      refine ⟨t, mkS l, Str.ofString "0", rfl, SqT.of upd_same, by rw [mkS_len]; omega, by decide +kernel, fun H' e hn => q1 _ (s1.trans e) ?_, fun m n p H' hm hn e hp => q2 m n p _ ?_ (s1.trans e) hp⟩
      · rw [zero_S, mk_letters, mk_letters, zr] at hn
        rcases hn with hn | hn
        · rw [hn]
          rfl
        · cases hn
      · rw [mk_letters] at hm
        rw [zero_S, mk_letters, zr] at hn
        cases hn
        rw [hm]
        rfl
    | true =>
      have ye : l.getLast? = some 114 := by simpa using hr'
      rw [if_pos ye] at q1 q2
      obtain ⟨b, rfl⟩ := List.getLast?_eq_some_iff.mp ye
      rw [List.dropLast_concat] at q1 q2
      rw [List.length_append] at hl
      have hb : (mkS b).length ≤ sizeLine := by rw [mkS_len, sz_eq]; omega
      have e0 : cutS (mkS (b ++ [114])) none (some (-1)) = mkS b := by rw [cut_init, List.dropLast_concat]
      refine iteF ⟨_, rfl, 1, rfl, -1, rfl, _, rfl, hs, ?_⟩
      rw [e0]
      refine ⟨_, rfl, ⟨_, rfl⟩, mkS b, _, rfl, rfl, _, rfl, ⟨_, rfl⟩, mkS b, _, rfl, rfl, _, _, rfl, ?_⟩
      have fp := rfind_is b 43
      have fm := rfind_is b 45
      rw [← plus_S] at fp
      rw [← minus_S] at fm
      have mx := max_at fp fm
      generalize Txt.rfind (mkS b) (Str.ofString "+") = ip at *
      generalize Txt.rfind (mkS b) (Str.ofString "-") = im at *
      generalize (if im > ip then im else ip) = x at *
      -- what was read
      obtain ⟨k, hk, ia⟩ : ∃ k : Nat, ((x < 1 ∧ k = 0) ∨ (1 ≤ k ∧ x = k)) ∧ IsAt b k := by
        rcases mx with ⟨h1, h2⟩ | ⟨k, h1, h2, h3⟩
        · exact ⟨0, .inl ⟨h1, rfl⟩, h2⟩
        · exact ⟨k, .inr ⟨h1, h2⟩, h3⟩
      rw [at_one (sgAt_is b) ia, ← prog_res ia] at q1 q2
      unfold progP at q1 q2
      refine ⟨fun σ G => Same H G ∧ ∃ v, σ = [some (.str (mkS (b ++ [114]))), some (.str (mkS b)), some (.int x), some v] ∧
        ((v = .non ∧ ((if k = 0 then readN [48] else readN (b.take k)) = none ∨ readN (if k = 0 then b else if (b.drop k).head? = some 43 then (b.drop k).drop 1 else b.drop k) = none)) ∨
         ∃ m n p, v = .ref p ∧ (if k = 0 then readN [48] else readN (b.take k)) = some m ∧ readN (if k = 0 then b else if (b.drop k).head? = some 43 then (b.drop k).drop 1 else b.drop k) = some n ∧ G p = some (.tup [.int m, .int n])), ?_, ?_⟩
      · refine ⟨_, rfl, x, 1, rfl, rfl, _, rfl, ?_⟩
        rcases hk with ⟨x1, rfl⟩ | ⟨k1, rfl⟩
        · rw [decide_eq_true x1]
          refine iteT ⟨_, rfl, small1000 (show 1 ≤ 1000 by decide), fun t nt => ?_⟩
          have s1 := same_new (o := .tup [.str (Str.ofString "0"), .str (mkS b)]) nt
          refine ⟨t, Str.ofString "0", mkS b, rfl, SqT.of upd_same, by decide +kernel, by rw [mkS_len]; omega, fun H' e hn => ⟨s1.trans e, _, rfl, .inl ⟨rfl, ?_⟩⟩, fun m n p H' hm hn e hp => ⟨s1.trans e, _, rfl, .inr ⟨m, n, p, rfl, ?_, ?_, hp⟩⟩⟩
          · rw [zero_S] at hn
            exact hn
          · rw [zero_S] at hm
            exact hm
          · exact hn
        · have k0 : k ≠ 0 := by omega
          rw [decide_eq_false (show ¬ ((k : Int) < 1) by omega)]
          refine iteF ⟨_, rfl, _, rfl, _, rfl, mkS b, rfl, hb, _, rfl, _, rfl, _, rfl, mkS b, rfl, hb, ⟨_, rfl⟩, _, _, rfl, rfl, ?_, ?_⟩
          · rw [cut_back, mkS_len, List.length_drop, sz_eq]
            omega
          rw [cut_front, cut_back, plus_S, prefix_is]
          refine ⟨small1000 (show 1 ≤ 1000 by decide), fun t nt => ?_⟩
          have s1 := same_new (o := .tup [.str (mkS (b.take k)), .str (mkS (if (b.drop k).head? = some 43 then (b.drop k).drop 1 else b.drop k))]) nt
          rw [if_neg k0, if_neg k0]
          have ld : (if (b.drop k).head? = some 43 then (b.drop k).drop 1 else b.drop k).length ≤ 6000 := by
            split
            · rw [List.length_drop, List.length_drop]
              omega
            · rw [List.length_drop]
              omega
          refine ⟨t, mkS (b.take k), mkS _, rfl, SqT.of upd_same, by rw [mkS_len, List.length_take]; omega, by rw [mkS_len]; exact ld, fun H' e hn => ⟨s1.trans e, _, rfl, .inl ⟨rfl, hn⟩⟩, fun m n p H' hm hn e hp => ⟨s1.trans e, _, rfl, .inr ⟨m, n, p, rfl, hm, hn, hp⟩⟩⟩
      · rintro σ G ⟨sG, v, rfl, ⟨rfl, no⟩ | ⟨m, n, p, rfl, hm, hn, hp⟩⟩
        · refine ⟨_, rfl, rfl, _, rfl, iteF (q1 _ sG ?_)⟩
          rcases no with z | z
          · rw [z]
          · rw [z]
            split <;> first | rfl | (rename_i h; cases h)
        · rw [hm, hn] at q1 q2
          dsimp only at q1 q2
          have bm : m.natAbs < 10 ^ 64 := by
            by_cases k0 : k = 0
            · rw [if_pos k0, zr] at hm
              cases hm
              decide
            · rw [if_neg k0] at hm
              have := (readN_text hm).2
              omega
          have bn : n.natAbs < 10 ^ 64 := by
            have := (readN_text hn).2
            omega
          refine ⟨_, rfl, rfl, _, rfl, iteT ⟨_, rfl, p, m, n, rfl, SqT.of hp, bm, bn, fun H2 e2 => ⟨_, rfl, rfl, _, rfl, ?_⟩⟩⟩
          rw [dS]
          by_cases e : pairT m n = mkS (b ++ [114])
          · rw [decide_eq_true e]
            exact iteT ⟨_, rfl, q2 m n p _ (by rw [if_pos e]) (sG.trans e2) (e2 _ _ hp)⟩
          · rw [decide_eq_false e]
            exact iteF (q1 _ (sG.trans e2) (by rw [if_neg e]))
end
/-! ### pairs as the law reads them -/
def sgTo (b : List Nat) : Nat → List Int
  | 0 => []
  | n + 1 => if signB (b.getD (1 + n) 0) = true then sgTo b n ++ [1 + (n : Int)] else sgTo b n
theorem sgTo_len (b : List Nat) : ∀ n, (sgTo b n).length ≤ n
  | 0 => Nat.le_refl _
  | n + 1 => by
    have := sgTo_len b n
    unfold sgTo
    split
    · rw [List.length_append, List.length_singleton]
      omega
    · omega
theorem sgTo_is (b : List Nat) : ∀ n, sgTo b n = ((List.range' 1 n).filter fun k => signB (b.getD k 0)).map fun k : Nat => (k : Int)
  | 0 => rfl
  | n + 1 => by
    unfold sgTo
    rw [sgTo_is b n, List.range'_concat, List.filter_append, Nat.one_mul]
    cases h : signB (b.getD (1 + n) 0) with
    | true =>
      rw [if_pos rfl, List.map_append, List.filter_cons, if_pos h]
      simp
    | false =>
      rw [if_neg (by decide), List.filter_cons, if_neg (by rw [h]; decide)]
      simp
theorem sign_in (c : Nat) : inV (.str ⟨#[c]⟩) [.str "+", .str "-"] = signB c := by
  have e : ∀ d : Nat, eqV (.str (mkS [d])) (.str ⟨#[c]⟩) = (d == c) := by
    intro d
    show decide (mkS [d] = mkS [c]) = _
    by_cases h : d = c
    · rw [h, decide_eq_true rfl, beq_self_eq_true]
    · rw [decide_eq_false (fun z => h (by have := mk_inj.mp z; simpa using this)), beq_eq_false_iff_ne.mpr h]
  unfold inV signB
  have ep : (("+" : Str)) = mkS [43] := plus_S
  have em : (("-" : Str)) = mkS [45] := minus_S
  rw [ep, em]
  simp only [List.any_cons, List.any_nil, e, Bool.or_false]
  rw [Bool.eq_iff_iff]
  simp only [Bool.or_eq_true, beq_iff_eq]
  constructor <;> rintro (h | h) <;> omega
theorem dints {K : PySem.W.Frag} {H : Hp} {l : Addr} {ns : List Int} (h : H l = some (.lst (ns.map V.int))) : Dp K H (.ref l) (.list (ns.map .int)) := by
  refine .lst (SqL.of h) ?_
  clear h
  induction ns with
  | nil => exact .nil
  | cons n ns ih => exact .cons (.int _) ih
theorem ints_shaped (ns : List Int) : SeqAt.shaped (.list (ns.map .int)) = true := by
  have h : ∀ ns : List Int, PyData.canLayAll0 (ns.map .int) = true ∧ PyData.depthAll (ns.map .int) ≤ 3 := by
    intro ns
    induction ns with
    | nil => exact ⟨by simp [PyData.canLayAll0], by simp [PyData.depthAll]⟩
    | cons e es ih => exact ⟨by simp [PyData.canLayAll0, PyData.canLay0, ih.1], by simp [PyData.depthAll, PyData.depth, ih.2]⟩
  obtain ⟨h1, h2⟩ := h ns
  unfold SeqAt.shaped
  rw [Bool.and_eq_true]
  refine ⟨by simp [PyData.canLay0, h1], decide_eq_true ?_⟩
  simp only [PyData.depth]
  omega
theorem ints_nil (ns : List Int) : PyData.eqv (.list (ns.map .int)) (.list (([] : List Int).map .int)) = ns.isEmpty := by
  cases ns with
  | nil => simp [PyData.eqv, PyData.eqvAll]
  | cons e es => simp [PyData.eqv, PyData.eqvAll]
section
variable {base : Heap} {K : PySem.W.Frag} {mg : Str → Option Value} {P : Program} {w : World}
theorem ok_pair_read (T : Txt K mg) : FnOk P w K mg base CX0 2 T.f_pair_read T.d_pair_read ["_law_text_z"] spReadP := by
  refine T.F_pair_read.ok sc_pair_read (fun vs H Q E h => ?_) (fun cdv A outer s H vs Q E hr h => ?_)
  · obtain ⟨l, rfl, _⟩ := h
    rfl
  · obtain ⟨l, rfl, hl, q1, q2⟩ := h
    refine ⟨_, (pss_cons (ps_if (pt_cmpR op_ne (pe_slice sl_str (pv 0) (po_some (pe_un un_neg pe_int)) po_none) pe_str (nomark _)) (pss_cons (ps_set (i := 5) sc_pair_read.nd rfl (Or.inl rfl) (pe_call (ok_number_read T) (hr.mono (by decide)) (by rfl) T.g_number_read T.F_number_read.kp T.b_number_read .nil pass0 (pa_cons (pv 0) pa_nil)))
      (pss_one (ps_ret (pe_ifExp (pt_cmpR op_isN (pv 5) pe_non (nomark _)) pe_non (pe_tup (pa_cons (pv 5) (pa_cons pe_int pa_nil))))))) pss_nil)
      (pss_cons (ps_setLc (i := 1) (own := [("_law_k", 8)]) (g := (gName 8)) (tt := tTest (tOp (rIn K false) (tOp rIxS (tVar 0) (tVar 8)) (tTup (tCons (tC (.str "+")) (tCons (tC (.str "-")) tNil))))) (by rfl) sc_pair_read.nd rfl rfl (sw_true rfl rfl rfl (by decide +kernel)) (pi_range2 (by rfl) T.n_range (pa_cons pe_int (pa_cons (pe_op op_sub (pe_callB call_len_str (by rfl) T.n_len (by decide +kernel) (pa_cons (pv 0) pa_nil)) pe_int) pa_nil))) (blkOk_by (own := [("_law_k", 8)]) (N := ["_law_text_z", "_law_signs", "_law_at", "_law_first", "_law_second", "_law_number", "_law_one", "_law_other", "_law_k"]) (sc := defScope s_pair_read) (by decide +kernel)) (fun _ _ _ _ _ => (pg_name (i := 8) sc_pair_read.nd rfl (Or.inl rfl))) (fun _ _ _ _ _ => (pts_one (pt_cmpR op_in_seq (pe_ix ix_str (pv 0) (pv 8) (fun _ _ => rfl)) (pe_tup (pa_cons pe_str (pa_cons pe_str pa_nil))) (by rfl)))) (fun _ _ _ _ _ => (pv 8)))
      (Evl.pss_cut (ps_set (i := 2) sc_pair_read.nd rfl (Or.inl rfl) (pe_ifExp (pt_cmpR (op_neD hr.units) (pv 1) (pe_lst pa_nil) (nomark _)) (pe_ix ix_list (pv 1) (pe_un un_neg pe_int) (fun _ _ => rfl)) pe_int))
      (pss_cons (ps_par (i := 6) (j := 7) (by rfl) sc_pair_read.nd rfl rfl (by decide) rfl rfl (pa_cons (pe_slice sl_str (pv 0) po_none (po_some (pv 2))) (pa_cons (pe_slice sl_str (pv 0) (po_some (pv 2)) (po_some (pe_un un_neg pe_int))) pa_nil)) (by rfl))
      (Evl.pss_cut (ps_set (i := 3) sc_pair_read.nd rfl (Or.inl rfl) (pe_ifExp (pt_cmpR op_eq (pv 2) pe_int (nomark _)) pe_int (pe_call (ok_number_read T) (hr.mono (by decide)) (by rfl) T.g_number_read T.F_number_read.kp T.b_number_read .nil pass0 (pa_cons (pv 6) pa_nil))))
      (Evl.pss_cut (ps_set (i := 4) sc_pair_read.nd rfl (Or.inl rfl) (pe_call (ok_number_read T) (hr.mono (by decide)) (by rfl) T.g_number_read T.F_number_read.kp T.b_number_read .nil pass0 (pa_cons (pe_ifExp (PW.pt (pw_and (pt_cmpR op_eq (pe_slice sl_str (pv 7) po_none (po_some pe_int)) pe_str (nomark _)) (pw_and1 (pt_cmpR op_gt (pv 2) pe_int (nomark _))))) (pe_slice sl_str (pv 7) (po_some pe_int) po_none) (pv 7)) pa_nil)))
      (pss_cons (ps_if (PW.pt (pw_or (pt_cmpR op_isN (pv 3) pe_non (nomark _)) (pw_or (pt_cmpR op_isN (pv 4) pe_non (nomark _)) (pw_or (pt_cmpR op_eq (pv 4) pe_int (nomark _)) (pw_or1 (PW.pt (pw_and (pt_cmpR op_gt (pv 2) pe_int (nomark _)) (pw_and1 (pt_cmpR op_eq (pv 3) pe_int (nomark _)))))))))) (pss_one (ps_ret pe_non)) pss_nil)
      (pss_one (ps_ret (pe_ifExp (PW.pt (pw_and (pt_cmpR op_gt (pv 2) pe_int (nomark _)) (pw_and (pt_cmpR op_eq (pe_slice sl_str (pv 7) po_none (po_some pe_int)) pe_str (nomark _)) (pw_and1 (pt_cmpR op_lt (pv 4) pe_int (nomark _)))))) pe_non (pe_tup (pa_cons (pv 3) (pa_cons (pv 4) pa_nil))))))))))))), ?_⟩
    have hs : (mkS l).length ≤ sizeLine := by rw [mkS_len, sz_eq]; omega
    refine ⟨_, rfl, 1, rfl, -1, rfl, _, rfl, hs, rfl, _, rfl, ?_⟩
    have li := last_is l 114
    rw [dS, r_S, li]
    unfold readP at q1 q2
    cases hr' : (l.getLast? == some 114) with
    | false =>
      have ne : ¬ l.getLast? = some 114 := by simpa using hr'
      rw [if_neg ne] at q1 q2
      refine iteT ⟨_, rfl, mkS l, rfl, by rw [mkS_len]; omega, fun H1 s1 => ⟨_, rfl, rfl, _, rfl, ?_⟩⟩
      rw [mk_letters]
      cases hn : readN l with
      | none =>
        rw [hn] at q1
        exact iteT (q1 _ s1 rfl)
      | some n =>
        rw [hn] at q2
        exact iteF ⟨_, rfl, small1000 (show 1 ≤ 1000 by decide), fun t nt => q2 n 0 t _ rfl (s1.trans (same_new nt)) upd_same⟩
    | true =>
      have ye : l.getLast? = some 114 := by simpa using hr'
      rw [if_pos ye] at q1 q2
      obtain ⟨b, rfl⟩ := List.getLast?_eq_some_iff.mp ye
      rw [List.dropLast_concat] at q1 q2
      rw [List.length_append] at hl
      have el : (mkS (b ++ [114])).length = b.length + 1 := by rw [mkS_len, List.length_append]; rfl
      have hl' : b.length ≤ 5899 := by
        have : [114].length = 1 := rfl
        omega
      refine iteF ⟨_, rfl, mkS _, rfl, hs, _, 1, rfl, rfl, 1, ((mkS (b ++ [114])).length : Int) - 1, rfl, ⟨by decide, by decide, by rw [el]; omega, by rw [el]; omega⟩, fun L nL => ?_⟩
      have en : (((mkS (b ++ [114])).length : Int) - 1 - 1).toNat = b.length - 1 := by rw [el]; omega
      rw [en]
      refine lc_range (lo := 1) (n := b.length - 1) (fun i G => Same H G ∧ G L = some (.lst ((sgTo b i).map V.int))) ⟨same_new nL, upd_same⟩ ?_ ?_
      · rintro i G hi ⟨sG, hG⟩
        have hb : i + 1 < b.length := by omega
        have hc : (b ++ [114])[i + 1]? = some b[i + 1] := by rw [List.getElem?_append_left hb, List.getElem?_eq_getElem hb]
        have gd : b.getD (1 + i) 0 = b[i + 1] := by rw [List.getD_eq_getElem?_getD, Nat.add_comm 1 i, List.getElem?_eq_getElem hb]; rfl
        refine ⟨rfl, _, rfl, _, rfl, mkS (b ++ [114]), ((i + 1 : Nat) : Int), b[i + 1], rfl, ?_, hs, atI_nat (j := i + 1) hc, small1000 (show 1 ≤ 1000 by decide), fun t nt => ⟨t, _, rfl, .inr (SqT.of upd_same), rfl, rfl, _, rfl, ?_⟩⟩
        · congr 1
          omega
        have hG2 := (same_new (o := .tup [.str "+", .str "-"]) nt) _ _ hG
        have st : sgTo b (i + 1) = if signB (b.getD (1 + i) 0) = true then sgTo b i ++ [1 + (i : Int)] else sgTo b i := rfl
        rw [gd] at st
        rw [sign_in]
        have ln := sgTo_len b i
        cases z : signB b[i + 1] with
        | true =>
          rw [z, if_pos rfl] at st
          refine iteT ⟨_, rfl, _, hG2, ?_, fun a o zz => (upd_ne (ne_of_none zz nL)).trans ((same_new nt) _ _ (sG _ _ zz)), ?_⟩
          · rw [List.length_map, sz_eq]
            omega
          · rw [upd_same, st, List.map_append]
            rfl
        | false =>
          rw [z, if_neg (by decide)] at st
          exact iteF ⟨sG.trans (same_new nt), by rw [st]; exact hG2⟩
      rintro G ⟨sG, hG⟩
      have hk : IsAt b (sgAt b) := sgAt_is b
      have kb : sgAt b ≤ b.length := by
        rcases hk with ⟨z, _⟩ | ⟨_, z, _⟩ <;> omega
      rw [sgTo_is] at hG
      change G L = some (.lst (((sgs b).map fun k : Nat => (k : Int)).map V.int)) at hG
      refine ⟨fun σ G => Same H G ∧ σ = [some (.str (mkS (b ++ [114]))), some (.ref L), some (.int (sgAt b : Nat)), none, none, none, none, none, none], ?_, ?_⟩
      · refine ⟨_, rfl, Nat.zero_le _, fun p np => ⟨_, _, (dints (ns := (sgs b).map fun k : Nat => (k : Int)) ((same_new (o := .lst []) np) _ _ hG)), dints (ns := []) upd_same, ints_shaped _, ints_shaped [], _, rfl, ?_⟩⟩
        have s1 := sG.trans (same_new (o := .lst []) np)
        rw [ints_nil]
        unfold sgAt
        cases hz : (sgs b).getLast? with
        | none =>
          rw [List.getLast?_eq_none_iff.mp hz]
          exact iteF ⟨s1, rfl⟩
        | some k =>
          obtain ⟨ys, e⟩ := List.getLast?_eq_some_iff.mp hz
          rw [e] at hG ⊢
          have ne : (!((ys ++ [k]).map fun k : Nat => (k : Int)).isEmpty) = true := by simp
          rw [ne]
          refine iteT ⟨_, rfl, 1, rfl, L, _, -1, .int (k : Nat), rfl, rfl, SqL.of ((same_new (o := .lst []) np) _ _ hG), ?_, s1, rfl⟩
          rw [List.map_append, List.map_append]
          exact atI_last _ _
      rintro σ G2 ⟨s2, rfl⟩
      generalize sgAt b = k at *
      have hs7 : cutS (mkS (b ++ [114])) (some (k : Int)) (some (-1)) = mkS (b.drop k) := by rw [cut_mid _ (by rw [List.length_append]; omega), List.dropLast_concat]
      have hs6 : cutS (mkS (b ++ [114])) none (some (k : Int)) = mkS (b.take k) := by rw [cut_front, List.take_append_of_le_length kb]
      refine ⟨_, rfl, _, rfl, (k : Int), rfl, _, rfl, hs, _, rfl, _, rfl, (k : Int), rfl, 1, rfl, -1, rfl, _, rfl, hs, _, _, rfl, ?_⟩
      rw [hs6, hs7]
      have hd : (mkS (b.drop k)).length ≤ sizeLine := by rw [mkS_len, List.length_drop, sz_eq]; omega
      have kz : decide (V.int (k : Int) = V.int 0) = decide (k = 0) := by
        by_cases h : k = 0
        · rw [decide_eq_true h, decide_eq_true (by rw [h]; rfl)]
        · rw [decide_eq_false h, decide_eq_false fun z => h (by have := V.int.inj z; omega)]
      have kp : decide ((0 : Int) < (k : Int)) = !decide (k = 0) := by
        by_cases h : k = 0
        · rw [h, decide_eq_true rfl]
          rfl
        · rw [decide_eq_false h, decide_eq_true (by omega)]
          rfl
      have hp : ∀ {x3 x4 : Option V} {X : Hp} {M : Bool → Hp → Prop}, M ((b.drop k).head? == some 43) X → tTest (tOp rEq (tSl rSlS (tVar 7) tNoPart (tPart (tC (V.int 1)))) (tC (V.str (Str.ofString "+")))) [some (.str (mkS (b ++ [114]))), some (.ref L), some (.int (k : Int)), x3, x4, none, some (.str (mkS (b.take k))), some (.str (mkS (b.drop k))), none] X M := by
        intro x3 x4 X M m
        refine ⟨_, rfl, 1, rfl, _, rfl, hd, rfl, _, rfl, ?_⟩
        have fi : decide (cutS (mkS (b.drop k)) none (some 1) = mkS [43]) = ((mkS (b.drop k)).cps.toList.head? == some 43) := first_is (mkS (b.drop k)) 43
        rw [dS, plus_S, fi, mk_letters]
        exact m
      -- the first number
      refine ⟨fun σ X => Same H X ∧ σ = [some (.str (mkS (b ++ [114]))), some (.ref L), some (.int (k : Int)), some (optV (if k = 0 then some 0 else readN (b.take k))), none, none, some (.str (mkS (b.take k))), some (.str (mkS (b.drop k))), none], ?_, ?_⟩
      · refine ⟨_, rfl, rfl, _, rfl, ?_⟩
        rw [kz]
        by_cases k0 : k = 0
        · rw [decide_eq_true k0, if_pos k0]
          exact iteT ⟨s2, rfl⟩
        · rw [decide_eq_false k0, if_neg k0]
          exact iteF ⟨_, rfl, _, rfl, by rw [mkS_len, List.length_take]; omega, fun X e => ⟨s2.trans e, rfl⟩⟩
      rintro σ X1 ⟨s3, rfl⟩
      -- the second
      refine ⟨fun σ X => Same H X ∧ σ = [some (.str (mkS (b ++ [114]))), some (.ref L), some (.int (k : Int)), some (optV (if k = 0 then some 0 else readN (b.take k))), some (optV (readN (if k = 0 then b else if (b.drop k).head? = some 43 then (b.drop k).drop 1 else b.drop k))), none, some (.str (mkS (b.take k))), some (.str (mkS (b.drop k))), none], ?_, ?_⟩
      · have ld : ∀ y : List Nat, y.length ≤ b.length → (mkS y).length ≤ 6000 := fun y hy => by rw [mkS_len]; omega
        have l1 : (b.drop k).length ≤ b.length := by rw [List.length_drop]; omega
        refine hp ?_
        by_cases k0 : k = 0
        · rw [if_pos k0, if_pos k0]
          have e : b.drop k = b := by rw [k0, List.drop_zero]
          rw [e]
          cases (b.head? == some 43) with
          | true =>
            refine iteT ⟨_, rfl, _, _, rfl, rfl, _, rfl, ?_⟩
            rw [kp, decide_eq_true k0]
            exact iteF ⟨_, rfl, mkS b, rfl, ld b (Nat.le_refl _), fun X3 e3 => ⟨s3.trans e3, rfl⟩⟩
          | false => exact iteF (iteF ⟨_, rfl, mkS b, rfl, ld b (Nat.le_refl _), fun X3 e3 => ⟨s3.trans e3, rfl⟩⟩)
        · rw [if_neg k0, if_neg k0]
          cases z : ((b.drop k).head? == some 43) with
          | true =>
            rw [if_pos (show (b.drop k).head? = some 43 by simpa using z)]
            refine iteT ⟨_, rfl, _, _, rfl, rfl, _, rfl, ?_⟩
            rw [kp, decide_eq_false k0]
            refine iteT ⟨_, rfl, 1, rfl, _, rfl, hd, ?_⟩
            have e1 : cutS (mkS (b.drop k)) (some 1) none = mkS ((b.drop k).drop 1) := cut_back (b.drop k) 1
            rw [e1]
            exact ⟨_, rfl, ld _ (by rw [List.length_drop]; omega), fun X3 e3 => ⟨s3.trans e3, rfl⟩⟩
          | false =>
            rw [if_neg (show ¬ (b.drop k).head? = some 43 by simpa using z)]
            exact iteF (iteF ⟨_, rfl, _, rfl, ld _ l1, fun X3 e3 => ⟨s3.trans e3, rfl⟩⟩)
      rintro σ X2 ⟨s4, rfl⟩
      unfold resP at q1 q2
      have two : ∀ {m n : Int}, V.int m = V.int n → m = n := fun h => V.int.inj h
      by_cases k0 : k = 0
      · rw [if_pos k0] at q1 q2
        rw [if_pos k0, if_pos k0]
        refine ⟨_, rfl, rfl, false, rfl, iteF ?_⟩
        refine ⟨_, rfl, rfl, _, rfl, ?_⟩
        cases hn : readN b with
        | none =>
          rw [hn] at q1
          exact iteT (iteT (q1 _ s4 rfl))
        | some n =>
          rw [hn] at q1 q2
          dsimp only at q1 q2
          refine iteF ⟨_, rfl, rfl, _, rfl, ?_⟩
          by_cases n0 : n = 0
          · rw [if_pos n0] at q1
            rw [show decide (optV (some n) = V.int 0) = true from decide_eq_true (by rw [n0]; rfl)]
            exact iteT (iteT (q1 _ s4 rfl))
          · rw [if_neg n0] at q2
            rw [show decide (optV (some n) = V.int 0) = false from decide_eq_false fun z => n0 (two z)]
            refine iteF ⟨_, rfl, _, _, rfl, rfl, _, rfl, ?_⟩
            rw [kp, decide_eq_true k0]
            refine iteF (iteF ⟨_, rfl, _, _, rfl, rfl, _, rfl, ?_⟩)
            rw [kp, decide_eq_true k0]
            exact iteF (iteF ⟨_, rfl, _, rfl, small1000 (show 1 ≤ 1000 by decide), fun t nt => q2 0 n t _ rfl (s4.trans (same_new nt)) upd_same⟩)
      · rw [if_neg k0] at q1 q2
        rw [if_neg k0, if_neg k0]
        cases hm : readN (b.take k) with
        | none =>
          rw [hm] at q1
          exact ⟨_, rfl, rfl, true, rfl, iteT (iteT (q1 _ s4 rfl))⟩
        | some m =>
          refine ⟨_, rfl, rfl, false, rfl, iteF ?_⟩
          cases hn : readN (if (b.drop k).head? = some 43 then (b.drop k).drop 1 else b.drop k) with
          | none =>
            rw [hm, hn] at q1
            exact ⟨_, rfl, rfl, true, rfl, iteT (iteT (q1 _ s4 rfl))⟩
          | some n =>
            rw [hm, hn] at q1 q2
            dsimp only at q1 q2
            refine ⟨_, rfl, rfl, false, rfl, iteF ⟨_, rfl, rfl, _, rfl, ?_⟩⟩
            by_cases n0 : n = 0
            · rw [if_pos (.inl n0)] at q1
              rw [show decide (optV (some n) = V.int 0) = true from decide_eq_true (by rw [n0]; rfl)]
              exact iteT (iteT (q1 _ s4 rfl))
            rw [show decide (optV (some n) = V.int 0) = false from decide_eq_false fun z => n0 (two z)]
            refine iteF ⟨_, rfl, _, _, rfl, rfl, _, rfl, ?_⟩
            rw [kp, decide_eq_false k0]
            refine iteT ⟨_, rfl, rfl, _, rfl, ?_⟩
            by_cases m0 : m = 0
            · rw [if_pos (.inr (.inl m0))] at q1
              rw [show decide (optV (some m) = V.int 0) = true from decide_eq_true (by rw [m0]; rfl)]
              exact iteT (q1 _ s4 rfl)
            rw [show decide (optV (some m) = V.int 0) = false from decide_eq_false fun z => m0 (two z)]
            refine iteF ⟨_, rfl, _, _, rfl, rfl, _, rfl, ?_⟩
            rw [kp, decide_eq_false k0]
            refine iteT (hp ?_)
            have last : ∀ (c : Prop) [Decidable c], c = (n = 0 ∨ m = 0 ∨ ((b.drop k).head? = some 43 ∧ n < 0)) → ¬ c → tTup (tCons (tVar 3) (tCons (tVar 4) tNil)) [some (.str (mkS (b ++ [114]))), some (.ref L), some (.int (k : Int)), some (optV (some m)), some (optV (some n)), none, some (.str (mkS (b.take k))), some (.str (mkS (b.drop k))), none] X2 Q := by
              intro c _ ec nc
              rw [if_neg (by rw [← ec]; exact nc)] at q2
              exact ⟨_, rfl, _, rfl, small1000 (show 1 ≤ 1000 by decide), fun t nt => q2 m n t _ rfl (s4.trans (same_new nt)) upd_same⟩
            cases z : ((b.drop k).head? == some 43) with
            | true =>
              have zz : (b.drop k).head? = some 43 := by simpa using z
              refine iteT ⟨_, rfl, _, _, rfl, rfl, _, rfl, ?_⟩
              by_cases neg : n < 0
              · rw [if_pos (.inr (.inr ⟨zz, neg⟩))] at q1
                rw [show decide (n < 0) = true from decide_eq_true neg]
                exact iteT (q1 _ s4 rfl)
              · rw [show decide (n < 0) = false from decide_eq_false neg]
                refine iteF (last _ rfl ?_)
                rintro (h | h | h)
                · exact n0 h
                · exact m0 h
                · exact neg h.2
            | false =>
              refine iteF (iteF (last _ rfl ?_))
              have zz : ¬ (b.drop k).head? = some 43 := by simpa using z
              rintro (h | h | h)
              · exact n0 h
              · exact m0 h
              · exact zz h.1
end
/-! ### sheets in order; things among the things of a tuple; a dict of sheets as a target -/
section
variable {X : Cx}
def rLeSh : R2 := fun x y H Q => ∃ p q a b, x = .ref p ∧ y = .ref q ∧ ShAt H p a ∧ ShAt H q b ∧ Q (.bl (leS a b)) H
theorem ShAt.dpS {K : PySem.W.Frag} {H : Hp} {p : Addr} {x : Sh} (h : ShAt H p x) : Dp K H (.ref p) (encS x) := by
  obtain ⟨u, v, h1, h2, h3⟩ := h
  exact .tup (SqT.of h1) (.cons (.tup (SqT.of h2) (.cons (.int _) (.cons (.int _) .nil))) (.cons (.tup (SqT.of h3) (.cons (.int _) (.cons (.int _) .nil))) .nil))
theorem encS_deep (x : Sh) : (encS x).depth ≤ 3 := by simp [encS, PyData.depth, PyData.depthAll]
theorem op_leSh (hu : X.A.units + 64 < cLine) : OpR X (compareOp .LtE) rLeSh := by
  intro pins s σ H x y v u Q I rx ry h
  obtain ⟨p, q, a, b, rfl, rfl, ha, hb, k⟩ := h
  obtain ⟨as, r1⟩ := Dp.reads I _ _ _ (ha.dpS (K := X.K)) rx
  obtain ⟨bs, r2⟩ := Dp.reads I _ _ _ (hb.dpS (K := X.K)) ry
  have room : X.A.units + min (encS a).depth (encS b).depth < cLine := by
    have := encS_deep a
    omega
  refine PySem.W.le_data r1 r2 (by simp [encS, PySem.W.alike, PySem.W.alikeAll]) (by intro z; unfold encS at z; cases z) room ⟨.bl _, H, I, rfl, ?_⟩
  rw [lt_encS]
  exact k
def rInTup (K : PySem.W.Frag) : R2 := fun x y H Q => ∃ d ds, Dp K H x d ∧ Dp K H y (.tuple ds) ∧ d.plain = true ∧ PyData.plainAll ds = true ∧ d.depth ≤ 3 ∧ Q (.bl (ds.any fun z => PyData.eqv z d)) H
theorem op_inTup (hu : X.A.units + 64 < cLine) : OpR X (compareOp .In) (rInTup X.K) := by
  intro pins s σ H x y v u Q I rx ry h
  obtain ⟨d, ds, hx, hy, p1, p2, hd, k⟩ := h
  obtain ⟨as, r1⟩ := Dp.reads I _ _ _ hx rx
  obtain ⟨bs, r2⟩ := Dp.reads I _ _ _ hy ry
  exact SeqAt.in_tuple_data r2 r1 p2 p1 (by omega) ⟨.bl _, H, I, rfl, k⟩
/-- == and != of plain data -/
def rEqP (K : PySem.W.Frag) : R2 := fun x y H Q => ∃ d e, Dp K H x d ∧ Dp K H y e ∧ d.plain = true ∧ e.plain = true ∧ min d.depth e.depth ≤ 8 ∧ Q (.bl (PyData.eqv d e)) H
def rNeP (K : PySem.W.Frag) : R2 := fun x y H Q => ∃ d e, Dp K H x d ∧ Dp K H y e ∧ d.plain = true ∧ e.plain = true ∧ min d.depth e.depth ≤ 8 ∧ Q (.bl (!PyData.eqv d e)) H
theorem op_eqP (hu : X.A.units + 64 < cLine) : OpR X (compareOp .Eq) (rEqP X.K) := by
  intro pins s σ H x y v u Q I rx ry h
  obtain ⟨d, e, hx, hy, p1, p2, hd, k⟩ := h
  obtain ⟨as, r1⟩ := Dp.reads I _ _ _ hx rx
  obtain ⟨bs, r2⟩ := Dp.reads I _ _ _ hy ry
  exact SeqAt.eq_plain r1 r2 p1 p2 (by omega) ⟨.bl _, H, I, rfl, k⟩
theorem op_neP (hu : X.A.units + 64 < cLine) : OpR X (compareOp .NotEq) (rNeP X.K) := by
  intro pins s σ H x y v u Q I rx ry h
  obtain ⟨d, e, hx, hy, p1, p2, hd, k⟩ := h
  obtain ⟨as, r1⟩ := Dp.reads I _ _ _ hx rx
  obtain ⟨bs, r2⟩ := Dp.reads I _ _ _ hy ry
  exact SeqAt.ne_plain r1 r2 p1 p2 (by omega) ⟨.bl _, H, I, rfl, k⟩
def tSetDS (P : Program) (w : World) : TSet := fun o i v H Q => ∃ d p es x n, o = .ref d ∧ i = .ref p ∧ v = .int n ∧ DAt P w H d es ∧ ShAt H p x ∧ es.length < sizeLine ∧ Q (upd H d (DS P w d (putD es x p n)))
theorem set_DS (hu : X.A.units + 64 < cLine) : PSet X (tSetDS X.prog X.w) := by
  intro pins s σ H o i v ov iv u Q I ro ri rv h
  obtain ⟨d, p, es, x, n, rfl, rfl, rfl, D, hp, hl, q⟩ := h
  cases ro
  cases ri
  exact ds_setItem (by omega) I D hp rv hl fun s' I' => ⟨_, I', q⟩
end
/-! ### sheets that are read -/
def DueT (H : Hp) (v : V) : Option (Int × Int) → Prop
  | none => v = .non
  | some (m, n) => ∃ t, v = .ref t ∧ H t = some (.tup [.int m, .int n])
theorem DueT.same {H H' : Hp} {v : V} {o : Option (Int × Int)} (h : DueT H v o) (s : Same H H') : DueT H' v o := by
  match o, h with
  | none, h => exact h
  | some (m, n), ⟨t, e, h⟩ => exact ⟨t, e, s _ _ h⟩
def dueD : Option (Int × Int) → PyData
  | none => .none
  | some (m, n) => .tuple [.int m, .int n]
theorem DueT.dp {K : PySem.W.Frag} {H : Hp} {v : V} {o : Option (Int × Int)} (h : DueT H v o) : Dp K H v (dueD o) := by
  match o, h with
  | none, h =>
    rw [show v = V.non from h]
    exact .non
  | some (m, n), ⟨t, e, h⟩ =>
    rw [e]
    exact .tup (SqT.of h) (.cons (.int _) (.cons (.int _) .nil))
theorem DueT.put {G : Hp} {D : Addr} {xs acc : List V} {v : V} {o : Option (Int × Int)} (h : DueT G v o) (hD : G D = some (.lst xs)) : DueT (upd G D (.lst acc)) v o := by
  match o, h with
  | none, h => exact h
  | some (m, n), ⟨t, e, h⟩ => exact ⟨t, e, (upd_ne (ne_of h hD (by intro z; cases z))).trans h⟩
theorem read_due {H : Hp} {z : Str} {Q : VK} {E : XK} (hz : z.length ≤ 5900) (q : ∀ v H', Same H H' → DueT H' v (rp z) → Q v H') : spReadP [.str z] H Q E := by
  refine ⟨z.cps.toList, by rw [mk_self], by rw [← TL.len_tl]; exact hz, fun H' e hn => q _ _ e ?_, fun m n p H' hm e hp => q _ _ e ?_⟩
  · show DueT H' .non (readP z.cps.toList)
    rw [hn]
    rfl
  · show DueT H' (.ref p) (readP z.cps.toList)
    rw [hm]
    exact ⟨p, rfl, hp⟩
def DueAll (H : Hp) (vs : List V) (zs : List Str) : Prop := Paired (fun v z => DueT H v (rp z)) vs zs
theorem DueAll.dp {K : PySem.W.Frag} {H : Hp} : ∀ {vs : List V} {zs : List Str}, DueAll H vs zs → DpAll K H vs (zs.map fun z => dueD (rp z))
  | _, _, .nil => .nil
  | _, _, .cons h t => .cons h.dp (DueAll.dp t)
theorem DueAll.next {H0 G Ha : Hp} {D : Addr} {i : Nat} {vs : List V} {dv : V} {z : Str} {zs : List Str} (sG : Same H0 G) (hG : G D = some (.lst vs)) (pG : DueAll G vs (zs.take i)) (nD : H0 D = none) (hz : zs[i]? = some z) (sa : Same G Ha) (hd : DueT Ha dv (rp z)) :
    Same H0 (upd Ha D (.lst (vs ++ [dv]))) ∧ DueAll (upd Ha D (.lst (vs ++ [dv]))) (vs ++ [dv]) (zs.take (i + 1)) := by
  refine ⟨fun a o e => (upd_ne (ne_of_none e nD)).trans (sa _ _ (sG _ _ e)), ?_⟩
  unfold DueAll at pG ⊢
  rw [List.take_add_one, hz]
  have p2 : Paired (fun v z => DueT (upd Ha D (.lst (vs ++ [dv]))) v (rp z)) vs (zs.take i) := Paired.mono (fun v z (h : DueT G v (rp z)) => (h.same sa).put (sa _ _ hG)) pG
  exact Paired.snoc (F := fun v z => DueT (upd Ha D (.lst (vs ++ [dv]))) v (rp z)) (hd.put (sa _ _ hG)) p2
theorem due_eq (o : Option (Int × Int)) : PyData.eqv (dueD o) .none = o.isNone := by
  match o with
  | none => simp [dueD, PyData.eqv]
  | some (m, n) => simp [dueD, PyData.eqv]
theorem none_any (zs : List Str) : ((zs.map fun z => dueD (rp z)).any fun y => PyData.eqv y .none) = (zs.any fun z => (rp z).isNone) := by
  rw [List.any_map]
  congr 1
  funext z
  exact due_eq _
theorem due_plain : ∀ zs : List Str, PyData.plainAll (zs.map fun z => dueD (rp z)) = true
  | [] => rfl
  | z :: zs => by
    have ih := due_plain zs
    have h : (dueD (rp z)).plain = true := by
      match rp z with
      | none => simp [dueD, PyData.plain]
      | some (m, n) => simp [dueD, PyData.plain, PyData.plainAll]
    simp [PyData.plainAll, h, ih]
theorem due_one (o : Option (Int × Int)) : (dueD o).canLay0 = true ∧ (dueD o).depth ≤ 1 := by
  match o with
  | none => exact ⟨by simp [dueD, PyData.canLay0], by simp [dueD, PyData.depth]⟩
  | some (m, n) => exact ⟨by simp [dueD, PyData.canLay0, PyData.canLayAll0], by simp [dueD, PyData.depth, PyData.depthAll]⟩
theorem due_shaped (zs : List Str) : SeqAt.shaped (.list (zs.map fun z => dueD (rp z))) = true := by
  have h : ∀ zs : List Str, PyData.canLayAll0 (zs.map fun z => dueD (rp z)) = true ∧ PyData.depthAll (zs.map fun z => dueD (rp z)) ≤ 3 := by
    intro zs
    induction zs with
    | nil => exact ⟨by simp [PyData.canLayAll0], by simp [PyData.depthAll]⟩
    | cons z zs ih =>
      obtain ⟨g1, g2⟩ := due_one (rp z)
      obtain ⟨i1, i2⟩ := ih
      rw [List.map_cons]
      generalize dueD (rp z) = d at g1 g2
      generalize zs.map (fun z => dueD (rp z)) = ds at i1 i2
      exact ⟨by simp [PyData.canLayAll0, g1, i1], by simp only [PyData.depthAll]; omega⟩
  obtain ⟨h1, h2⟩ := h zs
  unfold SeqAt.shaped
  rw [Bool.and_eq_true]
  refine ⟨by simp [PyData.canLay0, h1], decide_eq_true ?_⟩
  simp only [PyData.depth]
  omega
/-- the parts of a text, and the sheet that they write -/
theorem readSh_two {z a b : Str} (h : Txt.split z (Str.ofString " x ") = [a, b]) : readSh z = two [rp a, rp b] := by
  unfold readSh
  rw [h]
  rfl
theorem readSh_not {z : Str} (h : (Txt.split z (Str.ofString " x ")).length ≠ 2) : readSh z = none := by
  cases e : readSh z with
  | none => rfl
  | some x =>
    have := congrArg List.length (two_some e)
    rw [List.length_map] at this
    exact absurd this h
theorem readSh_none {z : Str} (h : (Txt.split z (Str.ofString " x ")).any (fun y => (rp y).isNone) = true) : readSh z = none := by
  cases e : readSh z with
  | none => rfl
  | some x =>
    have e := two_some e
    obtain ⟨y, hy, hn⟩ := List.any_eq_true.mp h
    have : rp y ∈ (Txt.split z (Str.ofString " x ")).map rp := List.mem_map.mpr ⟨y, hy, rfl⟩
    rw [e] at this
    rcases List.mem_cons.mp this with q | q
    · rw [q] at hn
      cases hn
    · rw [List.mem_singleton.mp q] at hn
      cases hn
/-- two parts that both write pairs -/
theorem due_two {H : Hp} {vs : List V} {z : Str} (h : DueAll H vs (Txt.split z (Str.ofString " x "))) (l : (Txt.split z (Str.ofString " x ")).length = 2) (n : (Txt.split z (Str.ofString " x ")).any (fun y => (rp y).isNone) = false) :
    ∃ (u v : Addr) (x : Sh), vs = [.ref u, .ref v] ∧ readSh z = some x ∧ H u = some (.tup [.int x.1, .int x.2.1]) ∧ H v = some (.tup [.int x.2.2.1, .int x.2.2.2]) := by
  match hs : Txt.split z (Str.ofString " x "), l with
  | [a, b], _ =>
    rw [hs] at h n
    match vs, h with
    | [v1, v2], .cons h1 (.cons h2 .nil) =>
      simp only [List.any_cons, List.any_nil, Bool.or_false, Bool.or_eq_false_iff] at n
      rw [readSh_two hs]
      match ha : rp a, hb : rp b with
      | none, _ =>
        rw [ha] at n
        exact absurd n.1 (by decide)
      | some p, none =>
        rw [hb] at n
        exact absurd n.2 (by decide)
      | some (m, n'), some (m2, n2) =>
        rw [ha] at h1
        rw [hb] at h2
        obtain ⟨u, e1, g1⟩ := h1
        obtain ⟨v, e2, g2⟩ := h2
        exact ⟨u, v, (m, n', m2, n2), by rw [e1, e2], rfl, g1, g2⟩
theorem part_len {z y c : Str} (h : y ∈ Txt.split z c) (hc : 1 ≤ c.length) : y.length ≤ z.length + 1 := by
  have w := split_weight z c hc
  have : y.length ≤ ((Txt.split z c).map (·.length)).sum := by
    have : ∀ {l : List Str}, y ∈ l → y.length ≤ (l.map (·.length)).sum := by
      intro l
      induction l with
      | nil => intro h; cases h
      | cons a l ih =>
        intro h
        rw [List.map_cons, List.sum_cons]
        rcases List.mem_cons.mp h with rfl | h
        · omega
        · have := ih h
          omega
    exact this h
  omega
section
variable {base : Heap} {K : PySem.W.Frag} {mg : Str → Option Value} {P : Program} {w : World}
theorem units65 {k : Nat} {A : Around} (r : Room k A) : A.units + 65 < cLine := by have := r.un; omega
def spReadSh : Sp := fun vs H Q _ => ∃ z : Str, vs = [.str z] ∧ z.length ≤ 5800 ∧ (∀ H', Same H H' → readSh z = none → Q .non H') ∧ ∀ x p H', readSh z = some x → Same H H' → ShAt H' p x → Q (.ref p) H'
theorem ok_read_sheet (T : Txt K mg) : FnOk P w K mg base CX0 5 T.f_read_sheet T.d_read_sheet ["text"] spReadSh := by
  refine T.F_read_sheet.ok sc_read_sheet (fun vs H Q E h => ?_) (fun cdv A outer s H vs Q E hr h => ?_)
  · obtain ⟨z, rfl, _⟩ := h
    rfl
  · obtain ⟨z, rfl, hz, q1, q2⟩ := h
    refine ⟨_, (pss_cons (ps_set (i := 1) sc_read_sheet.nd rfl (Or.inl rfl) (pe_callTy call_tuple_of (by rfl) T.n_tuple (by decide +kernel) (pa_cons (pe_lc (own := [("part", 2)]) (g := (gName 2)) (tt := tYes) (te := tCall spReadP [] E0 (tCons (tVar 2) tNil)) (by rfl) sc_read_sheet.nd (pi_list (pe_split (pv 0) pe_str)) (blkOk_by (own := [("part", 2)]) (N := ["text", "pairs", "part"]) (sc := defScope s_read_sheet) (by decide +kernel)) (fun _ _ _ _ _ => (pg_name (i := 2) sc_read_sheet.nd rfl (Or.inl rfl))) (fun _ _ _ _ _ => pts_nil) (fun _ _ _ _ _ => (pe_call (ok_read_pair T) (hr.mono (by decide)) (by rfl) T.g_read_pair T.F_read_pair.kp T.b_read_pair .nil pass0 (pa_cons (pv 2) pa_nil)))) pa_nil)))
      (pss_one (ps_ret (pe_ifExp (PW.pt (pw_or (pt_cmpR op_ne (pe_callB call_len_seq (by rfl) T.n_len (by decide +kernel) (pa_cons (pv 1) pa_nil)) pe_int (nomark _)) (pw_or1 (pt_cmpR (op_inTup hr.units) pe_non (pv 1) (by rfl))))) pe_non (pv 1))))), ?_⟩
    have c3 : (Str.ofString " x ").length = 3 := by decide +kernel
    refine ⟨_, rfl, ⟨_, rfl⟩, z, _, rfl, rfl, by decide +kernel, by rw [sz_eq]; omega, fun l nl => ?_⟩
    have sl := same_new (o := .lst ((Txt.split z (Str.ofString " x ")).map V.str)) nl
    have hl : upd H l (.lst ((Txt.split z (Str.ofString " x ")).map V.str)) l = some (.lst ((Txt.split z (Str.ofString " x ")).map V.str)) := upd_same
    have ln := split_le z (Str.ofString " x ")
    have pl : ∀ y ∈ Txt.split z (Str.ofString " x "), y.length ≤ 5900 := fun y hy => by
      have := part_len hy (by rw [c3]; decide)
      omega
    refine ⟨l, rfl, ⟨_, SqL.of hl⟩, fun D nD => lc_list (K := K) (a := l) (xs := (Txt.split z (Str.ofString " x ")).map V.str) (fun i G => Same (upd H l (.lst ((Txt.split z (Str.ofString " x ")).map V.str))) G ∧ ∃ vs, G D = some (.lst vs) ∧ DueAll G vs ((Txt.split z (Str.ofString " x ")).take i)) ⟨same_new nD, [], upd_same, .nil⟩ (fun i G _ z => SqL.of (z.1 _ _ hl)) ?_ ?_⟩
    · rintro i x G hx ⟨sG, vs, hG, pG⟩
      rw [List.getElem?_map] at hx
      cases hy : (Txt.split z (Str.ofString " x "))[i]? with
      | none =>
        rw [hy] at hx
        cases hx
      | some y =>
        rw [hy] at hx
        cases hx
        refine ⟨rfl, _, rfl, ?_⟩
        unfold tNil
        refine read_due (pl y (List.mem_of_getElem? hy)) fun dv Ha sa hd => ⟨vs, sa _ _ hG, ?_, ?_⟩
        · have li := (List.getElem?_eq_some_iff.mp hy).1
          rw [Paired.length pG, List.length_take, sz_eq]
          omega
        · obtain ⟨g1, g2⟩ := DueAll.next sG hG pG nD hy sa hd
          exact ⟨g1, _, upd_same, g2⟩
    rintro G ⟨sG, vs, hG, pG⟩
    rw [List.length_map, List.take_length] at pG
    have s2 := sl.trans sG
    refine ⟨D, _, rfl, .inl ⟨SqL.of hG, fun p np => ?_⟩⟩
    have e := same_new (o := .tup vs) np
    have pG2 : DueAll (upd G p (.tup vs)) vs (Txt.split z (Str.ofString " x ")) := Paired.mono (fun v z h => h.same e) pG
    have s3 := s2.trans e
    have hv := Paired.length pG
    refine ⟨_, rfl, p, vs, rfl, .inr (SqT.of upd_same), rfl, _, rfl, ?_⟩
    by_cases l2 : (Txt.split z (Str.ofString " x ")).length = 2
    · rw [show decide (V.int (vs.length : Nat) = V.int 2) = true from decide_eq_true (by rw [hv, l2]; rfl)]
      refine iteF ⟨_, rfl, .none, _, .non, .tup (SqT.of upd_same) pG2.dp, by simp [PyData.plain], due_plain _, by simp [PyData.depth], _, rfl, ?_⟩
      rw [none_any]
      cases n : (Txt.split z (Str.ofString " x ")).any (fun y => (rp y).isNone) with
      | true => exact iteT (q1 _ s3 (readSh_none n))
      | false =>
        obtain ⟨u, v, x, rfl, hx, h1, h2⟩ := due_two pG2 l2 n
        exact iteF ⟨_, rfl, q2 x p _ hx s3 ⟨u, v, upd_same, h1, h2⟩⟩
    · rw [show decide (V.int (vs.length : Nat) = V.int 2) = false from decide_eq_false fun z => l2 (by have := V.int.inj z; omega)]
      exact iteT (iteT (q1 _ s3 (readSh_not l2)))
theorem ok_sheet_read (T : Txt K mg) : FnOk P w K mg base CX0 3 T.f_sheet_read T.d_sheet_read ["_law_text_z"] spReadSh := by
  refine T.F_sheet_read.ok sc_sheet_read (fun vs H Q E h => ?_) (fun cdv A outer s H vs Q E hr h => ?_)
  · obtain ⟨z, rfl, _⟩ := h
    rfl
  · obtain ⟨z, rfl, hz, q1, q2⟩ := h
    refine ⟨_, (pss_cons (ps_setLc (i := 1) (own := [("_law_part", 2)]) (g := (gName 2)) (tt := tYes) (te := tCall spReadP [] E0 (tCons (tVar 2) tNil)) (by rfl) sc_sheet_read.nd rfl rfl (sw_true rfl rfl rfl (by decide +kernel)) (pi_list (pe_split (pv 0) pe_str)) (blkOk_by (own := [("_law_part", 2)]) (N := ["_law_text_z", "_law_pairs", "_law_part"]) (sc := defScope s_sheet_read) (by decide +kernel)) (fun _ _ _ _ _ => (pg_name (i := 2) sc_sheet_read.nd rfl (Or.inl rfl))) (fun _ _ _ _ _ => pts_nil) (fun _ _ _ _ _ => (pe_call (ok_pair_read T) (hr.mono (by decide)) (by rfl) T.g_pair_read T.F_pair_read.kp T.b_pair_read .nil pass0 (pa_cons (pv 2) pa_nil))))
      (pss_one (ps_ret (pe_ifExp (PW.pt (pw_and (pt_cmpR op_eq (pe_callB call_len_seq (by rfl) T.n_len (by decide +kernel) (pa_cons (pv 1) pa_nil)) pe_int (nomark _)) (pw_and1 (pt_cmpR (op_notInD (units65 hr)) pe_non (pv 1) (by rfl))))) (pe_tup (pa_cons (pe_ix ix_list (pv 1) pe_int (fun _ _ => rfl)) (pa_cons (pe_ix ix_list (pv 1) pe_int (fun _ _ => rfl)) pa_nil))) pe_non)))), ?_⟩
    have c3 : (Str.ofString " x ").length = 3 := by decide +kernel
    refine ⟨_, rfl, ⟨_, rfl⟩, z, _, rfl, rfl, by decide +kernel, by rw [sz_eq]; omega, fun l nl => ?_⟩
    have sl := same_new (o := .lst ((Txt.split z (Str.ofString " x ")).map V.str)) nl
    have hl : upd H l (.lst ((Txt.split z (Str.ofString " x ")).map V.str)) l = some (.lst ((Txt.split z (Str.ofString " x ")).map V.str)) := upd_same
    have ln := split_le z (Str.ofString " x ")
    have pl : ∀ y ∈ Txt.split z (Str.ofString " x "), y.length ≤ 5900 := fun y hy => by
      have := part_len hy (by rw [c3]; decide)
      omega
    refine ⟨l, rfl, ⟨_, SqL.of hl⟩, fun D nD => lc_list (K := K) (a := l) (xs := (Txt.split z (Str.ofString " x ")).map V.str) (fun i G => Same (upd H l (.lst ((Txt.split z (Str.ofString " x ")).map V.str))) G ∧ ∃ vs, G D = some (.lst vs) ∧ DueAll G vs ((Txt.split z (Str.ofString " x ")).take i)) ⟨same_new nD, [], upd_same, .nil⟩ (fun i G _ z => SqL.of (z.1 _ _ hl)) ?_ ?_⟩
    · rintro i x G hx ⟨sG, vs, hG, pG⟩
      rw [List.getElem?_map] at hx
      cases hy : (Txt.split z (Str.ofString " x "))[i]? with
      | none =>
        rw [hy] at hx
        cases hx
      | some y =>
        rw [hy] at hx
        cases hx
        refine ⟨rfl, _, rfl, ?_⟩
        unfold tNil
        refine read_due (pl y (List.mem_of_getElem? hy)) fun dv Ha sa hd => ⟨vs, sa _ _ hG, ?_, ?_⟩
        · have li := (List.getElem?_eq_some_iff.mp hy).1
          rw [Paired.length pG, List.length_take, sz_eq]
          omega
        · obtain ⟨g1, g2⟩ := DueAll.next sG hG pG nD hy sa hd
          exact ⟨g1, _, upd_same, g2⟩
    rintro G ⟨sG, vs, hG, pG⟩
    rw [List.length_map, List.take_length] at pG
    have s2 := sl.trans sG
    have hv := Paired.length pG
    refine ⟨_, rfl, D, vs, rfl, .inl (SqL.of hG), rfl, _, rfl, ?_⟩
    by_cases l2 : (Txt.split z (Str.ofString " x ")).length = 2
    · rw [show decide (V.int (vs.length : Nat) = V.int 2) = true from decide_eq_true (by rw [hv, l2]; rfl)]
      refine iteT ⟨_, rfl, .none, _, .non, .lst (SqL.of hG) pG.dp, by decide +kernel, due_shaped _, _, rfl, ?_⟩
      rw [none_any]
      cases n : (Txt.split z (Str.ofString " x ")).any (fun y => (rp y).isNone) with
      | true => exact iteF (q1 _ s2 (readSh_none n))
      | false =>
        obtain ⟨u, v, x, rfl, hx, h1, h2⟩ := due_two pG l2 n
        refine iteT ⟨_, rfl, D, _, 0, .ref u, rfl, rfl, SqL.of hG, atI_nat (j := 0) rfl, _, rfl, D, _, 1, .ref v, rfl, rfl, SqL.of hG, atI_nat (j := 1) rfl, by show 2 ≤ sizeLine; decide, fun t nt => ?_⟩
        have e := same_new (o := .tup [.ref u, .ref v]) nt
        exact q2 x t _ hx (s2.trans e) ⟨u, v, upd_same, e _ _ h1, e _ _ h2⟩
    · rw [show decide (V.int (vs.length : Nat) = V.int 2) = false from decide_eq_false fun z => l2 (by have := V.int.inj z; omega)]
      exact iteF (iteF (q1 _ s2 (readSh_not l2)))
end
/-! ### what is a step, by the law -/
section
variable {base : Heap} {K : PySem.W.Frag} {mg : Str → Option Value} {P : Program} {w : World}
def spLSide : Sp := fun vs H Q _ => ∃ (p : Addr) (x : Sh) (s : Str), vs = [.ref p, .str s] ∧ ShAt H p x ∧ SideW s ∧ ∀ r H', Same H H' → H' r = some (.tup [.int (sideOf x s).1, .int (sideOf x s).2]) → Q (.ref r) H'
theorem ok_lside_of (T : Txt K mg) : FnOk P w K mg base CX0 1 T.f_lside_of T.d_lside_of ["_law_sheet", "_law_side"] spLSide := by
  refine T.F_lside_of.ok sc_lside_of (fun vs H Q E h => ?_) (fun cdv A outer s H vs Q E hr h => ?_)
  · obtain ⟨p, x, s, rfl, _⟩ := h
    rfl
  · obtain ⟨p, x, sd, rfl, ⟨u, v, h1, h2, h3⟩, hs, q⟩ := h
    refine ⟨_, (pss_one (ps_ret (pe_ix ix_tup (pv 0) (pe_bm PySem.F.plainAttrs_list PySem.F.slot_list_index PySem.F.type_list_index mt_index (pe_lst (pa_cons pe_str (pa_cons pe_str pa_nil))) (pa_cons (pv 1) pa_nil)) (fun _ _ => rfl)))), ?_⟩
    refine ⟨_, rfl, by show 2 ≤ sizeLine; decide, fun l nl => ?_⟩
    have e := same_new (o := .lst [.str "across", .str "along"]) nl
    refine ⟨.inl ⟨rfl, _, SqL.of upd_same⟩, _, rfl, ?_⟩
    unfold sideOf at q
    rcases hs with rfl | rfl
    · refine ⟨l, _, .str "across", 0, .str "across", rfl, rfl, SqL.of upd_same, rfl, rfl, rfl, by decide +kernel, fun m z' hm => absurd hm (Nat.not_lt_zero _), ?_⟩
      exact ⟨p, _, 0, .ref u, rfl, rfl, SqT.of (e _ _ h1), atI_nat (j := 0) rfl, q u _ e (e _ _ h2)⟩
    · refine ⟨l, _, .str "along", 1, .str "along", rfl, rfl, SqL.of upd_same, rfl, rfl, rfl, by decide +kernel, fun m z' hm hz => ?_, ?_⟩
      · obtain rfl : m = 0 := by omega
        cases hz
        decide +kernel
      exact ⟨p, _, 1, .ref v, rfl, rfl, SqT.of (e _ _ h1), atI_nat (j := 1) rfl, q v _ e (e _ _ h3)⟩
theorem ok_lis_pair (T : Txt K mg) : FnOk P w K mg base CX0 1 T.f_lis_pair T.d_lis_pair ["_law_x"] (spItm pairB) := by
  refine T.F_lis_pair.ok sc_lis_pair (fun vs H Q E h => ?_) (fun cdv A outer s H vs Q E hr h => ?_)
  · obtain ⟨v, t, rfl, _⟩ := h
    rfl
  · obtain ⟨v, t, rfl, h, q⟩ := h
    refine ⟨_, (pss_one (ps_ret (pe_and (pe_callB call_isi (by rfl) T.n_isinstance (by decide +kernel) (pa_cons (pv 0) (pa_cons (pe_bltn (v := .ty "tuple") (by rfl) T.n_tuple (by decide +kernel) rfl) pa_nil))) (pe_and (pe_cmpR op_eq (pe_callB call_len_seq (by rfl) T.n_len (by decide +kernel) (pa_cons (pv 0) pa_nil)) pe_int (nomark _)) (pe_and (pe_callB call_isi (by rfl) T.n_isinstance (by decide +kernel) (pa_cons (pe_ix ix_tup (pv 0) pe_int (fun _ _ => rfl)) (pa_cons (pe_bltn (v := .ty "int") (by rfl) T.n_int (by decide +kernel) rfl) pa_nil))) (pe_one (pe_callB call_isi (by rfl) T.n_isinstance (by decide +kernel) (pa_cons (pe_ix ix_tup (pv 0) pe_int (fun _ _ => rfl)) (pa_cons (pe_bltn (v := .ty "int") (by rfl) T.n_int (by decide +kernel) rfl) pa_nil))))))))), ?_⟩
    cases t with
    | str s =>
      cases (show v = .str s from h)
      exact ⟨_, rfl, .str s, .ty "tuple", _, _, false, rfl, ClsV.ty _, TyX.base (TyOf.str _), kit_ty (by decide +kernel), false, rfl, iteF q⟩
    | non =>
      cases (show v = .non from h)
      exact ⟨_, rfl, .non, .ty "tuple", _, _, false, rfl, ClsV.ty _, TyX.base (TyOf.non), kit_ty (by decide +kernel), false, rfl, iteF q⟩
    | int n =>
      cases (show v = .int n from h)
      exact ⟨_, rfl, .int n, .ty "tuple", _, _, false, rfl, ClsV.ty _, TyX.base (TyOf.int _), kit_ty (by decide +kernel), false, rfl, iteF q⟩
    | pair a b =>
      obtain ⟨p, rfl, h⟩ := h
      refine ⟨_, rfl, .ref p, .ty "tuple", _, _, true, rfl, ClsV.ty _, TyX.base (TyOf.tup h), kit_ty (by decide +kernel), true, rfl, iteT ?_⟩
      refine ⟨_, rfl, p, _, rfl, .inr (SqT.of h), rfl, true, rfl, iteT ?_⟩
      refine ⟨_, rfl, p, _, 0, .int a, rfl, rfl, SqT.of h, atI_nat (j := 0) rfl, .int a, .ty "int", _, _, true, rfl, ClsV.ty _, TyX.base (TyOf.int _), kit_ty (by decide +kernel), true, rfl, iteT ?_⟩
      exact ⟨_, rfl, p, _, 1, .int b, rfl, rfl, SqT.of h, atI_nat (j := 1) rfl, .int b, .ty "int", _, _, true, rfl, ClsV.ty _, TyX.base (TyOf.int _), kit_ty (by decide +kernel), q⟩
    | sheet x =>
      obtain ⟨p, rfl, u, v, h, h2, h3⟩ := h
      refine ⟨_, rfl, .ref p, .ty "tuple", _, _, true, rfl, ClsV.ty _, TyX.base (TyOf.tup h), kit_ty (by decide +kernel), true, rfl, iteT ?_⟩
      refine ⟨_, rfl, p, _, rfl, .inr (SqT.of h), rfl, true, rfl, iteT ?_⟩
      exact ⟨_, rfl, p, _, 0, .ref u, rfl, rfl, SqT.of h, atI_nat (j := 0) rfl, .ref u, .ty "int", _, _, false, rfl, ClsV.ty _, TyX.base (TyOf.tup h2), kit_ty (by decide +kernel), false, rfl, iteF q⟩
theorem ok_is_pairs (T : Txt K mg) : FnOk P w K mg base CX0 2 T.f_is_pairs T.d_is_pairs ["_law_x"] (spItm sheetB) := by
  refine T.F_is_pairs.ok sc_is_pairs (fun vs H Q E h => ?_) (fun cdv A outer s H vs Q E hr h => ?_)
  · obtain ⟨v, t, rfl, _⟩ := h
    rfl
  · obtain ⟨v, t, rfl, h, q⟩ := h
    refine ⟨_, (pss_one (ps_ret (pe_and (pe_callB call_isi (by rfl) T.n_isinstance (by decide +kernel) (pa_cons (pv 0) (pa_cons (pe_bltn (v := .ty "tuple") (by rfl) T.n_tuple (by decide +kernel) rfl) pa_nil))) (pe_and (pe_cmpR op_eq (pe_callB call_len_seq (by rfl) T.n_len (by decide +kernel) (pa_cons (pv 0) pa_nil)) pe_int (nomark _)) (pe_and (pe_call (ok_lis_pair T) (hr.mono (by decide)) (by rfl) T.g_lis_pair T.F_lis_pair.kp T.b_lis_pair .nil pass0 (pa_cons (pe_ix ix_tup (pv 0) pe_int (fun _ _ => rfl)) pa_nil)) (pe_one (pe_call (ok_lis_pair T) (hr.mono (by decide)) (by rfl) T.g_lis_pair T.F_lis_pair.kp T.b_lis_pair .nil pass0 (pa_cons (pe_ix ix_tup (pv 0) pe_int (fun _ _ => rfl)) pa_nil)))))))), ?_⟩
    cases t with
    | str s =>
      cases (show v = .str s from h)
      exact ⟨_, rfl, .str s, .ty "tuple", _, _, false, rfl, ClsV.ty _, TyX.base (TyOf.str _), kit_ty (by decide +kernel), false, rfl, iteF q⟩
    | non =>
      cases (show v = .non from h)
      exact ⟨_, rfl, .non, .ty "tuple", _, _, false, rfl, ClsV.ty _, TyX.base (TyOf.non), kit_ty (by decide +kernel), false, rfl, iteF q⟩
    | int n =>
      cases (show v = .int n from h)
      exact ⟨_, rfl, .int n, .ty "tuple", _, _, false, rfl, ClsV.ty _, TyX.base (TyOf.int _), kit_ty (by decide +kernel), false, rfl, iteF q⟩
    | pair a b =>
      obtain ⟨p, rfl, h⟩ := h
      refine ⟨_, rfl, .ref p, .ty "tuple", _, _, true, rfl, ClsV.ty _, TyX.base (TyOf.tup h), kit_ty (by decide +kernel), true, rfl, iteT ?_⟩
      refine ⟨_, rfl, p, _, rfl, .inr (SqT.of h), rfl, true, rfl, iteT ?_⟩
      exact ⟨_, rfl, p, _, 0, .int a, rfl, rfl, SqT.of h, atI_nat (j := 0) rfl, .int a, .int a, rfl, rfl, false, rfl, iteF q⟩
    | sheet x =>
      obtain ⟨p, rfl, u, v, h, h2, h3⟩ := h
      refine ⟨_, rfl, .ref p, .ty "tuple", _, _, true, rfl, ClsV.ty _, TyX.base (TyOf.tup h), kit_ty (by decide +kernel), true, rfl, iteT ?_⟩
      refine ⟨_, rfl, p, _, rfl, .inr (SqT.of h), rfl, true, rfl, iteT ?_⟩
      refine ⟨_, rfl, p, _, 0, .ref u, rfl, rfl, SqT.of h, atI_nat (j := 0) rfl, .ref u, .pair x.1 x.2.1, rfl, ⟨u, rfl, h2⟩, true, rfl, iteT ?_⟩
      exact ⟨_, rfl, p, _, 1, .ref v, rfl, rfl, SqT.of h, atI_nat (j := 1) rfl, .ref v, .pair x.2.2.1 x.2.2.2, rfl, ⟨v, rfl, h3⟩, q⟩
def spLeast : Sp := fun vs H Q _ => ∃ (v : V) (t : Itm) (n : Int), vs = [v, .int n] ∧ ItAt H v t ∧ Q (.bl (leastB n t)) H
theorem ok_at_least (T : Txt K mg) : FnOk P w K mg base CX0 1 T.f_at_least T.d_at_least ["_law_x", "_law_least"] spLeast := by
  refine T.F_at_least.ok sc_at_least (fun vs H Q E h => ?_) (fun cdv A outer s H vs Q E hr h => ?_)
  · obtain ⟨v, t, n, rfl, _⟩ := h
    rfl
  · obtain ⟨v, t, n, rfl, h, q⟩ := h
    refine ⟨_, (pss_one (ps_ret (pe_and (pe_callB call_isi (by rfl) T.n_isinstance (by decide +kernel) (pa_cons (pv 0) (pa_cons (pe_bltn (v := .ty "int") (by rfl) T.n_int (by decide +kernel) rfl) pa_nil))) (pe_one (pe_cmpR op_ge (pv 0) (pv 1) (nomark _)))))), ?_⟩
    cases t with
    | str s =>
      cases (show v = .str s from h)
      exact ⟨_, rfl, .str s, .ty "int", _, _, false, rfl, ClsV.ty _, TyX.base (TyOf.str _), kit_ty (by decide +kernel), false, rfl, iteF q⟩
    | non =>
      cases (show v = .non from h)
      exact ⟨_, rfl, .non, .ty "int", _, _, false, rfl, ClsV.ty _, TyX.base (TyOf.non), kit_ty (by decide +kernel), false, rfl, iteF q⟩
    | int m =>
      cases (show v = .int m from h)
      exact ⟨_, rfl, .int m, .ty "int", _, _, true, rfl, ClsV.ty _, TyX.base (TyOf.int _), kit_ty (by decide +kernel), true, rfl, iteT ⟨_, rfl, _, rfl, m, n, rfl, rfl, q⟩⟩
    | pair a b =>
      obtain ⟨p, rfl, h⟩ := h
      exact ⟨_, rfl, .ref p, .ty "int", _, _, false, rfl, ClsV.ty _, TyX.base (TyOf.tup h), kit_ty (by decide +kernel), false, rfl, iteF q⟩
    | sheet x =>
      obtain ⟨p, rfl, u, v, h, _⟩ := h
      exact ⟨_, rfl, .ref p, .ty "int", _, _, false, rfl, ClsV.ty _, TyX.base (TyOf.tup h), kit_ty (by decide +kernel), false, rfl, iteF q⟩
def spWith : Sp := fun vs H Q _ => ∃ (p r : Addr) (x : Sh) (s : Str) (a b : Int), vs = [.ref p, .str s, .ref r] ∧ ShAt H p x ∧ SideW s ∧ H r = some (.tup [.int a, .int b]) ∧ ∀ q H' y, H q = none → Same H H' → ShAt H' q y → (y = if s = "across" then (a, b, x.2.2.1, x.2.2.2) else (x.1, x.2.1, a, b)) → Q (.ref q) H'
theorem ok_with (T : Txt K mg) : FnOk P w K mg base CX0 1 T.f_with T.d_with ["_law_sheet", "_law_side", "_law_pair"] spWith := by
  refine T.F_with.ok sc_with (fun vs H Q E h => ?_) (fun cdv A outer s H vs Q E hr h => ?_)
  · obtain ⟨p, r, x, s, a, b, rfl, _⟩ := h
    rfl
  · obtain ⟨p, r, x, sd, a, b, rfl, ⟨u, v, h1, h2, h3⟩, hs, hr', q⟩ := h
    refine ⟨_, (pss_one (ps_ret (pe_ifExp (pt_cmpR op_eq (pv 1) pe_str (nomark _)) (pe_tup (pa_cons (pv 2) (pa_cons (pe_ix ix_tup (pv 0) pe_int (fun _ _ => rfl)) pa_nil))) (pe_tup (pa_cons (pe_ix ix_tup (pv 0) pe_int (fun _ _ => rfl)) (pa_cons (pv 2) pa_nil)))))), ?_⟩
    refine ⟨_, rfl, rfl, ?_⟩
    by_cases z : sd = "across"
    · refine ⟨true, by rw [z, decide_eq_true rfl], iteT ⟨_, rfl, _, rfl, p, _, 1, .ref v, rfl, rfl, SqT.of h1, atI_nat (j := 1) rfl, by show 2 ≤ sizeLine; decide, fun t nt => ?_⟩⟩
      have e := same_new (o := .tup [.ref r, .ref v]) nt
      exact q t _ (a, b, x.2.2.1, x.2.2.2) nt e ⟨r, v, upd_same, e _ _ hr', e _ _ h3⟩ (by rw [if_pos z])
    · refine ⟨false, by rw [decide_eq_false fun e => z (V.str.inj e)], iteF ⟨_, rfl, p, _, 0, .ref u, rfl, rfl, SqT.of h1, atI_nat (j := 0) rfl, _, rfl, by show 2 ≤ sizeLine; decide, fun t nt => ?_⟩⟩
      have e := same_new (o := .tup [.ref u, .ref r]) nt
      exact q t _ (x.1, x.2.1, a, b) nt e ⟨u, r, upd_same, e _ _ h2, e _ _ hr'⟩ (by rw [if_neg z])
theorem more_else {s : Str} {ts : List Itm} (h1 : s ≠ "split") (h2 : s ≠ "glue") : moreB (.str s :: ts) = true := by
  unfold moreB
  split
  · rename_i h
    cases h
    exact if_neg h1
  · rename_i h
    cases h
    exact if_neg h2
  · rfl
theorem step_turn (t1 t2 : Itm) : stepB [.str "turn", t1, t2] = (sheetB t1 && leastB 1 t2) := by
  have m : moreB [.str "turn", t1, t2] = true := more_else (by decide +kernel) (by decide +kernel)
  have e : shapeB [.str "turn", t1, t2] = (sheetB t1 && (leastB 1 t2 && true)) := rfl
  unfold stepB
  rw [m, e]
  cases sheetB t1 <;> cases leastB 1 t2 <;> rfl
theorem step_saw (t1 t2 t3 t4 : Itm) : stepB [.str "saw", t1, t2, t3, t4] = ((sheetB t1 && leastB 1 t4) && (sideB t2 && pairB t3)) := by
  have m : moreB [.str "saw", t1, t2, t3, t4] = true := more_else (by decide +kernel) (by decide +kernel)
  have e : shapeB [.str "saw", t1, t2, t3, t4] = (sheetB t1 && (sideB t2 && (pairB t3 && (leastB 1 t4 && true)))) := rfl
  unfold stepB
  rw [m, e]
  cases sheetB t1 <;> cases sideB t2 <;> cases pairB t3 <;> cases leastB 1 t4 <;> rfl
theorem step_stack (t1 t2 t3 t4 : Itm) : stepB [.str "stack", t1, t2, t3, t4] = ((sheetB t1 && leastB 1 t4) && (sideB t2 && leastB 2 t3)) := by
  have m : moreB [.str "stack", t1, t2, t3, t4] = true := more_else (by decide +kernel) (by decide +kernel)
  have e : shapeB [.str "stack", t1, t2, t3, t4] = (sheetB t1 && (sideB t2 && (leastB 2 t3 && (leastB 1 t4 && true)))) := rfl
  unfold stepB
  rw [m, e]
  cases sheetB t1 <;> cases sideB t2 <;> cases leastB 2 t3 <;> cases leastB 1 t4 <;> rfl
theorem step_split (t1 t2 t3 t4 : Itm) : stepB [.str "split", t1, t2, t3, t4] = ((sheetB t1 && leastB 1 t4) && ((sideB t2 && leastB 2 t3) && moreB [.str "split", t1, t2, t3, t4])) := by
  have e : shapeB [.str "split", t1, t2, t3, t4] = (sheetB t1 && (sideB t2 && (leastB 2 t3 && (leastB 1 t4 && true)))) := rfl
  unfold stepB
  rw [e]
  cases sheetB t1 <;> cases sideB t2 <;> cases leastB 2 t3 <;> cases leastB 1 t4 <;> rfl
theorem step_glue (t1 t2 t3 t4 : Itm) : stepB [.str "glue", t1, t2, t3, t4] = ((sheetB t1 && leastB 1 t4) && (sideB t3 && (sheetB t2 && moreB [.str "glue", t1, t2, t3, t4]))) := by
  have e : shapeB [.str "glue", t1, t2, t3, t4] = (sheetB t1 && (sheetB t2 && (sideB t3 && (leastB 1 t4 && true)))) := rfl
  unfold stepB
  rw [e]
  cases sheetB t1 <;> cases sideB t3 <;> cases sheetB t2 <;> cases leastB 1 t4 <;> rfl
theorem step_len {s : Str} {ts : List Itm} (h : ts.length ≠ if s = "turn" then 2 else 4) : stepB (.str s :: ts) = false := by
  cases e : shapeOf s with
  | none => simp only [stepB, shapeB, e, Bool.false_and]
  | some ks =>
    have : ks.length = if s = "turn" then 2 else 4 := by
      unfold shapeOf at e
      by_cases s1 : s = "saw"
      · subst s1; cases e; rfl
      rw [if_neg s1] at e
      by_cases s2 : s = "split"
      · subst s2; cases e; rfl
      rw [if_neg s2] at e
      by_cases s3 : s = "glue"
      · subst s3; cases e; rfl
      rw [if_neg s3] at e
      by_cases s4 : s = "stack"
      · subst s4; cases e; rfl
      rw [if_neg s4] at e
      by_cases s5 : s = "turn"
      · subst s5; cases e; rfl
      rw [if_neg s5] at e
      cases e
    simp only [stepB, shapeB, e, this, decide_eq_false h, Bool.false_and]
theorem paired2 {α β : Type} {R : α → β → Prop} {as : List α} {bs : List β} (h : Paired R as bs) (l : bs.length = 2) : ∃ a1 a2 b1 b2, as = [a1, a2] ∧ bs = [b1, b2] ∧ R a1 b1 ∧ R a2 b2 := by
  match bs, l with
  | [b1, b2], _ =>
    cases h with
    | cons h1 h => cases h with
      | cons h2 h =>
        cases h
        exact ⟨_, _, _, _, rfl, rfl, h1, h2⟩
theorem paired4 {α β : Type} {R : α → β → Prop} {as : List α} {bs : List β} (h : Paired R as bs) (l : bs.length = 4) : ∃ a1 a2 a3 a4 b1 b2 b3 b4, as = [a1, a2, a3, a4] ∧ bs = [b1, b2, b3, b4] ∧ R a1 b1 ∧ R a2 b2 ∧ R a3 b3 ∧ R a4 b4 := by
  match bs, l with
  | [b1, b2, b3, b4], _ =>
    cases h with
    | cons h1 h => cases h with
      | cons h2 h => cases h with
        | cons h3 h => cases h with
          | cons h4 h =>
            cases h
            exact ⟨_, _, _, _, _, _, _, _, rfl, rfl, h1, h2, h3, h4⟩
theorem inV_side (s : Str) : inV (.str s) [.str "across", .str "along"] = sideB (.str s) := by
  have e : ∀ c : Str, eqV (.str c) (.str s) = decide (s = c) := fun c => by
    by_cases z : s = c
    · subst z
      rw [decide_eq_true rfl]
      simp [eqV]
    · rw [decide_eq_false z]
      simpa [eqV] using fun q => z q.symm
  show (eqV (.str "across") (.str s) || (eqV (.str "along") (.str s) || false)) = decide (s = "across" ∨ s = "along")
  rw [e, e, Bool.or_false, Bool.decide_or]
abbrev sizesK : List (Key × V) := [(Sum.inr "saw", .int 5), (Sum.inr "split", .int 5), (Sum.inr "glue", .int 5), (Sum.inr "stack", .int 5), (Sum.inr "turn", .int 3)]
theorem size_at {s : Str} (h : s ∈ words) : (shapeOf s = none ∧ valV (mergeK [] sizesK) (Sum.inr s) = none) ∨ (s = "turn" ∧ valV (mergeK [] sizesK) (Sum.inr s) = some (.int 3)) ∨ ((s = "saw" ∨ s = "split" ∨ s = "glue" ∨ s = "stack") ∧ valV (mergeK [] sizesK) (Sum.inr s) = some (.int 5)) := by
  simp only [words, List.mem_cons, List.not_mem_nil, or_false] at h
  rcases h with rfl | rfl | rfl | rfl | rfl
  · exact .inr (.inr ⟨.inl rfl, by rfl⟩)
  · exact .inr (.inr ⟨.inr (.inl rfl), by rfl⟩)
  · exact .inr (.inr ⟨.inr (.inr (.inl rfl)), by rfl⟩)
  · exact .inr (.inr ⟨.inr (.inr (.inr rfl)), by rfl⟩)
  · exact .inr (.inl ⟨rfl, by rfl⟩)
theorem ok_good_step (T : Txt K mg) : FnOk P w K mg base CX0 3 T.f_good_step T.d_good_step ["_law_step_z"] (spStep stepB) := by
  refine T.F_good_step.ok sc_good_step (fun vs H Q E h => ?_) (fun cdv A outer s H vs Q E hr h => ?_)
  · obtain ⟨p, ts, rfl, _⟩ := h
    rfl
  · obtain ⟨p, ts, rfl, ⟨vs, hp, hts⟩, ln, hH, q⟩ := h
    refine ⟨_, (pss_cons (ps_set (i := 1) sc_good_step.nd rfl (Or.inl rfl) (pe_disp (pps_cons pe_str pe_int (pps_cons pe_str pe_int (pps_cons pe_str pe_int (pps_cons pe_str pe_int (pps_cons pe_str pe_int pps_nil))))) (by rfl) (by rfl) (fun z => by cases z) (by decide)))
      (pss_cons (ps_set (i := 2) sc_good_step.nd rfl (Or.inl rfl) (pe_ifExp (PW.pt (pw_and (pt_cmpR op_gt (pe_callB call_len_seq (by rfl) T.n_len (by decide +kernel) (pa_cons (pv 0) pa_nil)) pe_int (nomark _)) (pw_and1 (pt_val (pe_callB call_isi (by rfl) T.n_isinstance (by decide +kernel) (pa_cons (pe_ix ix_tup (pv 0) pe_int (fun _ _ => rfl)) (pa_cons (pe_bltn (v := .ty "str") (by rfl) T.n_str (by decide +kernel) rfl) pa_nil))))))) (pe_ix ix_tup (pv 0) pe_int (fun _ _ => rfl)) pe_str))
      (pss_cons (ps_if (PW.pt (pw_or (pt_not (pt_val (pe_callB call_isi (by rfl) T.n_isinstance (by decide +kernel) (pa_cons (pv 0) (pa_cons (pe_bltn (v := .ty "tuple") (by rfl) T.n_tuple (by decide +kernel) rfl) pa_nil))))) (pw_or (pt_cmp (pc_dnotin (hu_of hr) (pv 2) (pv 1))) (pw_or1 (pt_cmpR op_ne (pe_callB call_len_seq (by rfl) T.n_len (by decide +kernel) (pa_cons (pv 0) pa_nil)) (pe_dget (hu_of hr) (pv 1) (pv 2) (fun _ _ => rfl)) (nomark _)))))) (pss_one (ps_ret pe_bl)) pss_nil)
      (pss_cons (ps_if (PW.pt (pw_or (pt_not (pt_val (pe_call (ok_is_pairs T) (hr.mono (by decide)) (by rfl) T.g_is_pairs T.F_is_pairs.kp T.b_is_pairs .nil pass0 (pa_cons (pe_ix ix_tup (pv 0) pe_int (fun _ _ => rfl)) pa_nil)))) (pw_or1 (pt_not (pt_val (pe_call (ok_at_least T) (hr.mono (by decide)) (by rfl) T.g_at_least T.F_at_least.kp T.b_at_least .nil pass0 (pa_cons (pe_ix ix_tup (pv 0) (pe_un un_neg pe_int) (fun _ _ => rfl)) (pa_cons pe_int pa_nil)))))))) (pss_one (ps_ret pe_bl)) pss_nil)
      (pss_cons (ps_if (pt_cmpR op_eq (pv 2) pe_str (nomark _)) (pss_one (ps_ret pe_bl)) pss_nil)
      (pss_cons (ps_set (i := 3) sc_good_step.nd rfl (Or.inl rfl) (pe_ifExp (pt_cmpR op_eq (pv 2) pe_str (nomark _)) (pe_ix ix_tup (pv 0) pe_int (fun _ _ => rfl)) (pe_ix ix_tup (pv 0) pe_int (fun _ _ => rfl))))
      (pss_cons (ps_if (PW.pt (pw_or (pt_not (pt_val (pe_callB call_isi (by rfl) T.n_isinstance (by decide +kernel) (pa_cons (pv 3) (pa_cons (pe_bltn (v := .ty "str") (by rfl) T.n_str (by decide +kernel) rfl) pa_nil))))) (pw_or1 (pt_cmpR op_notIn_seq (pv 3) (pe_tup (pa_cons pe_str (pa_cons pe_str pa_nil))) (by rfl))))) (pss_one (ps_ret pe_bl)) pss_nil)
      (pss_cons (ps_if (pt_cmpR op_eq (pv 2) pe_str (nomark _)) (pss_cons (ps_set (i := 5) sc_good_step.nd rfl (Or.inl rfl) (pe_ifExp (pt_cmpR op_eq (pv 3) pe_str (nomark _)) pe_str pe_str))
      (pss_one (ps_ret (pe_and (pe_call (ok_is_pairs T) (hr.mono (by decide)) (by rfl) T.g_is_pairs T.F_is_pairs.kp T.b_is_pairs .nil pass0 (pa_cons (pe_ix ix_tup (pv 0) pe_int (fun _ _ => rfl)) pa_nil)) (pe_one (pe_cmpR (op_eqD hr.units) (pe_call (ok_lside_of T) (hr.mono (by decide)) (by rfl) T.g_lside_of T.F_lside_of.kp T.b_lside_of .nil pass0 (pa_cons (pe_ix ix_tup (pv 0) pe_int (fun _ _ => rfl)) (pa_cons (pv 5) pa_nil))) (pe_call (ok_lside_of T) (hr.mono (by decide)) (by rfl) T.g_lside_of T.F_lside_of.kp T.b_lside_of .nil pass0 (pa_cons (pe_ix ix_tup (pv 0) pe_int (fun _ _ => rfl)) (pa_cons (pv 5) pa_nil))) (nomark _))))))) pss_nil)
      (pss_cons (ps_if (pt_cmpR op_eq (pv 2) pe_str (nomark _)) (pss_one (ps_ret (pe_call (ok_lis_pair T) (hr.mono (by decide)) (by rfl) T.g_lis_pair T.F_lis_pair.kp T.b_lis_pair .nil pass0 (pa_cons (pe_ix ix_tup (pv 0) pe_int (fun _ _ => rfl)) pa_nil)))) pss_nil)
      (pss_cons (ps_if (pt_not (pt_val (pe_call (ok_at_least T) (hr.mono (by decide)) (by rfl) T.g_at_least T.F_at_least.kp T.b_at_least .nil pass0 (pa_cons (pe_ix ix_tup (pv 0) pe_int (fun _ _ => rfl)) (pa_cons pe_int pa_nil))))) (pss_one (ps_ret pe_bl)) pss_nil)
      (pss_cons (ps_set (i := 4) sc_good_step.nd rfl (Or.inl rfl) (pe_call (ok_lside_of T) (hr.mono (by decide)) (by rfl) T.g_lside_of T.F_lside_of.kp T.b_lside_of .nil pass0 (pa_cons (pe_ix ix_tup (pv 0) pe_int (fun _ _ => rfl)) (pa_cons (pv 3) pa_nil))))
      (pss_one (ps_ret (pe_or (pe_cmpR op_eq (pv 2) pe_str (nomark _)) (pe_one (pe_and (pe_cmpR op_eq (pe_op op_mod (pe_ix ix_tup (pv 4) pe_int (fun _ _ => rfl)) (pe_ix ix_tup (pv 0) pe_int (fun _ _ => rfl))) pe_int (nomark _)) (pe_one (pe_cmpR op_eq (pe_op op_mod (pe_ix ix_tup (pv 4) pe_int (fun _ _ => rfl)) (pe_ix ix_tup (pv 0) pe_int (fun _ _ => rfl))) pe_int (nomark _))))))))))))))))))), ?_⟩
    intro d nd
    refine ⟨upd_same, sizesK, rfl, by decide, ?_⟩
    have e : Same H (upd (upd H d (.dK [])) d (.dK (mergeK [] sizesK))) := fun a o z => by
      rw [upd_ne (ne_of_none z nd), upd_ne (ne_of_none z nd)]
      exact z
    have hd : upd (upd H d (.dK [])) d (.dK (mergeK [] sizesK)) d = some (.dK (mergeK [] sizesK)) := upd_same
    generalize upd (upd H d (.dK [])) d (.dK (mergeK [] sizesK)) = H2 at e hd ⊢
    have hp2 := e _ _ hp
    have tt : TyX K H2 (.ref p) (.type "tuple") := TyX.base (TyOf.tup hp2)
    have no : DGet H2 d (.str "") none := by
      have := DGet.k (k := Sum.inr "") hd
      rwa [show valV (mergeK [] sizesK) (Sum.inr "") = none by decide +kernel] at this
    cases hts with
    | nil =>
      refine ⟨_, rfl, p, _, rfl, .inr (SqT.of hp2), _, _, rfl, rfl, false, rfl, iteF ?_⟩
      exact ⟨_, rfl, .ref p, .ty "tuple", _, _, true, rfl, ClsV.ty _, tt, kit_ty (by decide +kernel), true, rfl, iteF ⟨_, rfl, _, rfl, d, none, rfl, no, true, rfl, iteT (q _ e)⟩⟩
    | @cons v t vs ts hv hts =>
      have hlen := Paired.length hts
      refine ⟨_, rfl, p, _, rfl, .inr (SqT.of hp2), _, _, rfl, rfl, true, congrArg V.bl (decide_eq_true (by rw [List.length_cons]; omega)), iteT ?_⟩
      have odd : (∀ s, t ≠ .str s) → stepB (t :: ts) = false := fun z => by
        cases t with
        | str s => exact absurd rfl (z s)
        | _ => rfl
      cases t with
      | int n =>
        cases (show v = .int n from hv)
        refine ⟨_, rfl, p, _, 0, .int n, rfl, rfl, SqT.of hp2, atI_nat (j := 0) rfl, .int n, .ty "str", _, _, false, rfl, ClsV.ty _, TyX.base (TyOf.int _), kit_ty (by decide +kernel), false, rfl, iteF ?_⟩
        exact ⟨_, rfl, .ref p, .ty "tuple", _, _, true, rfl, ClsV.ty _, tt, kit_ty (by decide +kernel), true, rfl, iteF ⟨_, rfl, _, rfl, d, none, rfl, no, true, rfl, iteT (q _ e)⟩⟩
      | non =>
        cases (show v = .non from hv)
        refine ⟨_, rfl, p, _, 0, .non, rfl, rfl, SqT.of hp2, atI_nat (j := 0) rfl, .non, .ty "str", _, _, false, rfl, ClsV.ty _, TyX.base (TyOf.non), kit_ty (by decide +kernel), false, rfl, iteF ?_⟩
        exact ⟨_, rfl, .ref p, .ty "tuple", _, _, true, rfl, ClsV.ty _, tt, kit_ty (by decide +kernel), true, rfl, iteF ⟨_, rfl, _, rfl, d, none, rfl, no, true, rfl, iteT (q _ e)⟩⟩
      | pair a b =>
        obtain ⟨r, rfl, h⟩ := hv
        refine ⟨_, rfl, p, _, 0, .ref r, rfl, rfl, SqT.of hp2, atI_nat (j := 0) rfl, .ref r, .ty "str", _, _, false, rfl, ClsV.ty _, TyX.base (TyOf.tup (e _ _ h)), kit_ty (by decide +kernel), false, rfl, iteF ?_⟩
        exact ⟨_, rfl, .ref p, .ty "tuple", _, _, true, rfl, ClsV.ty _, tt, kit_ty (by decide +kernel), true, rfl, iteF ⟨_, rfl, _, rfl, d, none, rfl, no, true, rfl, iteT (q _ e)⟩⟩
      | sheet x =>
        obtain ⟨r, rfl, u, u', h, _⟩ := hv
        refine ⟨_, rfl, p, _, 0, .ref r, rfl, rfl, SqT.of hp2, atI_nat (j := 0) rfl, .ref r, .ty "str", _, _, false, rfl, ClsV.ty _, TyX.base (TyOf.tup (e _ _ h)), kit_ty (by decide +kernel), false, rfl, iteF ?_⟩
        exact ⟨_, rfl, .ref p, .ty "tuple", _, _, true, rfl, ClsV.ty _, tt, kit_ty (by decide +kernel), true, rfl, iteF ⟨_, rfl, _, rfl, d, none, rfl, no, true, rfl, iteT (q _ e)⟩⟩
      | str s =>
        cases (show v = .str s from hv)
        have hw := hH s _ rfl
        refine ⟨_, rfl, p, _, 0, .str s, rfl, rfl, SqT.of hp2, atI_nat (j := 0) rfl, .str s, .ty "str", _, _, true, rfl, ClsV.ty _, TyX.base (TyOf.str _), kit_ty (by decide +kernel), true, rfl, iteT ?_⟩
        refine ⟨_, rfl, p, _, 0, .str s, rfl, rfl, SqT.of hp2, atI_nat (j := 0) rfl, ?_⟩
        refine ⟨_, rfl, .ref p, .ty "tuple", _, _, true, rfl, ClsV.ty _, tt, kit_ty (by decide +kernel), true, rfl, iteF ?_⟩
        have g := DGet.k (k := Sum.inr s) hd
        rcases size_at hw with ⟨sn, z⟩ | ⟨rfl, z⟩ | ⟨sw, z⟩
        · rw [z] at g
          have : stepB (.str s :: ts) = false := by simp only [stepB, shapeB, sn, Bool.false_and]
          rw [this] at q
          exact ⟨_, rfl, _, rfl, d, none, rfl, g, true, rfl, iteT (q _ e)⟩
        · rw [z] at g
          refine ⟨_, rfl, _, rfl, d, _, rfl, g, false, rfl, iteF ?_⟩
          refine ⟨_, rfl, p, _, rfl, .inr (SqT.of hp2), _, rfl, _, rfl, d, .int 3, rfl, g, rfl, ?_⟩
          by_cases le : ts.length = 2
          · obtain ⟨v1, v2, t1, t2, rfl, rfl, h1, h2⟩ := paired2 hts le
            · have h1 := h1.same e
              have h2 := h2.same e
              rw [step_turn] at q
              refine ⟨false, rfl, iteF ?_⟩
              refine ⟨_, rfl, p, _, 1, v1, rfl, rfl, SqT.of hp2, atI_nat (j := 1) rfl, v1, t1, rfl, h1, sheetB t1, rfl, ?_⟩
              cases z1 : sheetB t1 with
              | false =>
                rw [z1] at q
                exact iteT (q _ e)
              | true =>
                rw [z1] at q
                refine iteF ⟨_, rfl, 1, rfl, p, _, -1, v2, rfl, rfl, SqT.of hp2, atI_last [.str "turn", v1] v2, v2, t2, 1, rfl, h2, leastB 1 t2, rfl, ?_⟩
                cases z2 : leastB 1 t2 with
                | false =>
                  rw [z2] at q
                  exact iteT (q _ e)
                | true =>
                  rw [z2] at q
                  exact iteF ⟨_, rfl, rfl, true, by decide +kernel, iteT (q _ e)⟩
          · rw [step_len (by rwa [if_pos rfl])] at q
            exact ⟨true, congrArg V.bl (by rw [dV', decide_eq_false (by rw [List.length_cons]; omega)]; rfl), iteT (q _ e)⟩
        · rw [z] at g
          refine ⟨_, rfl, _, rfl, d, _, rfl, g, false, rfl, iteF ?_⟩
          have nt : s ≠ "turn" := by
            rcases sw with rfl | rfl | rfl | rfl <;> decide +kernel
          refine ⟨_, rfl, p, _, rfl, .inr (SqT.of hp2), _, rfl, _, rfl, d, .int 5, rfl, g, rfl, ?_⟩
          by_cases le : ts.length = 4
          · obtain ⟨v1, v2, v3, v4, t1, t2, t3, t4, rfl, rfl, h1, h2, h3, h4⟩ := paired4 hts le
            · have h1 := h1.same e
              have h2 := h2.same e
              have h3 := h3.same e
              have h4 := h4.same e
              refine ⟨false, rfl, iteF ?_⟩
              have bad : (sheetB t1 && leastB 1 t4) = false → stepB [.str s, t1, t2, t3, t4] = false := fun zb => by
                rcases sw with rfl | rfl | rfl | rfl
                · rw [step_saw, zb, Bool.false_and]
                · rw [step_split, zb, Bool.false_and]
                · rw [step_glue, zb, Bool.false_and]
                · rw [step_stack, zb, Bool.false_and]
              refine ⟨_, rfl, p, _, 1, v1, rfl, rfl, SqT.of hp2, atI_nat (j := 1) rfl, v1, t1, rfl, h1, sheetB t1, rfl, ?_⟩
              cases z1 : sheetB t1 with
              | false =>
                rw [bad (by rw [z1, Bool.false_and])] at q
                exact iteT (q _ e)
              | true =>
                refine iteF ⟨_, rfl, 1, rfl, p, _, -1, v4, rfl, rfl, SqT.of hp2, atI_last [.str s, v1, v2, v3] v4, v4, t4, 1, rfl, h4, leastB 1 t4, rfl, ?_⟩
                cases z2 : leastB 1 t4 with
                | false =>
                  rw [bad (by rw [z2, Bool.and_false])] at q
                  exact iteT (q _ e)
                | true =>
                  refine iteF ⟨_, rfl, rfl, false, congrArg V.bl (decide_eq_false fun z => nt (V.str.inj z)), iteF ?_⟩
                  rcases sw with rfl | rfl | rfl | rfl
                  · refine ⟨_, rfl, rfl, false, by decide +kernel, iteF ⟨_, rfl, p, _, 2, v2, rfl, rfl, SqT.of hp2, atI_nat (j := 2) rfl, ?_⟩⟩
                    rw [step_saw, z1, z2] at q
                    cases t2 with
                    | int n =>
                      cases (show v2 = .int n from h2)
                      exact ⟨_, rfl, .int n, .ty "str", _, _, false, rfl, ClsV.ty _, TyX.base (TyOf.int _), kit_ty (by decide +kernel), false, rfl, iteT (q _ e)⟩
                    | non =>
                      cases (show v2 = .non from h2)
                      exact ⟨_, rfl, .non, .ty "str", _, _, false, rfl, ClsV.ty _, TyX.base (TyOf.non), kit_ty (by decide +kernel), false, rfl, iteT (q _ e)⟩
                    | pair a b =>
                      obtain ⟨r, rfl, h⟩ := h2
                      exact ⟨_, rfl, .ref r, .ty "str", _, _, false, rfl, ClsV.ty _, TyX.base (TyOf.tup h), kit_ty (by decide +kernel), false, rfl, iteT (q _ e)⟩
                    | sheet x =>
                      obtain ⟨r, rfl, u, u', h, _⟩ := h2
                      exact ⟨_, rfl, .ref r, .ty "str", _, _, false, rfl, ClsV.ty _, TyX.base (TyOf.tup h), kit_ty (by decide +kernel), false, rfl, iteT (q _ e)⟩
                    | str sd =>
                      cases (show v2 = .str sd from h2)
                      refine ⟨_, rfl, .str sd, .ty "str", _, _, true, rfl, ClsV.ty _, TyX.base (TyOf.str _), kit_ty (by decide +kernel), true, rfl, iteF ⟨_, rfl, by show 2 ≤ sizeLine; decide, fun t nt' => ⟨t, _, rfl, .inr (SqT.of upd_same), rfl, rfl, _, rfl, ?_⟩⟩⟩
                      have e3 := same_new (o := .tup [.str "across", .str "along"]) nt'
                      generalize upd H2 t (.tup [.str "across", .str "along"]) = H3 at e3 ⊢
                      have hp3 := e3 _ _ hp2
                      rw [inV_side]
                      cases z3 : sideB (.str sd) with
                      | false =>
                        rw [z3] at q
                        exact iteT (q _ (e.trans e3))
                      | true =>
                        rw [z3] at q
                        have hs : SideW sd := of_decide_eq_true z3
                        refine iteF ?_
                        refine ⟨_, rfl, rfl, false, by decide +kernel, iteF ⟨_, rfl, rfl, true, by decide +kernel, iteT ?_⟩⟩
                        exact ⟨_, rfl, p, _, 3, v3, rfl, rfl, SqT.of hp3, atI_nat (j := 3) rfl, v3, t3, rfl, h3.same e3, q _ (e.trans e3)⟩
                  · refine ⟨_, rfl, rfl, false, by decide +kernel, iteF ⟨_, rfl, p, _, 2, v2, rfl, rfl, SqT.of hp2, atI_nat (j := 2) rfl, ?_⟩⟩
                    rw [step_split, z1, z2] at q
                    cases t2 with
                    | int n =>
                      cases (show v2 = .int n from h2)
                      exact ⟨_, rfl, .int n, .ty "str", _, _, false, rfl, ClsV.ty _, TyX.base (TyOf.int _), kit_ty (by decide +kernel), false, rfl, iteT (q _ e)⟩
                    | non =>
                      cases (show v2 = .non from h2)
                      exact ⟨_, rfl, .non, .ty "str", _, _, false, rfl, ClsV.ty _, TyX.base (TyOf.non), kit_ty (by decide +kernel), false, rfl, iteT (q _ e)⟩
                    | pair a b =>
                      obtain ⟨r, rfl, h⟩ := h2
                      exact ⟨_, rfl, .ref r, .ty "str", _, _, false, rfl, ClsV.ty _, TyX.base (TyOf.tup h), kit_ty (by decide +kernel), false, rfl, iteT (q _ e)⟩
                    | sheet x =>
                      obtain ⟨r, rfl, u, u', h, _⟩ := h2
                      exact ⟨_, rfl, .ref r, .ty "str", _, _, false, rfl, ClsV.ty _, TyX.base (TyOf.tup h), kit_ty (by decide +kernel), false, rfl, iteT (q _ e)⟩
                    | str sd =>
                      cases (show v2 = .str sd from h2)
                      refine ⟨_, rfl, .str sd, .ty "str", _, _, true, rfl, ClsV.ty _, TyX.base (TyOf.str _), kit_ty (by decide +kernel), true, rfl, iteF ⟨_, rfl, by show 2 ≤ sizeLine; decide, fun t nt' => ⟨t, _, rfl, .inr (SqT.of upd_same), rfl, rfl, _, rfl, ?_⟩⟩⟩
                      have e3 := same_new (o := .tup [.str "across", .str "along"]) nt'
                      generalize upd H2 t (.tup [.str "across", .str "along"]) = H3 at e3 ⊢
                      have hp3 := e3 _ _ hp2
                      rw [inV_side]
                      cases z3 : sideB (.str sd) with
                      | false =>
                        rw [z3] at q
                        exact iteT (q _ (e.trans e3))
                      | true =>
                        rw [z3] at q
                        have hs : SideW sd := of_decide_eq_true z3
                        refine iteF ?_
                        refine ⟨_, rfl, rfl, false, by decide +kernel, iteF ⟨_, rfl, rfl, false, by decide +kernel, iteF ?_⟩⟩
                        refine ⟨_, rfl, p, _, 3, v3, rfl, rfl, SqT.of hp3, atI_nat (j := 3) rfl, v3, t3, 2, rfl, h3.same e3, leastB 2 t3, rfl, ?_⟩
                        cases z4 : leastB 2 t3 with
                        | false =>
                          rw [z4] at q
                          exact iteT (q _ (e.trans e3))
                        | true =>
                          rw [z4] at q
                          obtain ⟨x, rfl⟩ := fit_sheet z1
                          obtain ⟨px, rfl, hx⟩ := h1
                          refine iteF ⟨_, rfl, p, _, 1, .ref px, rfl, rfl, SqT.of hp3, atI_nat (j := 1) rfl, _, rfl, px, x, sd, rfl, hx.same e3, hs, fun r H4 e4 hr4 => ?_⟩
                          obtain ⟨n, rfl, hn⟩ := fit_pieces z4
                          cases (show v3 = .int n from h3)
                          have hp4 := e4 _ _ hp3
                          obtain ⟨c, rfl, hc⟩ := fit_copies z2
                          have q : Q (.bl (evenB x sd n)) H4 := q _ ((e.trans e3).trans e4)
                          unfold evenB at q
                          refine ⟨_, rfl, rfl, false, by decide +kernel, iteF ?_⟩
                          refine ⟨_, rfl, r, _, 0, .int _, rfl, rfl, SqT.of hr4, atI_nat (j := 0) rfl, _, rfl, p, _, 3, .int n, rfl, rfl, SqT.of hp4, atI_nat (j := 3) rfl, _, n, rfl, rfl, (show 0 < n by omega), rfl, _, rfl, ?_⟩
                          rw [dV']
                          cases z5 : decide ((sideOf x sd).1 % n = 0) with
                          | false =>
                            rw [z5, Bool.false_and] at q
                            exact iteF q
                          | true =>
                            rw [z5, Bool.true_and] at q
                            refine iteT ⟨_, rfl, r, _, 1, .int _, rfl, rfl, SqT.of hr4, atI_nat (j := 1) rfl, _, rfl, p, _, 3, .int n, rfl, rfl, SqT.of hp4, atI_nat (j := 3) rfl, _, n, rfl, rfl, (show 0 < n by omega), rfl, ?_⟩
                            rw [dV']
                            exact q
                  · refine ⟨_, rfl, rfl, true, by decide +kernel, iteT ⟨_, rfl, p, _, 3, v3, rfl, rfl, SqT.of hp2, atI_nat (j := 3) rfl, ?_⟩⟩
                    rw [step_glue, z1, z2] at q
                    cases t3 with
                    | int n =>
                      cases (show v3 = .int n from h3)
                      exact ⟨_, rfl, .int n, .ty "str", _, _, false, rfl, ClsV.ty _, TyX.base (TyOf.int _), kit_ty (by decide +kernel), false, rfl, iteT (q _ e)⟩
                    | non =>
                      cases (show v3 = .non from h3)
                      exact ⟨_, rfl, .non, .ty "str", _, _, false, rfl, ClsV.ty _, TyX.base (TyOf.non), kit_ty (by decide +kernel), false, rfl, iteT (q _ e)⟩
                    | pair a b =>
                      obtain ⟨r, rfl, h⟩ := h3
                      exact ⟨_, rfl, .ref r, .ty "str", _, _, false, rfl, ClsV.ty _, TyX.base (TyOf.tup h), kit_ty (by decide +kernel), false, rfl, iteT (q _ e)⟩
                    | sheet x =>
                      obtain ⟨r, rfl, u, u', h, _⟩ := h3
                      exact ⟨_, rfl, .ref r, .ty "str", _, _, false, rfl, ClsV.ty _, TyX.base (TyOf.tup h), kit_ty (by decide +kernel), false, rfl, iteT (q _ e)⟩
                    | str sd =>
                      cases (show v3 = .str sd from h3)
                      refine ⟨_, rfl, .str sd, .ty "str", _, _, true, rfl, ClsV.ty _, TyX.base (TyOf.str _), kit_ty (by decide +kernel), true, rfl, iteF ⟨_, rfl, by show 2 ≤ sizeLine; decide, fun t nt' => ⟨t, _, rfl, .inr (SqT.of upd_same), rfl, rfl, _, rfl, ?_⟩⟩⟩
                      have e3 := same_new (o := .tup [.str "across", .str "along"]) nt'
                      generalize upd H2 t (.tup [.str "across", .str "along"]) = H3 at e3 ⊢
                      have hp3 := e3 _ _ hp2
                      rw [inV_side]
                      cases z3 : sideB (.str sd) with
                      | false =>
                        rw [z3] at q
                        exact iteT (q _ (e.trans e3))
                      | true =>
                        rw [z3] at q
                        have hs : SideW sd := of_decide_eq_true z3
                        refine iteF ?_
                        refine ⟨_, rfl, rfl, true, by decide +kernel, iteT ?_⟩
                        rcases hs with rfl | rfl
                        · refine ⟨_, rfl, rfl, true, by decide +kernel, iteT ?_⟩
                          refine ⟨_, rfl, p, _, 2, v2, rfl, rfl, SqT.of hp3, atI_nat (j := 2) rfl, v2, t2, rfl, h2.same e3, sheetB t2, rfl, ?_⟩
                          cases z4 : sheetB t2 with
                          | false =>
                            rw [z4] at q
                            exact iteF (q _ (e.trans e3))
                          | true =>
                            rw [z4] at q
                            obtain ⟨x, rfl⟩ := fit_sheet z1
                            obtain ⟨px, rfl, hx⟩ := h1
                            obtain ⟨y, rfl⟩ := fit_sheet z4
                            obtain ⟨py, rfl, hy⟩ := h2
                            obtain ⟨c, rfl, hc⟩ := fit_copies z2
                            refine iteT ⟨_, rfl, p, _, 1, .ref px, rfl, rfl, SqT.of hp3, atI_nat (j := 1) rfl, _, rfl, px, x, "along", rfl, hx.same e3, .inr rfl, fun r H4 e4 hr4 => ⟨_, rfl, p, _, 2, .ref py, rfl, rfl, SqT.of (e4 _ _ hp3), atI_nat (j := 2) rfl, _, rfl, py, y, "along", rfl, (hy.same e3).same e4, .inr rfl, fun r2 H5 e5 hr5 => ⟨_, _, dpair (e5 _ _ hr4), dpair hr5, rfl, rfl, ?_⟩⟩⟩
                            have q : Q (.bl (glueB x y "across")) H5 := q _ (((e.trans e3).trans e4).trans e5)
                            rw [pair_eqv]
                            exact q
                        · refine ⟨_, rfl, rfl, false, by decide +kernel, iteF ?_⟩
                          refine ⟨_, rfl, p, _, 2, v2, rfl, rfl, SqT.of hp3, atI_nat (j := 2) rfl, v2, t2, rfl, h2.same e3, sheetB t2, rfl, ?_⟩
                          cases z4 : sheetB t2 with
                          | false =>
                            rw [z4] at q
                            exact iteF (q _ (e.trans e3))
                          | true =>
                            rw [z4] at q
                            obtain ⟨x, rfl⟩ := fit_sheet z1
                            obtain ⟨px, rfl, hx⟩ := h1
                            obtain ⟨y, rfl⟩ := fit_sheet z4
                            obtain ⟨py, rfl, hy⟩ := h2
                            obtain ⟨c, rfl, hc⟩ := fit_copies z2
                            refine iteT ⟨_, rfl, p, _, 1, .ref px, rfl, rfl, SqT.of hp3, atI_nat (j := 1) rfl, _, rfl, px, x, "across", rfl, hx.same e3, .inl rfl, fun r H4 e4 hr4 => ⟨_, rfl, p, _, 2, .ref py, rfl, rfl, SqT.of (e4 _ _ hp3), atI_nat (j := 2) rfl, _, rfl, py, y, "across", rfl, (hy.same e3).same e4, .inl rfl, fun r2 H5 e5 hr5 => ⟨_, _, dpair (e5 _ _ hr4), dpair hr5, rfl, rfl, ?_⟩⟩⟩
                            have q : Q (.bl (glueB x y "along")) H5 := q _ (((e.trans e3).trans e4).trans e5)
                            rw [pair_eqv]
                            exact q
                  · refine ⟨_, rfl, rfl, false, by decide +kernel, iteF ⟨_, rfl, p, _, 2, v2, rfl, rfl, SqT.of hp2, atI_nat (j := 2) rfl, ?_⟩⟩
                    rw [step_stack, z1, z2] at q
                    cases t2 with
                    | int n =>
                      cases (show v2 = .int n from h2)
                      exact ⟨_, rfl, .int n, .ty "str", _, _, false, rfl, ClsV.ty _, TyX.base (TyOf.int _), kit_ty (by decide +kernel), false, rfl, iteT (q _ e)⟩
                    | non =>
                      cases (show v2 = .non from h2)
                      exact ⟨_, rfl, .non, .ty "str", _, _, false, rfl, ClsV.ty _, TyX.base (TyOf.non), kit_ty (by decide +kernel), false, rfl, iteT (q _ e)⟩
                    | pair a b =>
                      obtain ⟨r, rfl, h⟩ := h2
                      exact ⟨_, rfl, .ref r, .ty "str", _, _, false, rfl, ClsV.ty _, TyX.base (TyOf.tup h), kit_ty (by decide +kernel), false, rfl, iteT (q _ e)⟩
                    | sheet x =>
                      obtain ⟨r, rfl, u, u', h, _⟩ := h2
                      exact ⟨_, rfl, .ref r, .ty "str", _, _, false, rfl, ClsV.ty _, TyX.base (TyOf.tup h), kit_ty (by decide +kernel), false, rfl, iteT (q _ e)⟩
                    | str sd =>
                      cases (show v2 = .str sd from h2)
                      refine ⟨_, rfl, .str sd, .ty "str", _, _, true, rfl, ClsV.ty _, TyX.base (TyOf.str _), kit_ty (by decide +kernel), true, rfl, iteF ⟨_, rfl, by show 2 ≤ sizeLine; decide, fun t nt' => ⟨t, _, rfl, .inr (SqT.of upd_same), rfl, rfl, _, rfl, ?_⟩⟩⟩
                      have e3 := same_new (o := .tup [.str "across", .str "along"]) nt'
                      generalize upd H2 t (.tup [.str "across", .str "along"]) = H3 at e3 ⊢
                      have hp3 := e3 _ _ hp2
                      rw [inV_side]
                      cases z3 : sideB (.str sd) with
                      | false =>
                        rw [z3] at q
                        exact iteT (q _ (e.trans e3))
                      | true =>
                        rw [z3] at q
                        have hs : SideW sd := of_decide_eq_true z3
                        refine iteF ?_
                        refine ⟨_, rfl, rfl, false, by decide +kernel, iteF ⟨_, rfl, rfl, false, by decide +kernel, iteF ?_⟩⟩
                        refine ⟨_, rfl, p, _, 3, v3, rfl, rfl, SqT.of hp3, atI_nat (j := 3) rfl, v3, t3, 2, rfl, h3.same e3, leastB 2 t3, rfl, ?_⟩
                        cases z4 : leastB 2 t3 with
                        | false =>
                          rw [z4] at q
                          exact iteT (q _ (e.trans e3))
                        | true =>
                          rw [z4] at q
                          obtain ⟨x, rfl⟩ := fit_sheet z1
                          obtain ⟨px, rfl, hx⟩ := h1
                          refine iteF ⟨_, rfl, p, _, 1, .ref px, rfl, rfl, SqT.of hp3, atI_nat (j := 1) rfl, _, rfl, px, x, sd, rfl, hx.same e3, hs, fun r H4 e4 hr4 => ?_⟩
                          exact ⟨_, rfl, rfl, true, by decide +kernel, iteT (q _ ((e.trans e3).trans e4))⟩
          · rw [step_len (by rwa [if_neg nt])] at q
            exact ⟨true, congrArg V.bl (by rw [dV', decide_eq_false (by rw [List.length_cons]; omega)]; rfl), iteT (q _ e)⟩
end
/-! ### steps that are drawn -/
def Sm (x : Int) : Prop := x.natAbs ≤ 10 ^ 6
theorem w100 {x : Int} (h : x.natAbs < 2 ^ 100) : x.natAbs < 2 ^ 9000 := Nat.lt_of_lt_of_le h (Nat.pow_le_pow_right (by decide) (by decide))
theorem Sm.w {x : Int} (h : Sm x) : x.natAbs < 2 ^ 9000 := w100 (Nat.lt_of_le_of_lt h (by decide))
theorem IsRoot.sm {d : Int} (h : IsRoot d) : d.natAbs < 2 ^ 64 := by
  obtain ⟨h1, h2, _⟩ := h
  exact Nat.lt_of_le_of_lt (show d.natAbs ≤ 99 by omega) (by decide)
theorem Sm.b {x : Int} (h : Sm x) : x.natAbs < 10 ^ 20 := Nat.lt_of_le_of_lt h (by decide)
theorem Sm.mul {x y : Int} (h : Sm x) (k : Sm y) : (x * y).natAbs < 10 ^ 20 := by
  rw [Int.natAbs_mul]
  exact Nat.lt_of_le_of_lt (Nat.mul_le_mul h k) (by decide)
/-- numbers of at most twenty digits -/
def It20 : Itm → Prop
  | .int n => n.natAbs < 10 ^ 20
  | .pair a b => a.natAbs < 10 ^ 20 ∧ b.natAbs < 10 ^ 20
  | .sheet x => Small20 x
  | _ => True
def B20 : List Itm → Prop
  | [] => True
  | t :: ts => It20 t ∧ B20 ts
theorem head_w {s : Str} {ts : List Itm} (h : s ∈ words) : Headed (.str s :: ts) := fun s' r e => by
  cases e
  exact h
theorem with_small {x : Sh} {s : Str} {a b : Int} (hx : Small20 x) (ha : a.natAbs < 10 ^ 20) (hb : b.natAbs < 10 ^ 20) : Small20 (if s = "across" then (a, b, x.2.2.1, x.2.2.2) else (x.1, x.2.1, a, b)) := by
  split
  · exact ⟨ha, hb, hx.2.2⟩
  · exact ⟨hx.1, hx.2.1, ha, hb⟩
section
variable {base : Heap} {K : PySem.W.Frag} {mg : Str → Option Value} {P : Program} {w : World}
def spLen9 : Sp := fun vs H Q _ => ∃ (b sb : Addr) (d : Int), vs = [.ref b, .int d] ∧ Bag H b sb ∧ IsRoot d ∧ ∀ x y p H', Sm x → Sm y → p ≠ b → H' p = some (.tup [.int x, .int y]) → Bag H' b sb → Keep b H H' → Q (.ref p) H'
theorem ok_a_length (T : Txt K mg) : FnOk P w K mg base CX0 4 T.f_a_length T.d_a_length ["_law_bag", "_law_root"] spLen9 := by
  refine T.F_a_length.ok sc_a_length (fun vs H Q E h => ?_) (fun cdv A outer s H vs Q E hr h => ?_)
  · obtain ⟨b, sb, d, rfl, _⟩ := h
    rfl
  · obtain ⟨b, sb, d, rfl, B, hd, q⟩ := h
    refine ⟨_, (pss_cons (ps_set (i := 2) sc_a_length.nd rfl (Or.inl rfl) (pe_call (ok_any_pair T) (hr.mono (by decide)) (by rfl) T.g_any_pair T.F_any_pair.kp T.b_any_pair .nil pass0 (pa_cons (pv 0) pa_nil)))
      (pss_cons (ps_if (pt_cmpR op_eq (pe_call (ok_lsign T) (hr.mono (by decide)) (by rfl) T.g_lsign T.F_lsign.kp T.b_lsign .nil pass0 (pa_cons (pv 2) (pa_cons (pv 1) pa_nil))) pe_int (nomark _)) (pss_one (ps_ret (pe_tup (pa_cons (pe_op op_add pe_int (pe_call (ok_pull T) (hr.mono (by decide)) (by rfl) T.g_pull T.F_pull.kp T.b_pull .nil pass0 (pa_cons (pv 0) (pa_cons pe_int pa_nil)))) (pa_cons pe_int pa_nil))))) pss_nil)
      (pss_one (ps_ret (pe_ifExp (pt_cmpR op_gt (pe_call (ok_lsign T) (hr.mono (by decide)) (by rfl) T.g_lsign T.F_lsign.kp T.b_lsign .nil pass0 (pa_cons (pv 2) (pa_cons (pv 1) pa_nil))) pe_int (nomark _)) (pv 2) (pe_tup (pa_cons (pe_op op_sub pe_int (pe_ix ix_tup (pv 2) pe_int (fun _ _ => rfl))) (pa_cons (pe_op op_sub pe_int (pe_ix ix_tup (pv 2) pe_int (fun _ _ => rfl))) pa_nil)))))))), ?_⟩
    refine ⟨.ref b, rfl, b, sb, rfl, B, fun x y p H1 a1 a2 a3 a4 n1 h1 B1 k1 => ?_⟩
    have bx : Sm x := by unfold Sm; omega
    have bY : Sm y := by unfold Sm; omega
    have np := B.ne n1
    refine ⟨.ref p, rfl, .int d, rfl, p, d, x, y, rfl, SqT.of h1, hd.sm, bx.w, bY.w, rfl, ?_⟩
    by_cases z : sgnI (vl x y d) = 0
    · refine ⟨true, congrArg V.bl (by rw [dV', decide_eq_true z]), iteT ⟨.ref b, rfl, b, sb, 9, rfl, B1, by decide, by decide, fun n H2 z0 z1 B2 k2 => ⟨1, n, rfl, rfl, by show 2 ≤ sizeLine; decide, fun p2 hp2 => ?_⟩⟩⟩
      exact q _ _ p2 _ (by unfold Sm; omega) (by unfold Sm; decide) (B2.ne hp2) upd_same (B2.new hp2) (k1.trans (k2.trans (keep_new hp2)))
    · refine ⟨false, congrArg V.bl (by rw [dV', decide_eq_false z]), iteF ⟨.ref p, rfl, .int d, rfl, p, d, x, y, rfl, SqT.of h1, hd.sm, bx.w, bY.w, ?_⟩⟩
      by_cases z2 : 0 < sgnI (vl x y d)
      · exact ⟨_, 0, rfl, rfl, true, congrArg V.bl (decide_eq_true z2), iteT ⟨_, rfl, q x y p H1 bx bY np h1 B1 k1⟩⟩
      · refine ⟨_, 0, rfl, rfl, false, congrArg V.bl (decide_eq_false z2), iteF ⟨_, rfl, p, _, 0, .int x, rfl, rfl, SqT.of h1, atI_nat (j := 0) rfl, 0, x, rfl, rfl, _, rfl, p, _, 1, .int y, rfl, rfl, SqT.of h1, atI_nat (j := 1) rfl, 0, y, rfl, rfl, by show 2 ≤ sizeLine; decide, fun p2 hp2 => ?_⟩⟩
        exact q (0 - x) (0 - y) p2 _ (by unfold Sm at *; omega) (by unfold Sm at *; omega) (B1.ne hp2) upd_same (B1.new hp2) (k1.trans (keep_new hp2))
def SmS (x : Sh) : Prop := (Sm x.1 ∧ Sm x.2.1) ∧ Sm x.2.2.1 ∧ Sm x.2.2.2
theorem SmS.b {x : Sh} (h : SmS x) : Small20 x := ⟨h.1.1.b, h.1.2.b, h.2.1.b, h.2.2.b⟩
theorem SmS.side {x : Sh} (h : SmS x) (s : Str) : Sm (sideOf x s).1 ∧ Sm (sideOf x s).2 := by
  unfold sideOf
  split
  · exact h.1
  · exact h.2
def spSheet9 : Sp := fun vs H Q _ => ∃ (b sb : Addr) (d : Int), vs = [.ref b, .int d] ∧ Bag H b sb ∧ IsRoot d ∧ ∀ x p H', SmS x → ShAt H' p x → Bag H' b sb → Keep b H H' → Q (.ref p) H'
theorem ok_a_sheet (T : Txt K mg) : FnOk P w K mg base CX0 5 T.f_a_sheet T.d_a_sheet ["_law_bag", "_law_root"] spSheet9 := by
  refine T.F_a_sheet.ok sc_a_sheet (fun vs H Q E h => ?_) (fun cdv A outer s H vs Q E hr h => ?_)
  · obtain ⟨b, sb, d, rfl, _⟩ := h
    rfl
  · obtain ⟨b, sb, d, rfl, B, hd, q⟩ := h
    refine ⟨_, (pss_cons (ps_set (i := 2) sc_a_sheet.nd rfl (Or.inl rfl) (pe_call (ok_a_length T) (hr.mono (by decide)) (by rfl) T.g_a_length T.F_a_length.kp T.b_a_length .nil pass0 (pa_cons (pv 0) (pa_cons (pv 1) pa_nil))))
      (pss_one (ps_ret (pe_tup (pa_cons (pv 2) (pa_cons (pe_call (ok_of T) (hr.mono (by decide)) (by rfl) T.g_of T.F_of.kp T.b_of .nil pass0 (pa_cons (pv 0) (pa_cons (pe_lst (pa_cons (pe_call (ok_a_length T) (hr.mono (by decide)) (by rfl) T.g_a_length T.F_a_length.kp T.b_a_length .nil pass0 (pa_cons (pv 0) (pa_cons (pv 1) pa_nil))) (pa_cons (pe_call (ok_a_length T) (hr.mono (by decide)) (by rfl) T.g_a_length T.F_a_length.kp T.b_a_length .nil pass0 (pa_cons (pv 0) (pa_cons (pv 1) pa_nil))) (pa_cons (pe_call (ok_a_length T) (hr.mono (by decide)) (by rfl) T.g_a_length T.F_a_length.kp T.b_a_length .nil pass0 (pa_cons (pv 0) (pa_cons (pv 1) pa_nil))) (pa_cons (pv 2) pa_nil))))) pa_nil))) pa_nil)))))), ?_⟩
    refine ⟨.ref b, rfl, .int d, rfl, b, sb, d, rfl, B, hd, fun x y p H1 l1 l1' n1 h1 B1 k1 => ?_⟩
    refine ⟨.ref p, rfl, .ref b, rfl, .ref b, rfl, .int d, rfl, b, sb, d, rfl, B1, hd, fun x2 y2 p2 H2 l2 l2' n2 h2 B2 k2 => ?_⟩
    refine ⟨.ref b, rfl, .int d, rfl, b, sb, d, rfl, B2, hd, fun x3 y3 p3 H3 l3 l3' n3 h3 B3 k3 => ?_⟩
    refine ⟨.ref b, rfl, .int d, rfl, b, sb, d, rfl, B3, hd, fun x4 y4 p4 H4 l4 l4' n4 h4 B4 k4 => ?_⟩
    refine ⟨.ref p, rfl, by show 4 ≤ sizeLine; decide, fun l hl => ?_⟩
    refine ⟨b, sb, l, _, rfl, B4.new hl, upd_same, B4.ne hl, by simp, by simp, fun i v H5 hv B5 k5 => ⟨by show 2 ≤ sizeLine; decide, fun t ht => ?_⟩⟩
    have k45 : Keep b H4 H5 := (keep_new hl).trans k5
    have kk := k1.trans (k2.trans (k3.trans (k4.trans k45)))
    have e := same_new (o := .tup [.ref p, v]) ht
    have g1 := e _ _ ((k2.trans (k3.trans (k4.trans k45))) _ _ n1 h1)
    have fin : ∀ (x' y' : Int) (p' : Addr), v = .ref p' → Sm x' → Sm y' → H5 p' = some (.tup [.int x', .int y']) → Q (.ref t) (upd H5 t (.tup [.ref p, v])) := by
      rintro x' y' p' rfl m1 m2 h'
      exact q (x, y, x', y') t _ ⟨⟨l1, l1'⟩, m1, m2⟩ ⟨p, p', upd_same, g1, e _ _ h'⟩ (B5.same e) (kk.trans (keep_of e))
    match i, hv with
    | 0, hv => cases hv; exact fin x2 y2 p2 rfl l2 l2' ((k3.trans (k4.trans k45)) _ _ n2 h2)
    | 1, hv => cases hv; exact fin x3 y3 p3 rfl l3 l3' ((k4.trans k45) _ _ n3 h3)
    | 2, hv => cases hv; exact fin x4 y4 p4 rfl l4 l4' (k45 _ _ n4 h4)
    | 3, hv => cases hv; exact fin x y p rfl l1 l1' ((k2.trans (k3.trans (k4.trans k45))) _ _ n1 h1)
    | n + 4, hv => simp at hv
def spLScaled : Sp := fun vs H Q _ => ∃ (r : Addr) (a b n : Int), vs = [.ref r, .int n] ∧ H r = some (.tup [.int a, .int b]) ∧ Sm n ∧ ∀ q H', H q = none → Same H H' → H' q = some (.tup [.int (a * n), .int (b * n)]) → Q (.ref q) H'
theorem ok_lscaled (T : Txt K mg) : FnOk P w K mg base CX0 1 T.f_lscaled T.d_lscaled ["_law_pair", "_law_number"] spLScaled := by
  refine T.F_lscaled.ok sc_lscaled (fun vs H Q E h => ?_) (fun cdv A outer s H vs Q E hr h => ?_)
  · obtain ⟨r, a, b, n, rfl, _⟩ := h
    rfl
  · obtain ⟨r, a, b, n, rfl, h, hn, q⟩ := h
    refine ⟨_, (pss_one (ps_ret (pe_tup (pa_cons (pe_op op_mul (pe_ix ix_tup (pv 0) pe_int (fun _ _ => rfl)) (pv 1)) (pa_cons (pe_op op_mul (pe_ix ix_tup (pv 0) pe_int (fun _ _ => rfl)) (pv 1)) pa_nil))))), ?_⟩
    unfold Sm at hn
    have m : -(2 ^ 64) < n ∧ n < 2 ^ 64 := ⟨by omega, by omega⟩
    refine ⟨_, rfl, r, _, 0, .int a, rfl, rfl, SqT.of h, atI_nat (j := 0) rfl, _, rfl, a, n, rfl, rfl, .inr m, _, rfl, r, _, 1, .int b, rfl, rfl, SqT.of h, atI_nat (j := 1) rfl, _, rfl, b, n, rfl, rfl, .inr m, by show 2 ≤ sizeLine; decide, fun t nt => ?_⟩
    exact q t _ nt (same_new nt) upd_same
theorem items_same {H H' : Hp} (s : Same H H') {vs : List V} {ts : List Itm} (h : Paired (ItAt H) vs ts) : Paired (ItAt H') vs ts := by
  induction h with
  | nil => exact .nil
  | cons r _ ih => exact .cons (r.same s) ih
theorem ShAt.keep {H H' : Hp} {b sb p : Addr} {x : Sh} (h : ShAt H p x) (B : Bag H b sb) (k : Keep b H H') : ShAt H' p x := h.mono (tup_keep B k)
def spAnyStep : Sp := fun vs H Q _ => ∃ (b sb : Addr) (d : Int), vs = [.ref b, .int d] ∧ Bag H b sb ∧ IsRoot d ∧ ∀ p ts H', 0 < ts.length → ts.length ≤ 5 → Headed ts → B20 ts → StepAt H' p ts → Bag H' b sb → Keep b H H' → Q (.ref p) H'
theorem ok_any_step (T : Txt K mg) : FnOk P w K mg base CX0 6 T.f_any_step T.d_any_step ["_law_bag", "_law_root"] spAnyStep := by
  refine T.F_any_step.ok sc_any_step (fun vs H Q E h => ?_) (fun cdv A outer s H vs Q E hr h => ?_)
  · obtain ⟨b, sb, d, rfl, _⟩ := h
    rfl
  · obtain ⟨b, sb, d, rfl, B, hd, q⟩ := h
    refine ⟨_, (pss_cons (ps_par3 (i := 2) (j := 3) (l := 4) (by rfl) sc_any_step.nd rfl rfl rfl (by decide) (by decide) (by decide) rfl rfl rfl (pa_cons (pe_call (ok_a_sheet T) (hr.mono (by decide)) (by rfl) T.g_a_sheet T.F_a_sheet.kp T.b_a_sheet .nil pass0 (pa_cons (pv 0) (pa_cons (pv 1) pa_nil))) (pa_cons (pe_call (ok_of T) (hr.mono (by decide)) (by rfl) T.g_of T.F_of.kp T.b_of .nil pass0 (pa_cons (pv 0) (pa_cons (pe_lst (pa_cons pe_str (pa_cons pe_str pa_nil))) pa_nil))) (pa_cons (pe_call (ok_of T) (hr.mono (by decide)) (by rfl) T.g_of T.F_of.kp T.b_of .nil pass0 (pa_cons (pv 0) (pa_cons (pe_lst (pa_cons pe_int (pa_cons pe_int (pa_cons pe_int pa_nil)))) pa_nil))) pa_nil))) (by rfl))
      (pss_cons (ps_par (i := 5) (j := 6) (by rfl) sc_any_step.nd rfl rfl (by decide) rfl rfl (pa_cons (pe_call (ok_pull T) (hr.mono (by decide)) (by rfl) T.g_pull T.F_pull.kp T.b_pull .nil pass0 (pa_cons (pv 0) (pa_cons pe_int pa_nil))) (pa_cons (pe_call (ok_a_sheet T) (hr.mono (by decide)) (by rfl) T.g_a_sheet T.F_a_sheet.kp T.b_a_sheet .nil pass0 (pa_cons (pv 0) (pa_cons (pv 1) pa_nil))) pa_nil)) (by rfl))
      (pss_cons (ps_if (pt_cmpR op_eq (pv 5) pe_int (nomark _)) (pss_one (ps_ret (pe_tup (pa_cons pe_str (pa_cons (pv 2) (pa_cons (pv 3) (pa_cons (pe_call (ok_of T) (hr.mono (by decide)) (by rfl) T.g_of T.F_of.kp T.b_of .nil pass0 (pa_cons (pv 0) (pa_cons (pe_lst (pa_cons (pe_call (ok_any_pair T) (hr.mono (by decide)) (by rfl) T.g_any_pair T.F_any_pair.kp T.b_any_pair .nil pass0 (pa_cons (pv 0) pa_nil)) (pa_cons (pe_ix ix_tup (pv 6) pe_int (fun _ _ => rfl)) pa_nil))) pa_nil))) (pa_cons (pv 4) pa_nil)))))))) pss_nil)
      (pss_cons (ps_if (pt_cmpR op_eq (pv 5) pe_int (nomark _)) (pss_cons (ps_set (i := 7) sc_any_step.nd rfl (Or.inl rfl) (pe_op op_add pe_int (pe_call (ok_pull T) (hr.mono (by decide)) (by rfl) T.g_pull T.F_pull.kp T.b_pull .nil pass0 (pa_cons (pv 0) (pa_cons pe_int pa_nil)))))
      (pss_cons (ps_set (i := 8) sc_any_step.nd rfl (Or.inl rfl) (pe_call (ok_lscaled T) (hr.mono (by decide)) (by rfl) T.g_lscaled T.F_lscaled.kp T.b_lscaled .nil pass0 (pa_cons (pe_call (ok_lside_of T) (hr.mono (by decide)) (by rfl) T.g_lside_of T.F_lside_of.kp T.b_lside_of .nil pass0 (pa_cons (pv 2) (pa_cons (pv 3) pa_nil))) (pa_cons (pe_call (ok_of T) (hr.mono (by decide)) (by rfl) T.g_of T.F_of.kp T.b_of .nil pass0 (pa_cons (pv 0) (pa_cons (pe_lst (pa_cons (pv 7) (pa_cons pe_int pa_nil))) pa_nil))) pa_nil))))
      (pss_one (ps_ret (pe_tup (pa_cons pe_str (pa_cons (pe_call (ok_with T) (hr.mono (by decide)) (by rfl) T.g_with T.F_with.kp T.b_with .nil pass0 (pa_cons (pv 2) (pa_cons (pv 3) (pa_cons (pv 8) pa_nil)))) (pa_cons (pv 3) (pa_cons (pv 7) (pa_cons (pv 4) pa_nil)))))))))) pss_nil)
      (pss_cons (ps_if (pt_cmpR op_eq (pv 5) pe_int (nomark _)) (pss_cons (ps_set (i := 6) sc_any_step.nd rfl (Or.inl rfl) (pe_call (ok_of T) (hr.mono (by decide)) (by rfl) T.g_of T.F_of.kp T.b_of .nil pass0 (pa_cons (pv 0) (pa_cons (pe_lst (pa_cons (pe_call (ok_with T) (hr.mono (by decide)) (by rfl) T.g_with T.F_with.kp T.b_with .nil pass0 (pa_cons (pv 2) (pa_cons (pv 3) (pa_cons (pe_call (ok_lside_of T) (hr.mono (by decide)) (by rfl) T.g_lside_of T.F_lside_of.kp T.b_lside_of .nil pass0 (pa_cons (pv 6) (pa_cons (pv 3) pa_nil))) pa_nil)))) (pa_cons (pv 6) pa_nil))) pa_nil))))
      (pss_one (ps_ret (pe_tup (pa_cons pe_str (pa_cons (pv 2) (pa_cons (pv 6) (pa_cons (pv 3) (pa_cons (pv 4) pa_nil))))))))) pss_nil)
      (pss_cons (ps_if (pt_cmpR op_eq (pv 5) pe_int (nomark _)) (pss_one (ps_ret (pe_tup (pa_cons pe_str (pa_cons (pv 2) (pa_cons (pv 3) (pa_cons (pe_op op_add pe_int (pe_call (ok_pull T) (hr.mono (by decide)) (by rfl) T.g_pull T.F_pull.kp T.b_pull .nil pass0 (pa_cons (pv 0) (pa_cons pe_int pa_nil)))) (pa_cons (pv 4) pa_nil)))))))) pss_nil)
      (pss_one (ps_ret (pe_tup (pa_cons pe_str (pa_cons (pv 2) (pa_cons (pv 4) pa_nil)))))))))))), ?_⟩
    refine ⟨.ref b, rfl, .int d, rfl, b, sb, d, rfl, B, hd, fun x px H1 m1 hx B1 k1 => ?_⟩
    refine ⟨.ref b, rfl, by show 2 ≤ sizeLine; decide, fun l hl => ⟨b, sb, l, _, rfl, B1.new hl, upd_same, B1.ne hl, by simp, by simp, fun i v H2 hv B2 k2 => ?_⟩⟩
    obtain ⟨sd, rfl, hs⟩ : ∃ sd, v = .str sd ∧ SideW sd := by
      match i, hv with
      | 0, hv => cases hv; exact ⟨_, rfl, .inl rfl⟩
      | 1, hv => cases hv; exact ⟨_, rfl, .inr rfl⟩
      | n + 2, hv => simp at hv
    refine ⟨.ref b, rfl, by show 3 ≤ sizeLine; decide, fun l2 hl2 => ⟨b, sb, l2, _, rfl, B2.new hl2, upd_same, B2.ne hl2, by simp, by simp, fun i v H3 hv B3 k3 => ?_⟩⟩
    obtain ⟨c, rfl, hc⟩ : ∃ c : Int, v = .int c ∧ c.natAbs < 10 ^ 20 := by
      match i, hv with
      | 0, hv => cases hv; exact ⟨_, rfl, by decide⟩
      | 1, hv => cases hv; exact ⟨_, rfl, by decide⟩
      | 2, hv => cases hv; exact ⟨_, rfl, by decide⟩
      | n + 3, hv => simp at hv
    refine ⟨_, _, _, rfl, ?_⟩
    refine ⟨.ref b, rfl, b, sb, 5, rfl, B3, by decide, by decide, fun wy H4 w0 w1 B4 k4 => ?_⟩
    refine ⟨.ref b, rfl, .int d, rfl, b, sb, d, rfl, B4, hd, fun y py H5 m5 hy B5 k5 => ?_⟩
    refine ⟨_, _, rfl, ?_⟩
    have k15 : Keep b H1 H5 := (keep_new hl).trans (k2.trans ((keep_new hl2).trans (k3.trans (k4.trans k5))))
    have kk := k1.trans k15
    have hx5 := hx.keep B1 k15
    have fin : ∀ (H6 : Hp) (t : Addr) (vs : List V) (ts : List Itm), Bag H6 b sb → Keep b H5 H6 → H6 t = none → Paired (ItAt H6) vs ts → 0 < ts.length → ts.length ≤ 5 → Headed ts → B20 ts → Q (.ref t) (upd H6 t (.tup vs)) := fun H6 t vs ts B6 k6 ht hts l0 l5 hh hb =>
      q t ts _ l0 l5 hh hb ⟨vs, upd_same, items_same (same_new ht) hts⟩ (B6.new ht) ((kk.trans k6).trans (keep_new ht))
    by_cases y0 : wy = 0
    · refine ⟨_, rfl, rfl, true, congrArg V.bl (by rw [dV', decide_eq_true y0]), iteT ?_⟩
      obtain ⟨u, u', g1, g2, g3⟩ := id hy
      refine ⟨_, rfl, _, rfl, .ref b, rfl, .ref b, rfl, b, sb, rfl, B5, fun a0 a1 p6 H6 c1 c2 c3 c4 n6 h6 B6 k6 => ?_⟩
      refine ⟨_, rfl, py, _, 0, .ref u, rfl, rfl, SqT.of (tup_keep B5 k6 _ _ g1), atI_nat (j := 0) rfl, by show 2 ≤ sizeLine; decide, fun l3 hl3 => ⟨b, sb, l3, _, rfl, B6.new hl3, upd_same, B6.ne hl3, by simp, by simp, fun i v H7 hv B7 k7 => ?_⟩⟩
      have k67 : Keep b H6 H7 := (keep_new hl3).trans k7
      have k57 := k6.trans k67
      obtain ⟨r, a0, a1, rfl, hr7, d0, d1⟩ : ∃ (r : Addr) (a0 a1 : Int), v = .ref r ∧ H7 r = some (.tup [.int a0, .int a1]) ∧ a0.natAbs < 10 ^ 20 ∧ a1.natAbs < 10 ^ 20 := by
        match i, hv with
        | 0, hv => cases hv; exact ⟨_, _, _, rfl, tup_keep B6 k67 _ _ h6, Nat.lt_of_le_of_lt (show a0.natAbs ≤ 10 ^ 6 by omega) (by decide), Nat.lt_of_le_of_lt (show a1.natAbs ≤ 10 ^ 6 by omega) (by decide)⟩
        | 1, hv => cases hv; exact ⟨_, _, _, rfl, tup_keep B5 k57 _ _ g2, m5.1.1.b, m5.1.2.b⟩
        | n + 2, hv => simp at hv
      refine ⟨_, rfl, by show 5 ≤ sizeLine; decide, fun t ht => ?_⟩
      exact fin H7 t _ [.str "saw", .sheet x, .str sd, .pair a0 a1, .int c] B7 k57 ht (.cons rfl (.cons ⟨px, rfl, hx5.keep B5 k57⟩ (.cons rfl (.cons ⟨r, rfl, hr7⟩ (.cons rfl .nil))))) (Nat.succ_pos _) (by simp) (head_w (by decide +kernel)) ⟨trivial, m1.b, trivial, ⟨d0, d1⟩, hc, trivial⟩
    refine ⟨_, rfl, rfl, false, congrArg V.bl (by rw [dV', decide_eq_false y0]), iteF ?_⟩
    by_cases y1 : wy = 1
    · refine ⟨_, rfl, rfl, true, congrArg V.bl (by rw [dV', decide_eq_true y1]), iteT ?_⟩
      refine ⟨.ref b, rfl, b, sb, 3, rfl, B5, by decide, by decide, fun z H6 z0 z1 B6 k6 => ⟨2, z, rfl, rfl, ?_⟩⟩
      refine ⟨_, rfl, _, rfl, px, x, sd, rfl, hx5.keep B5 k6, hs, fun r H7 e7 hr7 => ⟨.ref b, rfl, _, rfl, by show 2 ≤ sizeLine; decide, fun l3 hl3 => ⟨b, sb, l3, _, rfl, (B6.same e7).new hl3, upd_same, (B6.same e7).ne hl3, by simp, by simp, fun i v H8 hv B8 k8 => ?_⟩⟩⟩
      have k78 : Keep b H7 H8 := (keep_new hl3).trans k8
      have k58 : Keep b H5 H8 := k6.trans ((keep_of e7).trans k78)
      obtain ⟨n, rfl, hn⟩ : ∃ n : Int, v = .int n ∧ Sm n := by
        match i, hv with
        | 0, hv => cases hv; exact ⟨_, rfl, by unfold Sm; omega⟩
        | 1, hv => cases hv; exact ⟨_, rfl, by unfold Sm; decide⟩
        | n + 2, hv => simp at hv
      refine ⟨r, _, _, n, rfl, tup_keep (B6.same e7) k78 _ _ hr7, hn, fun q9 H9 n9 e9 h9 => ?_⟩
      have k59 : Keep b H5 H9 := k58.trans (keep_of e9)
      refine ⟨_, rfl, _, rfl, _, rfl, px, q9, x, sd, _, _, rfl, hx5.keep B5 k59, hs, h9, fun q10 H10 y10 n10 e10 h10 ey => ⟨_, rfl, _, rfl, _, rfl, by show 5 ≤ sizeLine; decide, fun t ht => ?_⟩⟩
      exact fin H10 t _ [.str "split", .sheet y10, .str sd, .int (2 + z), .int c] ((B8.same e9).same e10) (k59.trans (keep_of e10)) ht (.cons rfl (.cons ⟨q10, rfl, h10⟩ (.cons rfl (.cons rfl (.cons rfl .nil))))) (Nat.succ_pos _) (by simp) (head_w (by decide +kernel)) ⟨trivial, ey ▸ with_small m1.b ((m1.side sd).1.mul hn) ((m1.side sd).2.mul hn), trivial, (show (2 + z).natAbs < 10 ^ 20 by omega), hc, trivial⟩
    refine ⟨_, rfl, rfl, false, congrArg V.bl (by rw [dV', decide_eq_false y1]), iteF ?_⟩
    by_cases y2 : wy = 2
    · refine ⟨_, rfl, rfl, true, congrArg V.bl (by rw [dV', decide_eq_true y2]), iteT ?_⟩
      refine ⟨.ref b, rfl, _, rfl, _, rfl, _, rfl, _, rfl, py, y, sd, rfl, hy, hs, fun r H6 e6 hr6 => ⟨px, r, x, sd, _, _, rfl, hx5.same e6, hs, hr6, fun q7 H7 y7 n7 e7 h7 ey => ⟨_, rfl, by show 2 ≤ sizeLine; decide, fun l3 hl3 => ⟨b, sb, l3, _, rfl, ((B5.same e6).same e7).new hl3, upd_same, ((B5.same e6).same e7).ne hl3, by simp, by simp, fun i v H8 hv B8 k8 => ?_⟩⟩⟩⟩
      have k78 : Keep b H7 H8 := (keep_new hl3).trans k8
      have k58 : Keep b H5 H8 := (keep_of e6).trans ((keep_of e7).trans k78)
      obtain ⟨r2, z, rfl, hz, bz⟩ : ∃ (r2 : Addr) (z : Sh), v = .ref r2 ∧ ShAt H8 r2 z ∧ Small20 z := by
        match i, hv with
        | 0, hv => cases hv; exact ⟨_, _, rfl, h7.keep ((B5.same e6).same e7) k78, ey ▸ with_small m1.b (m5.side sd).1.b (m5.side sd).2.b⟩
        | 1, hv => cases hv; exact ⟨_, _, rfl, hy.keep B5 k58, m5.b⟩
        | n + 2, hv => simp at hv
      refine ⟨_, rfl, _, rfl, _, rfl, _, rfl, by show 5 ≤ sizeLine; decide, fun t ht => ?_⟩
      exact fin H8 t _ [.str "glue", .sheet x, .sheet z, .str sd, .int c] B8 k58 ht (.cons rfl (.cons ⟨px, rfl, hx5.keep B5 k58⟩ (.cons ⟨r2, rfl, hz⟩ (.cons rfl (.cons rfl .nil))))) (Nat.succ_pos _) (by simp) (head_w (by decide +kernel)) ⟨trivial, m1.b, bz, trivial, hc, trivial⟩
    refine ⟨_, rfl, rfl, false, congrArg V.bl (by rw [dV', decide_eq_false y2]), iteF ?_⟩
    by_cases y3 : wy = 3
    · refine ⟨_, rfl, rfl, true, congrArg V.bl (by rw [dV', decide_eq_true y3]), iteT ?_⟩
      refine ⟨_, rfl, _, rfl, .ref b, rfl, b, sb, 5, rfl, B5, by decide, by decide, fun z H6 z0 z1 B6 k6 => ⟨2, z, rfl, rfl, _, rfl, by show 5 ≤ sizeLine; decide, fun t ht => ?_⟩⟩
      exact fin H6 t _ [.str "stack", .sheet x, .str sd, .int (2 + z), .int c] B6 k6 ht (.cons rfl (.cons ⟨px, rfl, hx5.keep B5 k6⟩ (.cons rfl (.cons rfl (.cons rfl .nil))))) (Nat.succ_pos _) (by simp) (head_w (by decide +kernel)) ⟨trivial, m1.b, trivial, (show (2 + z).natAbs < 10 ^ 20 by omega), hc, trivial⟩
    · refine ⟨_, rfl, rfl, false, congrArg V.bl (by rw [dV', decide_eq_false y3]), iteF ?_⟩
      refine ⟨_, rfl, _, rfl, by show 3 ≤ sizeLine; decide, fun t ht => ?_⟩
      exact fin H5 t _ [.str "turn", .sheet x, .int c] B5 (Keep.refl _) ht (.cons rfl (.cons ⟨px, rfl, hx5⟩ (.cons rfl .nil))) (Nat.succ_pos _) (by simp) (head_w (by decide +kernel)) ⟨trivial, m1.b, hc, trivial⟩
end
/-! ### texts of sheets -/
abbrev rCS : R2 := fun x y H Q => ∃ i j, x = .str i ∧ y = .str j ∧ i.length + j.length ≤ sizeLine ∧ Q (.str (i ++ j)) H
abbrev rStrI : List V → Hp → VK → Prop := fun xs H Q => ∃ i : Int, xs = [.int i] ∧ i.natAbs.log2 < 1920 ∧ Q (.str (toString i)) H
def Sh64 (x : Sh) : Prop := x.1.natAbs < 10 ^ 64 ∧ x.2.1.natAbs < 10 ^ 64 ∧ x.2.2.1.natAbs < 10 ^ 64 ∧ x.2.2.2.natAbs < 10 ^ 64
theorem sheet_len {x : Sh} (h : Sh64 x) : (sheetT x).length ≤ 303 := by
  have p1 := pair_len h.1 h.2.1
  have p2 := pair_len h.2.2.1 h.2.2.2
  have e : (Str.ofString " x ").length = 3 := by decide +kernel
  unfold sheetT
  rw [Str.length_append, Str.length_append, e]
  omega
section
variable {base : Heap} {K : PySem.W.Frag} {mg : Str → Option Value} {P : Program} {w : World}
def spSheetT : Sp := fun vs H Q _ => ∃ (p : Addr) (x : Sh), vs = [.ref p] ∧ ShAt H p x ∧ Sh64 x ∧ ∀ H', Same H H' → Q (.str (sheetT x)) H'
theorem ok_sheet_text (T : Txt K mg) : FnOk P w K mg base CX0 4 T.f_sheet_text T.d_sheet_text ["sheet"] spSheetT := by
  refine T.F_sheet_text.ok sc_sheet_text (fun vs H Q E h => ?_) (fun cdv A outer s H vs Q E hr h => ?_)
  · obtain ⟨p, x, rfl, _⟩ := h
    rfl
  · obtain ⟨p, x, rfl, ⟨u, v, hp, hu, hv⟩, ⟨b1, b2, b3, b4⟩, q⟩ := h
    refine ⟨_, (pss_cons (ps_asg (pv 0) (pg_tup (by rfl) (pgs_cons (pg_name (i := 1) sc_sheet_text.nd rfl (Or.inl rfl)) (pgs_cons (pg_name (i := 2) sc_sheet_text.nd rfl (Or.inl rfl)) pgs_nil))))
      (pss_one (ps_ret (pe_joined (.cons (pe_fmt (pe_call (ok_pair_text T) (hr.mono (by decide)) (by rfl) T.g_pair_text T.F_pair_text.kp T.b_pair_text .nil pass0 (pa_cons (pv 1) pa_nil))) (.cons pe_str (.cons (pe_fmt (pe_call (ok_pair_text T) (hr.mono (by decide)) (by rfl) T.g_pair_text T.F_pair_text.kp T.b_pair_text .nil pass0 (pa_cons (pv 2) pa_nil))) .nil))))))), ?_⟩
    have p1 := pair_len b1 b2
    have p2 := pair_len b3 b4
    have e : (Str.ofString " x ").length = 3 := by decide +kernel
    refine ⟨_, rfl, p, _, rfl, SqT.of hp, rfl, .ref u, _, rfl, .ref v, _, rfl, rfl, ?_⟩
    refine ⟨_, rfl, u, x.1, x.2.1, rfl, SqT.of hu, b1, b2, fun H1 s1 => .inl ⟨_, rfl, by rw [sz_eq]; omega, _, rfl, by rw [Str.empty_append, sz_eq]; omega, _, rfl, by rw [Str.empty_append, Str.length_append, e, sz_eq]; omega, _, rfl, v, x.2.2.1, x.2.2.2, rfl, SqT.of (s1 _ _ hv), b3, b4, fun H2 s2 => .inl ⟨_, rfl, by rw [sz_eq]; omega, _, rfl, by rw [Str.empty_append, Str.length_append, Str.length_append, e, sz_eq]; omega, ?_⟩⟩⟩
    rw [Str.empty_append]
    exact q _ (s1.trans s2)
theorem ok_lsheet_text (T : Txt K mg) : FnOk P w K mg base CX0 2 T.f_lsheet_text T.d_lsheet_text ["_law_sheet"] spSheetT := by
  refine T.F_lsheet_text.ok sc_lsheet_text (fun vs H Q E h => ?_) (fun cdv A outer s H vs Q E hr h => ?_)
  · obtain ⟨p, x, rfl, _⟩ := h
    rfl
  · obtain ⟨p, x, rfl, ⟨u, v, hp, hu, hv⟩, ⟨b1, b2, b3, b4⟩, q⟩ := h
    refine ⟨_, (pss_one (ps_ret (pe_op op_add_str (pe_op op_add_str (pe_call (ok_lpair_text T) (hr.mono (by decide)) (by rfl) T.g_lpair_text T.F_lpair_text.kp T.b_lpair_text .nil pass0 (pa_cons (pe_ix ix_tup (pv 0) pe_int (fun _ _ => rfl)) pa_nil)) pe_str) (pe_call (ok_lpair_text T) (hr.mono (by decide)) (by rfl) T.g_lpair_text T.F_lpair_text.kp T.b_lpair_text .nil pass0 (pa_cons (pe_ix ix_tup (pv 0) pe_int (fun _ _ => rfl)) pa_nil))))), ?_⟩
    have p1 := pair_len b1 b2
    have p2 := pair_len b3 b4
    have e : (Str.ofString " x ").length = 3 := by decide +kernel
    refine ⟨_, rfl, p, _, 0, .ref u, rfl, rfl, SqT.of hp, atI_nat (j := 0) rfl, u, x.1, x.2.1, rfl, SqT.of hu, b1, b2, fun H1 s1 => ⟨_, _, rfl, rfl, by rw [e, sz_eq]; omega, _, rfl, p, _, 1, .ref v, rfl, rfl, SqT.of (s1 _ _ hp), atI_nat (j := 1) rfl, v, x.2.2.1, x.2.2.2, rfl, SqT.of (s1 _ _ hv), b3, b4, fun H2 s2 => ⟨_, _, rfl, rfl, by rw [Str.length_append, e, sz_eq]; omega, q _ (s1.trans s2)⟩⟩⟩
end
/-! ### texts of steps: the math -/
def stW : List Itm → List Str
  | [.str _, .sheet x, .str s, .pair a b, .int c] => ["saw", pairT x.1 x.2.1, "x", pairT x.2.2.1 x.2.2.2, s, "at", pairT a b, "times", decT c]
  | [.str w, .sheet x, .str s, .int n, .int c] => if w = "stack" then ["stack", decT n, "of", pairT x.1 x.2.1, "x", pairT x.2.2.1 x.2.2.2, s, "times", decT c] else ["split", pairT x.1 x.2.1, "x", pairT x.2.2.1 x.2.2.2, s, "into", decT n, "times", decT c]
  | [.str _, .sheet x, .sheet y, .str s, .int c] => ["glue", pairT x.1 x.2.1, "x", pairT x.2.2.1 x.2.2.2, "and", pairT y.1 y.2.1, "x", pairT y.2.2.1 y.2.2.2, s, "times", decT c]
  | [.str _, .sheet x, .int c] => ["turn", pairT x.1 x.2.1, "x", pairT x.2.2.1 x.2.2.2, "times", decT c]
  | _ => []
def stepT (ts : List Itm) : Str := Str.join (Str.ofString " ") (stW ts)
theorem dec_free {c : Nat} (h : c < 43) (n : Int) : c ∉ TL.tl (decT n) := by
  rw [dec_lets, TL.tl_mk]
  exact lets_free h n
theorem side_free {s : Str} (h : SideW s) : 32 ∉ TL.tl s := by
  rcases h with rfl | rfl <;> decide +kernel
theorem stW_split {x : Sh} {s : Str} {n c : Int} : stW [.str "split", .sheet x, .str s, .int n, .int c] = (["split", pairT x.1 x.2.1, "x", pairT x.2.2.1 x.2.2.2, s, "into", decT n, "times", decT c] : List Str) := by
  simp only [stW]
  rw [if_neg (by decide +kernel)]
theorem stW_stack {x : Sh} {s : Str} {n c : Int} : stW [.str "stack", .sheet x, .str s, .int n, .int c] = (["stack", decT n, "of", pairT x.1 x.2.1, "x", pairT x.2.2.1 x.2.2.2, s, "times", decT c] : List Str) := by
  simp only [stW, if_true]
abbrev NoB (w : Str) : Prop := 32 ∉ TL.tl w
theorem nob_c {w : Str} {ws : List Str} (h : NoB w) (t : ∀ v ∈ ws, NoB v) : ∀ v ∈ w :: ws, NoB v := fun v hv => by
  rcases List.mem_cons.mp hv with rfl | hv
  · exact h
  · exact t v hv
theorem nob_n : ∀ v ∈ ([] : List Str), NoB v := fun v hv => by cases hv
theorem stW_free {ts : List Itm} (h : Shaped ts) : stW ts ≠ [] ∧ ∀ w ∈ stW ts, NoB w := by
  have p : ∀ a b, NoB (pairT a b) := pair_free (by decide)
  have d : ∀ n, NoB (decT n) := dec_free (by decide)
  have w1 : NoB "x" := by decide +kernel
  have w2 : NoB "times" := by decide +kernel
  cases h with
  | saw hs hc => exact ⟨by simp [stW], nob_c (by decide +kernel) (nob_c (p _ _) (nob_c w1 (nob_c (p _ _) (nob_c (side_free hs) (nob_c (by decide +kernel) (nob_c (p _ _) (nob_c w2 (nob_c (d _) nob_n))))))))⟩
  | split hs hn hc =>
    rw [stW_split]
    exact ⟨by simp, nob_c (by decide +kernel) (nob_c (p _ _) (nob_c w1 (nob_c (p _ _) (nob_c (side_free hs) (nob_c (by decide +kernel) (nob_c (d _) (nob_c w2 (nob_c (d _) nob_n))))))))⟩
  | glue hs hc => exact ⟨by simp [stW], nob_c (by decide +kernel) (nob_c (p _ _) (nob_c w1 (nob_c (p _ _) (nob_c (by decide +kernel) (nob_c (p _ _) (nob_c w1 (nob_c (p _ _) (nob_c (side_free hs) (nob_c w2 (nob_c (d _) nob_n))))))))))⟩
  | stack hs hn hc =>
    rw [stW_stack]
    exact ⟨by simp, nob_c (by decide +kernel) (nob_c (d _) (nob_c (by decide +kernel) (nob_c (p _ _) (nob_c w1 (nob_c (p _ _) (nob_c (side_free hs) (nob_c w2 (nob_c (d _) nob_n))))))))⟩
  | turn hc => exact ⟨by simp [stW], nob_c (by decide +kernel) (nob_c (p _ _) (nob_c w1 (nob_c (p _ _) (nob_c w2 (nob_c (d _) nob_n)))))⟩
theorem split_stepT {ts : List Itm} (h : Shaped ts) : Txt.split (stepT ts) (Str.ofString " ") = stW ts := by
  obtain ⟨h1, h2⟩ := stW_free h
  unfold stepT
  rw [← TL.join_eq]
  exact TL.split_join tl_b (by decide +kernel) h1 h2
theorem words_free : ∀ (n : Nat) (z : Str), z.length ≤ n → ∀ y ∈ Txt.split z (Str.ofString " "), 32 ∉ TL.tl y
  | n, z, hn, y, hy => by
    have hk : (Str.ofString " ").cps.all (· < 256) = true := by decide +kernel
    have sp : ∀ z, (Txt.split z (Str.ofString " ")).map TL.tl = TL.spl (32 :: []) 0 [] (TL.tl z) := fun z => by
      rw [TL.split_spl z _ (by rw [tl_b]; simp) (TL.kind_ok hk), tl_b]
    rcases blank_cases z with h | ⟨a, b, ha, rfl⟩
    · have e : Txt.split z (Str.ofString " ") = [z] := by
        refine TL.map_tl_inj ?_
        rw [sp, TL.spl_last1 h]
        rfl
      rw [e, List.mem_singleton] at hy
      rw [hy]
      exact h
    · have e : Txt.split (a ++ Str.ofString " " ++ b) (Str.ofString " ") = a :: Txt.split b (Str.ofString " ") := by
        refine TL.map_tl_inj ?_
        rw [sp, TL.tl_append, TL.tl_append, tl_b, List.append_assoc, TL.spl_part1 ha, List.map_cons, sp]
        rfl
      rw [e] at hy
      rcases List.mem_cons.mp hy with rfl | hy
      · exact ha
      · have l1 : (Str.ofString " ").length = 1 := by decide +kernel
        rw [Str.length_append, Str.length_append, l1] at hn
        match n, hn with
        | 0, hn => omega
        | n + 1, hn => exact words_free n b (by omega) y hy
/-- a text writes a step -/
structure Wr (z : Str) (ts : List Itm) : Prop where
  ok : stepB ts = true
  small : B20 ts
  text : stepT ts = z
theorem Wr.shaped {z : Str} {ts : List Itm} (h : Wr z ts) : Shaped ts := by
  have := h.ok
  unfold stepB at this
  rw [Bool.and_eq_true] at this
  exact shape_inv this.1
theorem Wr.words {z : Str} {ts : List Itm} (h : Wr z ts) : Txt.split z (Str.ofString " ") = stW ts := by
  rw [← h.text]
  exact split_stepT h.shaped
theorem wr_of {z : Str} {ts : List Itm} (h1 : stepB ts = true) (h2 : B20 ts) (h3 : Txt.split z (Str.ofString " ") = stW ts) : Wr z ts := ⟨h1, h2, by
  unfold stepT
  rw [← h3]
  exact StrLaws.join_split z _⟩
def shI (z : Str) : Itm := match readSh z with
  | some x => .sheet x
  | none => .non
def pIt (z : Str) : Itm := match rp z with
  | some p => .pair p.1 p.2
  | none => .non
def nIt (z : Str) : Itm := match rn z with
  | some n => .int n
  | none => .non
def j3 (a b c : Str) : Str := Str.join (Str.ofString " ") [a, b, c]
theorem sheet_j3 (x : Sh) : sheetT x = Str.join (Str.ofString " ") [pairT x.1 x.2.1, "x", pairT x.2.2.1 x.2.2.2] := by
  unfold sheetT
  show _ = pairT x.1 x.2.1 ++ Str.ofString " " ++ (Str.ofString "x" ++ Str.ofString " " ++ pairT x.2.2.1 x.2.2.2)
  have e : Str.ofString " x " = Str.ofString " " ++ (Str.ofString "x" ++ Str.ofString " ") := by decide +kernel
  rw [e]
  simp only [Str.append_assoc]
theorem shI_text {x : Sh} (h : Small20 x) : shI (j3 (pairT x.1 x.2.1) "x" (pairT x.2.2.1 x.2.2.2)) = .sheet x := by
  have e : j3 (pairT x.1 x.2.1) "x" (pairT x.2.2.1 x.2.2.2) = sheetT x := by
    exact (sheet_j3 x).symm
  unfold shI
  rw [e, readSh_sheet h]
theorem pIt_text {a b : Int} (ha : a.natAbs < 10 ^ 20) (hb : b.natAbs < 10 ^ 20) : pIt (pairT a b) = .pair a b := by
  unfold pIt
  rw [rp_pairT ha hb]
theorem nIt_text {n : Int} (h : n.natAbs < 10 ^ 20) : nIt (decT n) = .int n := by
  unfold nIt
  rw [rn_dec h]
theorem shI_some {a b c : Str} {x : Sh} (ha : 32 ∉ TL.tl a) (hb : 32 ∉ TL.tl b) (hc : 32 ∉ TL.tl c) (h : shI (j3 a b c) = .sheet x) : Small20 x ∧ a = pairT x.1 x.2.1 ∧ b = "x" ∧ c = pairT x.2.2.1 x.2.2.2 := by
  unfold shI at h
  split at h
  · rename_i y hy
    cases h
    obtain ⟨t, b20⟩ := readSh_text hy
    have e1 : Txt.split (j3 a b c) (Str.ofString " ") = [a, b, c] := by
      unfold j3
      rw [← TL.join_eq]
      exact TL.split_join tl_b (by decide +kernel) (by simp) (by
        intro p hp
        simp only [List.mem_cons, List.not_mem_nil, or_false] at hp
        rcases hp with rfl | rfl | rfl <;> assumption)
    have e2 : Txt.split (sheetT x) (Str.ofString " ") = [pairT x.1 x.2.1, "x", pairT x.2.2.1 x.2.2.2] := by
      have e : sheetT x = j3 (pairT x.1 x.2.1) "x" (pairT x.2.2.1 x.2.2.2) := by
        exact sheet_j3 x
      rw [e]
      unfold j3
      rw [← TL.join_eq]
      exact TL.split_join tl_b (by decide +kernel) (by simp) (by
        intro p hp
        simp only [List.mem_cons, List.not_mem_nil, or_false] at hp
        rcases hp with rfl | rfl | rfl
        · exact pair_free (by decide) _ _
        · decide +kernel
        · exact pair_free (by decide) _ _)
    rw [← t, e2] at e1
    injection e1 with g1 e1
    injection e1 with g2 e1
    injection e1 with g3 _
    exact ⟨b20, g1.symm, g2.symm, g3.symm⟩
  · cases h
theorem pIt_some {z : Str} {a b : Int} (h : pIt z = .pair a b) : z = pairT a b ∧ a.natAbs < 10 ^ 20 ∧ b.natAbs < 10 ^ 20 := by
  unfold pIt at h
  split at h
  · rename_i p hp
    cases h
    obtain ⟨t, b1, b2⟩ := rp_text hp
    exact ⟨t.symm, b1, b2⟩
  · cases h
theorem nIt_some {z : Str} {n : Int} (h : nIt z = .int n) : z = decT n ∧ n.natAbs < 10 ^ 20 := by
  unfold nIt at h
  split at h
  · rename_i m hm
    cases h
    obtain ⟨t, b⟩ := rn_text hm
    exact ⟨t.symm, b⟩
  · cases h
/-- what the program takes out of the words -/
def itemsP : List Str → List Itm
  | [w, a, b, c, d, e, f, g, h] => if w = "stack" then [.str "stack", shI (j3 c d e), .str f, nIt a, nIt h] else if w = "saw" then [.str "saw", shI (j3 a b c), .str d, pIt f, nIt h] else if w = "split" then [.str "split", shI (j3 a b c), .str d, nIt f, nIt h] else []
  | [w, a, b, c, _, e, f, g, h, _, k] => if w = "glue" then [.str "glue", shI (j3 a b c), shI (j3 e f g), .str h, nIt k] else []
  | [w, a, b, c, _, e] => if w = "turn" then [.str "turn", shI (j3 a b c), nIt e] else []
  | _ => []
theorem items_wr {ts : List Itm} (h : Shaped ts) (b : B20 ts) : itemsP (stW ts) = ts := by
  cases h with
  | saw hs hc =>
    obtain ⟨_, b1, _, ⟨b2, b3⟩, b4, _⟩ := b
    simp only [stW, itemsP, if_true]
    rw [if_neg (by decide +kernel), shI_text b1, pIt_text b2 b3, nIt_text b4]
  | split hs hn hc =>
    obtain ⟨_, b1, _, b2, b4, _⟩ := b
    rw [stW_split]
    simp only [itemsP, if_true]
    rw [if_neg (by decide +kernel), if_neg (by decide +kernel), shI_text b1, nIt_text b2, nIt_text b4]
  | glue hs hc =>
    obtain ⟨_, b1, b2, _, b4, _⟩ := b
    simp only [stW, itemsP, if_true]
    rw [shI_text b1, shI_text b2, nIt_text b4]
  | stack hs hn hc =>
    obtain ⟨_, b1, _, b2, b4, _⟩ := b
    rw [stW_stack]
    simp only [itemsP, if_true]
    rw [shI_text b1, nIt_text b2, nIt_text b4]
  | turn hc =>
    obtain ⟨_, b1, b2, _⟩ := b
    simp only [stW, itemsP, if_true]
    rw [shI_text b1, nIt_text b2]
theorem Wr.items {z : Str} {ts : List Itm} (h : Wr z ts) : itemsP (Txt.split z (Str.ofString " ")) = ts := by
  rw [h.words]
  exact items_wr h.shaped h.small
theorem Wr.one {z : Str} {ts ts' : List Itm} (h : Wr z ts) (h' : Wr z ts') : ts = ts' := h.items.symm.trans h'.items
/-- what is read is small, where it is a step -/
theorem itB_sh {z : Str} {x : Sh} (h : shI z = .sheet x) : Small20 x := by
  unfold shI at h
  split at h
  · rename_i y hy
    cases h
    exact (readSh_text hy).2
  · cases h
theorem it20_sh (z : Str) : It20 (shI z) := by
  cases e : shI z with
  | sheet x => exact itB_sh e
  | non => trivial
  | str s => trivial
  | int n => unfold shI at e; split at e <;> cases e
  | pair a b => unfold shI at e; split at e <;> cases e
theorem it20_p (z : Str) : It20 (pIt z) := by
  cases e : pIt z with
  | pair a b => exact (pIt_some e).2
  | non => trivial
  | str s => trivial
  | int n => unfold pIt at e; split at e <;> cases e
  | sheet x => unfold pIt at e; split at e <;> cases e
theorem it20_n (z : Str) : It20 (nIt z) := by
  cases e : nIt z with
  | int n => exact (nIt_some e).2
  | non => trivial
  | str s => trivial
  | pair a b => unfold nIt at e; split at e <;> cases e
  | sheet x => unfold nIt at e; split at e <;> cases e
/-! ### texts of steps -/
def hdT : List Itm → Str
  | [.str _, .sheet x, .str s, .pair a b, .int _] => Str.ofString "saw " ++ sheetT x ++ Str.ofString " " ++ s ++ Str.ofString " at " ++ pairT a b
  | [.str w, .sheet x, .str s, .int n, .int _] => if w = "stack" then Str.ofString "stack " ++ decT n ++ Str.ofString " of " ++ sheetT x ++ Str.ofString " " ++ s else Str.ofString "split " ++ sheetT x ++ Str.ofString " " ++ s ++ Str.ofString " into " ++ decT n
  | [.str _, .sheet x, .sheet y, .str s, .int _] => Str.ofString "glue " ++ sheetT x ++ Str.ofString " and " ++ sheetT y ++ Str.ofString " " ++ s
  | [.str _, .sheet x, .int _] => Str.ofString "turn " ++ sheetT x
  | _ => Str.empty
def cpI : List Itm → Int
  | [_, _, _, _, .int c] => c
  | [_, _, .int c] => c
  | _ => 0
theorem hd_split {x : Sh} {s : Str} {n c : Int} : hdT [.str "split", .sheet x, .str s, .int n, .int c] = Str.ofString "split " ++ sheetT x ++ Str.ofString " " ++ s ++ Str.ofString " into " ++ decT n := by
  simp only [hdT]
  rw [if_neg (by decide +kernel)]
theorem hd_stack {x : Sh} {s : Str} {n c : Int} : hdT [.str "stack", .sheet x, .str s, .int n, .int c] = Str.ofString "stack " ++ decT n ++ Str.ofString " of " ++ sheetT x ++ Str.ofString " " ++ s := by
  simp only [hdT, if_true]
theorem hd_text {ts : List Itm} (h : Shaped ts) : stepT ts = hdT ts ++ Str.ofString " times " ++ decT (cpI ts) := by
  have l1 : Str.ofString "saw " = Str.ofString "saw" ++ Str.ofString " " := by decide +kernel
  have l2 : Str.ofString "split " = Str.ofString "split" ++ Str.ofString " " := by decide +kernel
  have l3 : Str.ofString "glue " = Str.ofString "glue" ++ Str.ofString " " := by decide +kernel
  have l4 : Str.ofString "stack " = Str.ofString "stack" ++ Str.ofString " " := by decide +kernel
  have l5 : Str.ofString "turn " = Str.ofString "turn" ++ Str.ofString " " := by decide +kernel
  have l6 : Str.ofString " at " = Str.ofString " " ++ (Str.ofString "at" ++ Str.ofString " ") := by decide +kernel
  have l7 : Str.ofString " of " = Str.ofString " " ++ (Str.ofString "of" ++ Str.ofString " ") := by decide +kernel
  have l8 : Str.ofString " into " = Str.ofString " " ++ (Str.ofString "into" ++ Str.ofString " ") := by decide +kernel
  have l9 : Str.ofString " and " = Str.ofString " " ++ (Str.ofString "and" ++ Str.ofString " ") := by decide +kernel
  have l10 : Str.ofString " times " = Str.ofString " " ++ (Str.ofString "times" ++ Str.ofString " ") := by decide +kernel
  have l11 : Str.ofString " x " = Str.ofString " " ++ (Str.ofString "x" ++ Str.ofString " ") := by decide +kernel
  unfold stepT
  cases h with
  | saw hs hc => simp only [stW, hdT, cpI, Str.join, sheetT, l1, l6, l10, l11, Str.append_assoc]
  | split hs hn hc =>
    rw [stW_split, hd_split]
    simp only [cpI, Str.join, sheetT, l2, l8, l10, l11, Str.append_assoc]
  | glue hs hc => simp only [stW, hdT, cpI, Str.join, sheetT, l3, l9, l10, l11, Str.append_assoc]
  | stack hs hn hc =>
    rw [stW_stack, hd_stack]
    simp only [cpI, Str.join, sheetT, l4, l7, l10, l11, Str.append_assoc]
  | turn hc => simp only [stW, hdT, cpI, Str.join, sheetT, l5, l10, l11, Str.append_assoc]
theorem b64 {x : Int} (h : x.natAbs < 10 ^ 20) : x.natAbs < 10 ^ 64 := Nat.lt_trans h (by decide)
theorem Small20.s64 {x : Sh} (h : Small20 x) : Sh64 x := ⟨b64 h.1, b64 h.2.1, b64 h.2.2.1, b64 h.2.2.2⟩
theorem side_len {s : Str} (h : SideW s) : s.length ≤ 6 := by
  rcases h with rfl | rfl <;> decide +kernel
theorem lit_len : (Str.ofString "saw ").length = 4 ∧ (Str.ofString "split ").length = 6 ∧ (Str.ofString "glue ").length = 5 ∧ (Str.ofString "stack ").length = 6 ∧ (Str.ofString "turn ").length = 5 ∧ (Str.ofString " at ").length = 4 ∧ (Str.ofString " of ").length = 4 ∧ (Str.ofString " into ").length = 6 ∧ (Str.ofString " and ").length = 5 ∧ (Str.ofString " times ").length = 7 ∧ (Str.ofString " ").length = 1 ∧ (Str.ofString " x ").length = 3 := by decide +kernel
theorem hd_len {ts : List Itm} (h : Shaped ts) (b : B20 ts) : (hdT ts).length ≤ 1000 := by
  obtain ⟨k1, k2, k3, k4, k5, k6, k7, k8, k9, k10, k11, k12⟩ := lit_len
  cases h with
  | saw hs hc =>
    have p1 := sheet_len b.2.1.s64
    have p2 := pair_len (b64 b.2.2.2.1.1) (b64 b.2.2.2.1.2)
    have p3 := side_len hs
    simp only [hdT, Str.length_append, k1, k6, k11]
    omega
  | split hs hn hc =>
    have p1 := sheet_len b.2.1.s64
    have p2 := (text_len (b64 b.2.2.2.1)).2
    have p3 := side_len hs
    rw [hd_split]
    simp only [Str.length_append, k2, k8, k11]
    show _ + (decT _).length ≤ _
    omega
  | glue hs hc =>
    have p1 := sheet_len b.2.1.s64
    have p2 := sheet_len b.2.2.1.s64
    have p3 := side_len hs
    simp only [hdT, Str.length_append, k3, k9, k11]
    omega
  | stack hs hn hc =>
    have p1 := sheet_len b.2.1.s64
    have p2 := (text_len (b64 b.2.2.2.1)).2
    have p3 := side_len hs
    rw [hd_stack]
    simp only [Str.length_append, k4, k7, k11]
    show 6 + (decT _).length + _ + _ + _ + _ ≤ _
    omega
  | turn hc =>
    have p1 := sheet_len b.2.1.s64
    simp only [hdT, Str.length_append, k5]
    omega
section
variable {base : Heap} {K : PySem.W.Frag} {mg : Str → Option Value} {P : Program} {w : World}
def spHdT (ok : Str → Prop) : Sp := fun vs H Q _ => ∃ (p : Addr) (s : Str) (ts : List Itm), vs = [.ref p] ∧ StepAt H p (.str s :: ts) ∧ ok s ∧ Shaped (.str s :: ts) ∧ B20 (.str s :: ts) ∧ ∀ H', Same H H' → Q (.str (hdT (.str s :: ts))) H'
theorem ok_sawing_text (T : Txt K mg) : FnOk P w K mg base CX0 5 T.f_sawing_text T.d_sawing_text ["step"] (spHdT fun s => s = "saw" ∨ s = "split") := by
  refine T.F_sawing_text.ok sc_sawing_text (fun vs H Q E h => ?_) (fun cdv A outer s H vs Q E hr h => ?_)
  · obtain ⟨p, s, ts, rfl, _⟩ := h
    rfl
  · obtain ⟨p, sw, ts, rfl, ⟨vs, hp, hts⟩, hw, hS, hb, q⟩ := h
    refine ⟨_, (pss_cons (ps_asg (pv 0) (pg_tup (by rfl) (pgs_cons (pg_name (i := 1) sc_sawing_text.nd rfl (Or.inl rfl)) (pgs_cons (pg_name (i := 2) sc_sawing_text.nd rfl (Or.inl rfl)) (pgs_cons (pg_name (i := 3) sc_sawing_text.nd rfl (Or.inl rfl)) (pgs_cons (pg_name (i := 4) sc_sawing_text.nd rfl (Or.inl rfl)) (pgs_cons (pg_name (i := 5) sc_sawing_text.nd rfl (Or.inl rfl)) pgs_nil)))))))
      (pss_cons (ps_if (pt_cmpR op_eq (pv 1) pe_str (nomark _)) (pss_one (ps_ret (pe_joined (.cons pe_str (.cons (pe_fmt (pe_call (ok_sheet_text T) (hr.mono (by decide)) (by rfl) T.g_sheet_text T.F_sheet_text.kp T.b_sheet_text .nil pass0 (pa_cons (pv 2) pa_nil))) (.cons pe_str (.cons (pe_fmt (pv 3)) (.cons pe_str (.cons (pe_fmt (pe_call (ok_pair_text T) (hr.mono (by decide)) (by rfl) T.g_pair_text T.F_pair_text.kp T.b_pair_text .nil pass0 (pa_cons (pv 4) pa_nil))) .nil))))))))) pss_nil)
      (pss_one (ps_ret (pe_joined (.cons pe_str (.cons (pe_fmt (pe_call (ok_sheet_text T) (hr.mono (by decide)) (by rfl) T.g_sheet_text T.F_sheet_text.kp T.b_sheet_text .nil pass0 (pa_cons (pv 2) pa_nil))) (.cons pe_str (.cons (pe_fmt (pv 3)) (.cons pe_str (.cons (pe_fmt (pe_call (ok_decimal_text T) (hr.mono (by decide)) (by rfl) T.g_decimal_text T.F_decimal_text.kp T.b_decimal_text .nil pass0 (pa_cons (pv 4) pa_nil))) .nil))))))))))), ?_⟩
    obtain ⟨k1, k2, k3, k4, k5, k6, k7, k8, k9, k10, k11, k12⟩ := lit_len
    cases hS with
    | @saw x sd a b c hs hc =>
      match vs, hts with
      | [v0, v1, v2, v3, v4], .cons h0 (.cons ⟨px, e1, hx⟩ (.cons h2 (.cons ⟨pp, e3, hpp⟩ (.cons h4 .nil)))) =>
        subst e1 e3
        cases (show v0 = .str "saw" from h0)
        cases (show v2 = .str sd from h2)
        cases (show v4 = .int c from h4)
        have p1 := sheet_len hb.2.1.s64
        have p2 := pair_len (b64 hb.2.2.2.1.1) (b64 hb.2.2.2.1.2)
        have p3 := side_len hs
        refine ⟨_, rfl, p, _, rfl, SqT.of hp, rfl, .str "saw", _, rfl, .ref px, _, rfl, .str sd, _, rfl, .ref pp, _, rfl, .int c, _, rfl, rfl, ?_⟩
        refine ⟨_, rfl, rfl, _, rfl, ?_⟩
        rw [dS, decide_eq_true rfl]
        refine iteT ⟨_, rfl, by first | (rw [sz_eq]; omega) | (simp only [Str.length_append, Str.empty_append, k1, k2, k3, k4, k5, k6, k7, k8, k9, k10, k11, k12]; rw [sz_eq]; omega), _, rfl, px, x, rfl, hx, hb.2.1.s64, fun H1 s1 => .inl ⟨_, rfl, by first | (rw [sz_eq]; omega) | (simp only [Str.length_append, Str.empty_append, k1, k2, k3, k4, k5, k6, k7, k8, k9, k10, k11, k12]; rw [sz_eq]; omega), _, rfl, by first | (rw [sz_eq]; omega) | (simp only [Str.length_append, Str.empty_append, k1, k2, k3, k4, k5, k6, k7, k8, k9, k10, k11, k12]; rw [sz_eq]; omega), _, rfl, by first | (rw [sz_eq]; omega) | (simp only [Str.length_append, Str.empty_append, k1, k2, k3, k4, k5, k6, k7, k8, k9, k10, k11, k12]; rw [sz_eq]; omega), _, rfl, .inl ⟨_, rfl, by first | (rw [sz_eq]; omega) | (simp only [Str.length_append, Str.empty_append, k1, k2, k3, k4, k5, k6, k7, k8, k9, k10, k11, k12]; rw [sz_eq]; omega), _, rfl, by first | (rw [sz_eq]; omega) | (simp only [Str.length_append, Str.empty_append, k1, k2, k3, k4, k5, k6, k7, k8, k9, k10, k11, k12]; rw [sz_eq]; omega), _, rfl, by first | (rw [sz_eq]; omega) | (simp only [Str.length_append, Str.empty_append, k1, k2, k3, k4, k5, k6, k7, k8, k9, k10, k11, k12]; rw [sz_eq]; omega), _, rfl, pp, a, b, rfl, SqT.of (s1 _ _ hpp), b64 hb.2.2.2.1.1, b64 hb.2.2.2.1.2, fun H2 s2 => .inl ⟨_, rfl, by first | (rw [sz_eq]; omega) | (simp only [Str.length_append, Str.empty_append, k1, k2, k3, k4, k5, k6, k7, k8, k9, k10, k11, k12]; rw [sz_eq]; omega), _, rfl, by first | (rw [sz_eq]; omega) | (simp only [Str.length_append, Str.empty_append, k1, k2, k3, k4, k5, k6, k7, k8, k9, k10, k11, k12]; rw [sz_eq]; omega), ?_⟩⟩⟩⟩
        rw [Str.empty_append]
        exact q _ (s1.trans s2)
    | @split x sd n c hs hn hc =>
      match vs, hts with
      | [v0, v1, v2, v3, v4], .cons h0 (.cons ⟨px, e1, hx⟩ (.cons h2 (.cons h3 (.cons h4 .nil)))) =>
        subst e1
        cases (show v0 = .str "split" from h0)
        cases (show v2 = .str sd from h2)
        cases (show v3 = .int n from h3)
        cases (show v4 = .int c from h4)
        have p1 := sheet_len hb.2.1.s64
        have p2 := (text_len (b64 hb.2.2.2.1)).2
        have p3 := side_len hs
        refine ⟨_, rfl, p, _, rfl, SqT.of hp, rfl, .str "split", _, rfl, .ref px, _, rfl, .str sd, _, rfl, .int n, _, rfl, .int c, _, rfl, rfl, ?_⟩
        refine ⟨_, rfl, rfl, _, rfl, ?_⟩
        rw [dS, decide_eq_false (by decide +kernel)]
        refine iteF ⟨_, rfl, by first | (rw [sz_eq]; omega) | (simp only [Str.length_append, Str.empty_append, k1, k2, k3, k4, k5, k6, k7, k8, k9, k10, k11, k12]; rw [sz_eq]; omega), _, rfl, px, x, rfl, hx, hb.2.1.s64, fun H1 s1 => .inl ⟨_, rfl, by first | (rw [sz_eq]; omega) | (simp only [Str.length_append, Str.empty_append, k1, k2, k3, k4, k5, k6, k7, k8, k9, k10, k11, k12]; rw [sz_eq]; omega), _, rfl, by first | (rw [sz_eq]; omega) | (simp only [Str.length_append, Str.empty_append, k1, k2, k3, k4, k5, k6, k7, k8, k9, k10, k11, k12]; rw [sz_eq]; omega), _, rfl, by first | (rw [sz_eq]; omega) | (simp only [Str.length_append, Str.empty_append, k1, k2, k3, k4, k5, k6, k7, k8, k9, k10, k11, k12]; rw [sz_eq]; omega), _, rfl, .inl ⟨_, rfl, by first | (rw [sz_eq]; omega) | (simp only [Str.length_append, Str.empty_append, k1, k2, k3, k4, k5, k6, k7, k8, k9, k10, k11, k12]; rw [sz_eq]; omega), _, rfl, by first | (rw [sz_eq]; omega) | (simp only [Str.length_append, Str.empty_append, k1, k2, k3, k4, k5, k6, k7, k8, k9, k10, k11, k12]; rw [sz_eq]; omega), _, rfl, by first | (rw [sz_eq]; omega) | (simp only [Str.length_append, Str.empty_append, k1, k2, k3, k4, k5, k6, k7, k8, k9, k10, k11, k12]; rw [sz_eq]; omega), _, rfl, n, rfl, b64 hb.2.2.2.1, fun H2 s2 => .inl ⟨_, rfl, by first | (rw [sz_eq]; omega) | (simp only [Str.length_append, Str.empty_append, k1, k2, k3, k4, k5, k6, k7, k8, k9, k10, k11, k12]; rw [sz_eq]; omega), _, rfl, by first | (rw [sz_eq]; omega) | (simp only [Str.length_append, Str.empty_append, k1, k2, k3, k4, k5, k6, k7, k8, k9, k10, k11, k12]; rw [sz_eq]; omega), ?_⟩⟩⟩⟩
        rw [Str.empty_append]
        rw [hd_split] at q
        exact q _ (s1.trans s2)
    | glue hs hc => rcases hw with z | z <;> exact absurd z (by decide +kernel)
    | stack hs hn hc => rcases hw with z | z <;> exact absurd z (by decide +kernel)
    | turn hc => rcases hw with z | z <;> exact absurd z (by decide +kernel)
theorem ok_gluing_text (T : Txt K mg) : FnOk P w K mg base CX0 5 T.f_gluing_text T.d_gluing_text ["step"] (spHdT fun s => s = "glue" ∨ s = "stack") := by
  refine T.F_gluing_text.ok sc_gluing_text (fun vs H Q E h => ?_) (fun cdv A outer s H vs Q E hr h => ?_)
  · obtain ⟨p, s, ts, rfl, _⟩ := h
    rfl
  · obtain ⟨p, sw, ts, rfl, ⟨vs, hp, hts⟩, hw, hS, hb, q⟩ := h
    refine ⟨_, (pss_cons (ps_if (pt_cmpR op_eq (pe_ix ix_tup (pv 0) pe_int (fun _ _ => rfl)) pe_str (nomark _)) (pss_cons (ps_asg (pv 0) (pg_tup (by rfl) (pgs_cons (pg_name (i := 1) sc_gluing_text.nd rfl (Or.inl rfl)) (pgs_cons (pg_name (i := 2) sc_gluing_text.nd rfl (Or.inl rfl)) (pgs_cons (pg_name (i := 4) sc_gluing_text.nd rfl (Or.inl rfl)) (pgs_cons (pg_name (i := 6) sc_gluing_text.nd rfl (Or.inl rfl)) (pgs_cons (pg_name (i := 5) sc_gluing_text.nd rfl (Or.inl rfl)) pgs_nil)))))))
      (pss_one (ps_ret (pe_joined (.cons pe_str (.cons (pe_fmt (pe_call (ok_decimal_text T) (hr.mono (by decide)) (by rfl) T.g_decimal_text T.F_decimal_text.kp T.b_decimal_text .nil pass0 (pa_cons (pv 6) pa_nil))) (.cons pe_str (.cons (pe_fmt (pe_call (ok_sheet_text T) (hr.mono (by decide)) (by rfl) T.g_sheet_text T.F_sheet_text.kp T.b_sheet_text .nil pass0 (pa_cons (pv 2) pa_nil))) (.cons pe_str (.cons (pe_fmt (pv 4)) .nil)))))))))) pss_nil)
      (pss_cons (ps_asg (pv 0) (pg_tup (by rfl) (pgs_cons (pg_name (i := 1) sc_gluing_text.nd rfl (Or.inl rfl)) (pgs_cons (pg_name (i := 2) sc_gluing_text.nd rfl (Or.inl rfl)) (pgs_cons (pg_name (i := 3) sc_gluing_text.nd rfl (Or.inl rfl)) (pgs_cons (pg_name (i := 4) sc_gluing_text.nd rfl (Or.inl rfl)) (pgs_cons (pg_name (i := 5) sc_gluing_text.nd rfl (Or.inl rfl)) pgs_nil)))))))
      (pss_one (ps_ret (pe_joined (.cons pe_str (.cons (pe_fmt (pe_call (ok_sheet_text T) (hr.mono (by decide)) (by rfl) T.g_sheet_text T.F_sheet_text.kp T.b_sheet_text .nil pass0 (pa_cons (pv 2) pa_nil))) (.cons pe_str (.cons (pe_fmt (pe_call (ok_sheet_text T) (hr.mono (by decide)) (by rfl) T.g_sheet_text T.F_sheet_text.kp T.b_sheet_text .nil pass0 (pa_cons (pv 3) pa_nil))) (.cons pe_str (.cons (pe_fmt (pv 4)) .nil))))))))))), ?_⟩
    obtain ⟨k1, k2, k3, k4, k5, k6, k7, k8, k9, k10, k11, k12⟩ := lit_len
    cases hS with
    | @glue x y sd c hs hc =>
      match vs, hts with
      | [v0, v1, v2, v3, v4], .cons h0 (.cons ⟨px, e1, hx⟩ (.cons ⟨py, e2, hy⟩ (.cons h3 (.cons h4 .nil)))) =>
        subst e1 e2
        cases (show v0 = .str "glue" from h0)
        cases (show v3 = .str sd from h3)
        cases (show v4 = .int c from h4)
        have p1 := sheet_len hb.2.1.s64
        have p2 := sheet_len hb.2.2.1.s64
        have p3 := side_len hs
        refine ⟨_, rfl, p, _, 0, .str "glue", rfl, rfl, SqT.of hp, atI_nat (j := 0) rfl, rfl, _, rfl, ?_⟩
        rw [dS, decide_eq_false (by decide +kernel)]
        refine iteF ⟨_, rfl, p, _, rfl, SqT.of hp, rfl, .str "glue", _, rfl, .ref px, _, rfl, .ref py, _, rfl, .str sd, _, rfl, .int c, _, rfl, rfl, ?_⟩
        refine ⟨_, rfl, by first | (rw [sz_eq]; omega) | (simp only [Str.length_append, Str.empty_append, k1, k2, k3, k4, k5, k6, k7, k8, k9, k10, k11, k12]; rw [sz_eq]; omega), _, rfl, px, x, rfl, hx, hb.2.1.s64, fun H1 s1 => .inl ⟨_, rfl, by first | (rw [sz_eq]; omega) | (simp only [Str.length_append, Str.empty_append, k1, k2, k3, k4, k5, k6, k7, k8, k9, k10, k11, k12]; rw [sz_eq]; omega), _, rfl, by first | (rw [sz_eq]; omega) | (simp only [Str.length_append, Str.empty_append, k1, k2, k3, k4, k5, k6, k7, k8, k9, k10, k11, k12]; rw [sz_eq]; omega), _, rfl, by first | (rw [sz_eq]; omega) | (simp only [Str.length_append, Str.empty_append, k1, k2, k3, k4, k5, k6, k7, k8, k9, k10, k11, k12]; rw [sz_eq]; omega), _, rfl, py, y, rfl, hy.same s1, hb.2.2.1.s64, fun H2 s2 => .inl ⟨_, rfl, by first | (rw [sz_eq]; omega) | (simp only [Str.length_append, Str.empty_append, k1, k2, k3, k4, k5, k6, k7, k8, k9, k10, k11, k12]; rw [sz_eq]; omega), _, rfl, by first | (rw [sz_eq]; omega) | (simp only [Str.length_append, Str.empty_append, k1, k2, k3, k4, k5, k6, k7, k8, k9, k10, k11, k12]; rw [sz_eq]; omega), _, rfl, by first | (rw [sz_eq]; omega) | (simp only [Str.length_append, Str.empty_append, k1, k2, k3, k4, k5, k6, k7, k8, k9, k10, k11, k12]; rw [sz_eq]; omega), _, rfl, .inl ⟨_, rfl, by first | (rw [sz_eq]; omega) | (simp only [Str.length_append, Str.empty_append, k1, k2, k3, k4, k5, k6, k7, k8, k9, k10, k11, k12]; rw [sz_eq]; omega), _, rfl, by first | (rw [sz_eq]; omega) | (simp only [Str.length_append, Str.empty_append, k1, k2, k3, k4, k5, k6, k7, k8, k9, k10, k11, k12]; rw [sz_eq]; omega), ?_⟩⟩⟩⟩
        rw [Str.empty_append]
        exact q _ (s1.trans s2)
    | @stack x sd n c hs hn hc =>
      match vs, hts with
      | [v0, v1, v2, v3, v4], .cons h0 (.cons ⟨px, e1, hx⟩ (.cons h2 (.cons h3 (.cons h4 .nil)))) =>
        subst e1
        cases (show v0 = .str "stack" from h0)
        cases (show v2 = .str sd from h2)
        cases (show v3 = .int n from h3)
        cases (show v4 = .int c from h4)
        have p1 := sheet_len hb.2.1.s64
        have p2 := (text_len (b64 hb.2.2.2.1)).2
        have p3 := side_len hs
        refine ⟨_, rfl, p, _, 0, .str "stack", rfl, rfl, SqT.of hp, atI_nat (j := 0) rfl, rfl, _, rfl, ?_⟩
        rw [dS, decide_eq_true rfl]
        refine iteT ⟨_, rfl, p, _, rfl, SqT.of hp, rfl, .str "stack", _, rfl, .ref px, _, rfl, .str sd, _, rfl, .int n, _, rfl, .int c, _, rfl, rfl, ?_⟩
        refine ⟨_, rfl, by first | (rw [sz_eq]; omega) | (simp only [Str.length_append, Str.empty_append, k1, k2, k3, k4, k5, k6, k7, k8, k9, k10, k11, k12]; rw [sz_eq]; omega), _, rfl, n, rfl, b64 hb.2.2.2.1, fun H1 s1 => .inl ⟨_, rfl, by first | (rw [sz_eq]; omega) | (simp only [Str.length_append, Str.empty_append, k1, k2, k3, k4, k5, k6, k7, k8, k9, k10, k11, k12]; rw [sz_eq]; omega), _, rfl, by first | (rw [sz_eq]; omega) | (simp only [Str.length_append, Str.empty_append, k1, k2, k3, k4, k5, k6, k7, k8, k9, k10, k11, k12]; rw [sz_eq]; omega), _, rfl, by first | (rw [sz_eq]; omega) | (simp only [Str.length_append, Str.empty_append, k1, k2, k3, k4, k5, k6, k7, k8, k9, k10, k11, k12]; rw [sz_eq]; omega), _, rfl, px, x, rfl, hx.same s1, hb.2.1.s64, fun H2 s2 => .inl ⟨_, rfl, by first | (rw [sz_eq]; omega) | (simp only [Str.length_append, Str.empty_append, k1, k2, k3, k4, k5, k6, k7, k8, k9, k10, k11, k12]; rw [sz_eq]; omega), _, rfl, by first | (rw [sz_eq]; omega) | (simp only [Str.length_append, Str.empty_append, k1, k2, k3, k4, k5, k6, k7, k8, k9, k10, k11, k12]; rw [sz_eq]; omega), _, rfl, by first | (rw [sz_eq]; omega) | (simp only [Str.length_append, Str.empty_append, k1, k2, k3, k4, k5, k6, k7, k8, k9, k10, k11, k12]; rw [sz_eq]; omega), _, rfl, .inl ⟨_, rfl, by first | (rw [sz_eq]; omega) | (simp only [Str.length_append, Str.empty_append, k1, k2, k3, k4, k5, k6, k7, k8, k9, k10, k11, k12]; rw [sz_eq]; omega), _, rfl, by first | (rw [sz_eq]; omega) | (simp only [Str.length_append, Str.empty_append, k1, k2, k3, k4, k5, k6, k7, k8, k9, k10, k11, k12]; rw [sz_eq]; omega), ?_⟩⟩⟩⟩
        rw [Str.empty_append]
        rw [hd_stack] at q
        exact q _ (s1.trans s2)
    | saw hs hc => rcases hw with z | z <;> exact absurd z (by decide +kernel)
    | split hs hn hc => rcases hw with z | z <;> exact absurd z (by decide +kernel)
    | turn hc => rcases hw with z | z <;> exact absurd z (by decide +kernel)
end
/-! ### step_text, by the program and by the law -/
theorem hd_text' {ts : List Itm} (h : Shaped ts) : stepT ts = hdT ts ++ (Str.ofString " times " ++ decT (cpI ts)) := by rw [hd_text h, Str.append_assoc]
theorem cp_len {ts : List Itm} (h : Shaped ts) (b : B20 ts) : (cpI ts).natAbs < 10 ^ 20 := by
  cases h with
  | saw hs hc => exact b.2.2.2.2.1
  | split hs hn hc => exact b.2.2.2.2.1
  | glue hs hc => exact b.2.2.2.2.1
  | stack hs hn hc => exact b.2.2.2.2.1
  | turn hc => exact b.2.2.1
theorem stepT_len {ts : List Itm} (h : Shaped ts) (b : B20 ts) : (stepT ts).length ≤ 1200 := by
  have p1 := hd_len h b
  have p2 := (text_len (b64 (cp_len h b))).2
  have p3 : (Str.ofString " times ").length = 7 := by decide +kernel
  rw [hd_text h, Str.length_append, Str.length_append, p3]
  show _ + 7 + (decT (cpI ts)).length ≤ _
  omega
section
variable {base : Heap} {K : PySem.W.Frag} {mg : Str → Option Value} {w : World}
def spStepText (T : Txt K mg) : Sp := fun vs H Q E => ∃ (p : Addr) (ts : List Itm), vs = [.ref p] ∧ StepAt H p ts ∧ ts.length ≤ 10 ∧ Headed ts ∧ B20 ts ∧ (stepB ts = true → ∀ H', Same H H' → Q (.str (stepT ts)) H') ∧ (stepB ts = false → Throws T.e_BadStep.C (badStep 0) H E)
theorem stepB_shaped {ts : List Itm} (h : stepB ts = true) : Shaped ts := by
  unfold stepB at h
  rw [Bool.and_eq_true] at h
  exact shape_inv h.1
/-- the last item -/
theorem last_item {H : Hp} {p : Addr} {ts : List Itm} (h : Shaped ts) (hS : StepAt H p ts) : ∃ vs v, H p = some (.tup (vs ++ [.int (cpI ts)])) ∧ (vs ++ [.int (cpI ts)])[0]? = some v ∧ ItAt H v (ts.headD .non) := by
  obtain ⟨vs, hp, hts⟩ := hS
  cases h with
  | saw hs hc =>
    match vs, hts with
    | [v0, v1, v2, v3, v4], .cons h0 (.cons _ (.cons _ (.cons _ (.cons h4 .nil)))) =>
      cases (show v4 = .int _ from h4)
      exact ⟨[v0, v1, v2, v3], v0, hp, rfl, h0⟩
  | split hs hn hc =>
    match vs, hts with
    | [v0, v1, v2, v3, v4], .cons h0 (.cons _ (.cons _ (.cons _ (.cons h4 .nil)))) =>
      cases (show v4 = .int _ from h4)
      exact ⟨[v0, v1, v2, v3], v0, hp, rfl, h0⟩
  | glue hs hc =>
    match vs, hts with
    | [v0, v1, v2, v3, v4], .cons h0 (.cons _ (.cons _ (.cons _ (.cons h4 .nil)))) =>
      cases (show v4 = .int _ from h4)
      exact ⟨[v0, v1, v2, v3], v0, hp, rfl, h0⟩
  | stack hs hn hc =>
    match vs, hts with
    | [v0, v1, v2, v3, v4], .cons h0 (.cons _ (.cons _ (.cons _ (.cons h4 .nil)))) =>
      cases (show v4 = .int _ from h4)
      exact ⟨[v0, v1, v2, v3], v0, hp, rfl, h0⟩
  | turn hc =>
    match vs, hts with
    | [v0, v1, v2], .cons h0 (.cons _ (.cons h4 .nil)) =>
      cases (show v2 = .int _ from h4)
      exact ⟨[v0, v1], v0, hp, rfl, h0⟩
theorem ok_step_text (T : Txt K mg) (D : Shps K w T.u_SHAPES) : FnOk PySem.Challenge.pw_grainyard_k64_texts_of_sheets_and_steps w K mg base (L2.CX PySem.Challenge.pw_grainyard_k64_texts_of_sheets_and_steps w) 7 T.f_step_text T.d_step_text ["step"] (spStepText T) := by
  refine T.F_step_text.okX sc_step_text (fun vs H Q E h => ?_) (fun cdv A outer s H vs Q E hr h => ?_)
  · obtain ⟨p, ts, rfl, _⟩ := h
    rfl
  · obtain ⟨p, ts, rfl, hS, ln, hH, hb, q1, q2⟩ := h
    refine ⟨_, (pss_cons (ps_expr (pe_call (ok_check_steps T D) (hr.mono (by decide)) (by rfl) T.g_check_steps T.F_check_steps.kp T.b_check_steps .nil (passes_call (takes_of rfl rfl rfl rfl) (fun _ _ _ _ h => h)) (pa_cons (pe_lst (pa_cons (pv 0) pa_nil)) pa_nil)))
      (Evl.pss_cut (ps_if (pt_cmpR op_in_seq (pe_ix ix_tup (pv 0) pe_int (fun _ _ => rfl)) (pe_tup (pa_cons pe_str (pa_cons pe_str pa_nil))) (by rfl)) (pss_one (ps_set (i := 1) sc_step_text.nd rfl (Or.inl rfl) (pe_call (ok_sawing_text T) (hr.mono (by decide)) (by rfl) T.g_sawing_text T.F_sawing_text.kp T.b_sawing_text .nil pass0 (pa_cons (pv 0) pa_nil)))) (pss_one (ps_if (pt_cmpR op_in_seq (pe_ix ix_tup (pv 0) pe_int (fun _ _ => rfl)) (pe_tup (pa_cons pe_str (pa_cons pe_str pa_nil))) (by rfl)) (pss_one (ps_set (i := 1) sc_step_text.nd rfl (Or.inl rfl) (pe_call (ok_gluing_text T) (hr.mono (by decide)) (by rfl) T.g_gluing_text T.F_gluing_text.kp T.b_gluing_text .nil pass0 (pa_cons (pv 0) pa_nil)))) (pss_one (ps_set (i := 1) sc_step_text.nd rfl (Or.inl rfl) (pe_joined (.cons pe_str (.cons (pe_fmt (pe_call (ok_sheet_text T) (hr.mono (by decide)) (by rfl) T.g_sheet_text T.F_sheet_text.kp T.b_sheet_text .nil pass0 (pa_cons (pe_ix ix_tup (pv 0) pe_int (fun _ _ => rfl)) pa_nil))) .nil))))))))
      (pss_one (ps_ret (pe_joined (.cons (pe_fmt (pv 1)) (.cons pe_str (.cons (pe_fmt (pe_call (ok_decimal_text T) (hr.mono (by decide)) (by rfl) T.g_decimal_text T.F_decimal_text.kp T.b_decimal_text .nil pass0 (pa_cons (pe_ix ix_tup (pv 0) (pe_un un_neg pe_int) (fun _ _ => rfl)) pa_nil))) .nil)))))))), ?_⟩
    obtain ⟨k1, k2, k3, k4, k5, k6, k7, k8, k9, k10, k11, k12⟩ := lit_len
    refine ⟨_, rfl, by show 1 ≤ sizeLine; decide, fun l nl => ?_⟩
    have s1 := same_new (o := .lst [.ref p]) nl
    refine ⟨_, [ts], rfl, .list (as := [p]) (SqL.of upd_same) (.cons (hS.same s1) .nil), fun t ht => ?_, fun ok H2 s2 => ?_, fun i fo => ?_⟩
    · rw [List.mem_singleton.mp ht]
      exact ⟨ln, hH⟩
    · have ok := ok ts (List.mem_singleton.mpr rfl)
      have sh := stepB_shaped ok
      have s12 := s1.trans s2
      have hS2 := hS.same s12
      have hl := hd_len sh hb
      have c64 := b64 (cp_len sh hb)
      have p2 := (text_len c64).2
      have q := q1 ok
      rw [hd_text sh] at q
      obtain ⟨vs, v, hp, hv, h0⟩ := last_item sh hS2
      refine ⟨fun σ G => σ = [some (.ref p), some (.str (hdT ts))] ∧ Same H2 G, ?_, ?_⟩
      · have at0 : ∀ {sw : Str} {r : List Itm}, ts = .str sw :: r → (vs ++ [V.int (cpI ts)])[0]? = some (.str sw) := by
          rintro sw r rfl
          rw [hv, show v = .str sw from h0]
        cases sh with
        | @saw x sd a b c hs hc =>
          refine ⟨_, rfl, p, _, 0, _, rfl, rfl, SqT.of hp, atI_nat (j := 0) (at0 rfl), by show 2 ≤ sizeLine; decide, fun t nt => ⟨t, _, rfl, .inr (SqT.of upd_same), rfl, rfl, _, rfl, ?_⟩⟩
          have e := same_new (o := .tup [.str "saw", .str "split"]) nt
          rw [show inV (.str "saw") [.str "saw", .str "split"] = true by decide +kernel]
          exact iteT ⟨_, rfl, p, _, _, rfl, hS2.same e, .inl rfl, .saw hs hc, hb, fun H3 s3 => ⟨rfl, e.trans s3⟩⟩
        | @split x sd n c hs hn hc =>
          refine ⟨_, rfl, p, _, 0, _, rfl, rfl, SqT.of hp, atI_nat (j := 0) (at0 rfl), by show 2 ≤ sizeLine; decide, fun t nt => ⟨t, _, rfl, .inr (SqT.of upd_same), rfl, rfl, _, rfl, ?_⟩⟩
          have e := same_new (o := .tup [.str "saw", .str "split"]) nt
          rw [show inV (.str "split") [.str "saw", .str "split"] = true by decide +kernel]
          exact iteT ⟨_, rfl, p, _, _, rfl, hS2.same e, .inr rfl, .split hs hn hc, hb, fun H3 s3 => ⟨rfl, e.trans s3⟩⟩
        | @glue x y sd c hs hc =>
          refine ⟨_, rfl, p, _, 0, _, rfl, rfl, SqT.of hp, atI_nat (j := 0) (at0 rfl), by show 2 ≤ sizeLine; decide, fun t nt => ⟨t, _, rfl, .inr (SqT.of upd_same), rfl, rfl, _, rfl, ?_⟩⟩
          have e := same_new (o := .tup [.str "saw", .str "split"]) nt
          rw [show inV (.str "glue") [.str "saw", .str "split"] = false by decide +kernel]
          refine iteF ⟨_, rfl, p, _, 0, _, rfl, rfl, SqT.of (e _ _ hp), atI_nat (j := 0) (at0 rfl), by show 2 ≤ sizeLine; decide, fun t nt => ⟨t, _, rfl, .inr (SqT.of upd_same), rfl, rfl, _, rfl, ?_⟩⟩
          have e' := e.trans (same_new (o := .tup [.str "glue", .str "stack"]) nt)
          rw [show inV (.str "glue") [.str "glue", .str "stack"] = true by decide +kernel]
          exact iteT ⟨_, rfl, p, _, _, rfl, hS2.same e', .inl rfl, .glue hs hc, hb, fun H3 s3 => ⟨rfl, e'.trans s3⟩⟩
        | @stack x sd n c hs hn hc =>
          refine ⟨_, rfl, p, _, 0, _, rfl, rfl, SqT.of hp, atI_nat (j := 0) (at0 rfl), by show 2 ≤ sizeLine; decide, fun t nt => ⟨t, _, rfl, .inr (SqT.of upd_same), rfl, rfl, _, rfl, ?_⟩⟩
          have e := same_new (o := .tup [.str "saw", .str "split"]) nt
          rw [show inV (.str "stack") [.str "saw", .str "split"] = false by decide +kernel]
          refine iteF ⟨_, rfl, p, _, 0, _, rfl, rfl, SqT.of (e _ _ hp), atI_nat (j := 0) (at0 rfl), by show 2 ≤ sizeLine; decide, fun t nt => ⟨t, _, rfl, .inr (SqT.of upd_same), rfl, rfl, _, rfl, ?_⟩⟩
          have e' := e.trans (same_new (o := .tup [.str "glue", .str "stack"]) nt)
          rw [show inV (.str "stack") [.str "glue", .str "stack"] = true by decide +kernel]
          exact iteT ⟨_, rfl, p, _, _, rfl, hS2.same e', .inr rfl, .stack hs hn hc, hb, fun H3 s3 => ⟨rfl, e'.trans s3⟩⟩
        | @turn x c hc =>
          obtain ⟨ws, hp', hts⟩ := hS2
          match ws, hts with
          | [w0, w1, w2], .cons g0 (.cons ⟨px, e1, hx⟩ (.cons _ .nil)) =>
            subst e1
            cases (show w0 = .str "turn" from g0)
            have l1 := sheet_len hb.2.1.s64
            refine ⟨_, rfl, p, _, 0, _, rfl, rfl, SqT.of hp', atI_nat (j := 0) rfl, by show 2 ≤ sizeLine; decide, fun t nt => ⟨t, _, rfl, .inr (SqT.of upd_same), rfl, rfl, _, rfl, ?_⟩⟩
            have e := same_new (o := .tup [.str "saw", .str "split"]) nt
            rw [show inV (.str "turn") [.str "saw", .str "split"] = false by decide +kernel]
            refine iteF ⟨_, rfl, p, _, 0, _, rfl, rfl, SqT.of (e _ _ hp'), atI_nat (j := 0) rfl, by show 2 ≤ sizeLine; decide, fun t nt => ⟨t, _, rfl, .inr (SqT.of upd_same), rfl, rfl, _, rfl, ?_⟩⟩
            have e' := e.trans (same_new (o := .tup [.str "glue", .str "stack"]) nt)
            rw [show inV (.str "turn") [.str "glue", .str "stack"] = false by decide +kernel]
            refine iteF ⟨_, rfl, by first | (rw [sz_eq]; omega) | (simp only [Str.length_append, Str.empty_append, k1, k2, k3, k4, k5, k6, k7, k8, k9, k10, k11, k12]; rw [sz_eq]; omega), _, rfl, p, _, 1, .ref px, rfl, rfl, SqT.of (e' _ _ hp'), atI_nat (j := 1) rfl, px, x, rfl, hx.same e', hb.2.1.s64, fun H3 s3 => .inl ⟨_, rfl, by first | (rw [sz_eq]; omega) | (simp only [Str.length_append, Str.empty_append, k1, k2, k3, k4, k5, k6, k7, k8, k9, k10, k11, k12]; rw [sz_eq]; omega), _, rfl, by first | (rw [sz_eq]; omega) | (simp only [Str.length_append, Str.empty_append, k1, k2, k3, k4, k5, k6, k7, k8, k9, k10, k11, k12]; rw [sz_eq]; omega), ?_⟩⟩
            rw [Str.empty_append]
            exact ⟨rfl, e'.trans s3⟩
      rintro σ G ⟨rfl, sG⟩
      refine ⟨_, rfl, .inl ⟨_, rfl, by first | (rw [sz_eq]; omega) | (simp only [Str.length_append, Str.empty_append, k1, k2, k3, k4, k5, k6, k7, k8, k9, k10, k11, k12]; rw [sz_eq]; omega), _, rfl, by first | (rw [sz_eq]; omega) | (simp only [Str.length_append, Str.empty_append, k1, k2, k3, k4, k5, k6, k7, k8, k9, k10, k11, k12]; rw [sz_eq]; omega), _, rfl, by first | (rw [sz_eq]; omega) | (simp only [Str.length_append, Str.empty_append, k1, k2, k3, k4, k5, k6, k7, k8, k9, k10, k11, k12]; rw [sz_eq]; omega), _, rfl, 1, rfl, p, _, -1, .int (cpI ts), rfl, rfl, SqT.of (sG _ _ hp), atI_last vs _, cpI ts, rfl, c64, fun H3 s3 => .inl ⟨_, rfl, by first | (rw [sz_eq]; omega) | (simp only [Str.length_append, Str.empty_append, k1, k2, k3, k4, k5, k6, k7, k8, k9, k10, k11, k12]; rw [sz_eq]; omega), _, rfl, by first | (rw [sz_eq]; omega) | (simp only [Str.length_append, Str.empty_append, k1, k2, k3, k4, k5, k6, k7, k8, k9, k10, k11, k12]; rw [sz_eq]; omega), ?_⟩⟩⟩
      rw [Str.empty_append]
      exact q _ (s12.trans (sG.trans s3))
    · obtain ⟨⟨t, ht, hz⟩, _⟩ := fo
      match i, ht with
      | 0, ht =>
        cases ht
        exact (q2 hz).up s1
end
/-! ### step_text by the law -/
section
variable {base : Heap} {K : PySem.W.Frag} {mg : Str → Option Value} {P : Program} {w : World}
def spLStepT : Sp := fun vs H Q _ => ∃ (p : Addr) (ts : List Itm), vs = [.ref p] ∧ StepAt H p ts ∧ stepB ts = true ∧ B20 ts ∧ ∀ H', Same H H' → Q (.str (stepT ts)) H'
theorem ok_lstep_text (T : Txt K mg) : FnOk P w K mg base CX0 3 T.f_lstep_text T.d_lstep_text ["_law_step_z"] spLStepT := by
  refine T.F_lstep_text.ok sc_lstep_text (fun vs H Q E h => ?_) (fun cdv A outer s H vs Q E hr h => ?_)
  · obtain ⟨p, ts, rfl, _⟩ := h
    rfl
  · obtain ⟨p, ts, rfl, ⟨vs, hp, hts⟩, ok, hb, q⟩ := h
    refine ⟨_, (pss_cons (ps_par3 (i := 1) (j := 2) (l := 3) (by rfl) sc_lstep_text.nd rfl rfl rfl (by decide) (by decide) (by decide) rfl rfl rfl (pa_cons (pe_ix ix_tup (pv 0) pe_int (fun _ _ => rfl)) (pa_cons (pe_call (ok_lsheet_text T) (hr.mono (by decide)) (by rfl) T.g_lsheet_text T.F_lsheet_text.kp T.b_lsheet_text .nil pass0 (pa_cons (pe_ix ix_tup (pv 0) pe_int (fun _ _ => rfl)) pa_nil)) (pa_cons (pe_op op_add_str pe_str (pe_callTy call_str_int (by rfl) T.n_str (by decide +kernel) (pa_cons (pe_ix ix_tup (pv 0) (pe_un un_neg pe_int) (fun _ _ => rfl)) pa_nil))) pa_nil))) (by rfl))
      (pss_cons (ps_if (pt_cmpR op_eq (pv 1) pe_str (nomark _)) (pss_one (ps_ret (pe_op op_add_str (pe_op op_add_str (pe_op op_add_str (pe_op op_add_str (pe_op op_add_str (pe_op op_add_str pe_str (pv 2)) pe_str) (pe_ix ix_tup (pv 0) pe_int (fun _ _ => rfl))) pe_str) (pe_call (ok_lpair_text T) (hr.mono (by decide)) (by rfl) T.g_lpair_text T.F_lpair_text.kp T.b_lpair_text .nil pass0 (pa_cons (pe_ix ix_tup (pv 0) pe_int (fun _ _ => rfl)) pa_nil))) (pv 3)))) pss_nil)
      (pss_cons (ps_if (pt_cmpR op_eq (pv 1) pe_str (nomark _)) (pss_one (ps_ret (pe_op op_add_str (pe_op op_add_str (pe_op op_add_str (pe_op op_add_str (pe_op op_add_str (pe_op op_add_str pe_str (pv 2)) pe_str) (pe_ix ix_tup (pv 0) pe_int (fun _ _ => rfl))) pe_str) (pe_callTy call_str_int (by rfl) T.n_str (by decide +kernel) (pa_cons (pe_ix ix_tup (pv 0) pe_int (fun _ _ => rfl)) pa_nil))) (pv 3)))) pss_nil)
      (pss_cons (ps_if (pt_cmpR op_eq (pv 1) pe_str (nomark _)) (pss_one (ps_ret (pe_op op_add_str (pe_op op_add_str (pe_op op_add_str (pe_op op_add_str (pe_op op_add_str (pe_op op_add_str pe_str (pv 2)) pe_str) (pe_call (ok_lsheet_text T) (hr.mono (by decide)) (by rfl) T.g_lsheet_text T.F_lsheet_text.kp T.b_lsheet_text .nil pass0 (pa_cons (pe_ix ix_tup (pv 0) pe_int (fun _ _ => rfl)) pa_nil))) pe_str) (pe_ix ix_tup (pv 0) pe_int (fun _ _ => rfl))) (pv 3)))) pss_nil)
      (pss_cons (ps_if (pt_cmpR op_eq (pv 1) pe_str (nomark _)) (pss_one (ps_ret (pe_op op_add_str (pe_op op_add_str (pe_op op_add_str (pe_op op_add_str (pe_op op_add_str (pe_op op_add_str pe_str (pe_callTy call_str_int (by rfl) T.n_str (by decide +kernel) (pa_cons (pe_ix ix_tup (pv 0) pe_int (fun _ _ => rfl)) pa_nil))) pe_str) (pv 2)) pe_str) (pe_ix ix_tup (pv 0) pe_int (fun _ _ => rfl))) (pv 3)))) pss_nil)
      (pss_one (ps_ret (pe_op op_add_str (pe_op op_add_str pe_str (pv 2)) (pv 3))))))))), ?_⟩
    obtain ⟨k1, k2, k3, k4, k5, k6, k7, k8, k9, k10, k11, k12⟩ := lit_len
    have sh := stepB_shaped ok
    have c64 := b64 (cp_len sh hb)
    have p9 := (text_len c64).2
    rw [hd_text' sh] at q
    cases sh with
    | @saw x sd a b c hs hc =>
      match vs, hts with
      | [v0, v1, v2, v3, v4], .cons h0 (.cons ⟨px, e1, hx⟩ (.cons h2 (.cons ⟨pp, e3, hpp⟩ (.cons h4 .nil)))) =>
        subst e1 e3
        cases (show v0 = .str "saw" from h0)
        cases (show v2 = .str sd from h2)
        cases (show v4 = .int c from h4)
        have p1 := sheet_len hb.2.1.s64
        have p2 := pair_len (b64 hb.2.2.2.1.1) (b64 hb.2.2.2.1.2)
        have p3 := side_len hs
        have c64 : c.natAbs < 10 ^ 64 := c64
        have p9 : (decT c).length ≤ 70 := p9
        have p8 : (toString c : Str).length ≤ 70 := p9
        refine ⟨_, rfl, p, _, 0, _, rfl, rfl, SqT.of hp, atI_nat (j := 0) rfl, _, rfl, p, _, 1, .ref px, rfl, rfl, SqT.of hp, atI_nat (j := 1) rfl, px, x, rfl, hx, hb.2.1.s64, fun H1 s1 => ⟨_, rfl, 1, rfl, p, _, -1, .int c, rfl, rfl, SqT.of (s1 _ _ hp), atI_last [.str "saw", .ref px, .str sd, .ref pp] _, c, rfl, (text_len c64).1, _, _, rfl, rfl, by first | (rw [sz_eq]; omega) | (simp only [Str.length_append, Str.empty_append, k1, k2, k3, k4, k5, k6, k7, k8, k9, k10, k11, k12]; rw [sz_eq]; omega), _, _, _, rfl, ?_⟩⟩
        refine ⟨_, rfl, rfl, _, rfl, ?_⟩
        rw [dS, decide_eq_true rfl]
        refine iteT ?_
        exact ⟨_, rfl, _, _, rfl, rfl, by first | (rw [sz_eq]; omega) | (simp only [Str.length_append, Str.empty_append, k1, k2, k3, k4, k5, k6, k7, k8, k9, k10, k11, k12]; rw [sz_eq]; omega), _, _, rfl, rfl, by first | (rw [sz_eq]; omega) | (simp only [Str.length_append, Str.empty_append, k1, k2, k3, k4, k5, k6, k7, k8, k9, k10, k11, k12]; rw [sz_eq]; omega), _, rfl, p, _, 2, .str sd, rfl, rfl, SqT.of (s1 _ _ hp), atI_nat (j := 2) rfl, _, _, rfl, rfl, by first | (rw [sz_eq]; omega) | (simp only [Str.length_append, Str.empty_append, k1, k2, k3, k4, k5, k6, k7, k8, k9, k10, k11, k12]; rw [sz_eq]; omega), _, _, rfl, rfl, by first | (rw [sz_eq]; omega) | (simp only [Str.length_append, Str.empty_append, k1, k2, k3, k4, k5, k6, k7, k8, k9, k10, k11, k12]; rw [sz_eq]; omega), _, rfl, p, _, 3, .ref pp, rfl, rfl, SqT.of (s1 _ _ hp), atI_nat (j := 3) rfl, pp, a, b, rfl, SqT.of (s1 _ _ hpp), b64 hb.2.2.2.1.1, b64 hb.2.2.2.1.2, fun H2 s2 => ⟨_, _, rfl, rfl, by first | (rw [sz_eq]; omega) | (simp only [Str.length_append, Str.empty_append, k1, k2, k3, k4, k5, k6, k7, k8, k9, k10, k11, k12]; rw [sz_eq]; omega), _, rfl, _, _, rfl, rfl, by first | (rw [sz_eq]; omega) | (simp only [Str.length_append, Str.empty_append, k1, k2, k3, k4, k5, k6, k7, k8, k9, k10, k11, k12]; rw [sz_eq]; omega), q _ (s1.trans s2)⟩⟩
    | @split x sd n c hs hn hc =>
      match vs, hts with
      | [v0, v1, v2, v3, v4], .cons h0 (.cons ⟨px, e1, hx⟩ (.cons h2 (.cons h3 (.cons h4 .nil)))) =>
        subst e1
        cases (show v0 = .str "split" from h0)
        cases (show v2 = .str sd from h2)
        cases (show v3 = .int n from h3)
        cases (show v4 = .int c from h4)
        have p1 := sheet_len hb.2.1.s64
        have p2 := (text_len (b64 hb.2.2.2.1)).2
        have p3 := side_len hs
        have c64 : c.natAbs < 10 ^ 64 := c64
        have p9 : (decT c).length ≤ 70 := p9
        have p8 : (toString c : Str).length ≤ 70 := p9
        have p2 : (decT n).length ≤ 70 := p2
        have p7 : (toString n : Str).length ≤ 70 := p2
        rw [hd_split] at q
        refine ⟨_, rfl, p, _, 0, _, rfl, rfl, SqT.of hp, atI_nat (j := 0) rfl, _, rfl, p, _, 1, .ref px, rfl, rfl, SqT.of hp, atI_nat (j := 1) rfl, px, x, rfl, hx, hb.2.1.s64, fun H1 s1 => ⟨_, rfl, 1, rfl, p, _, -1, .int c, rfl, rfl, SqT.of (s1 _ _ hp), atI_last [.str "split", .ref px, .str sd, .int n] _, c, rfl, (text_len c64).1, _, _, rfl, rfl, by first | (rw [sz_eq]; omega) | (simp only [Str.length_append, Str.empty_append, k1, k2, k3, k4, k5, k6, k7, k8, k9, k10, k11, k12]; rw [sz_eq]; omega), _, _, _, rfl, ?_⟩⟩
        refine ⟨_, rfl, rfl, _, rfl, ?_⟩
        rw [dS, decide_eq_false (by decide +kernel)]
        refine iteF ?_
        refine ⟨_, rfl, rfl, _, rfl, ?_⟩
        rw [dS, decide_eq_true rfl]
        refine iteT ?_
        exact ⟨_, rfl, _, _, rfl, rfl, by first | (rw [sz_eq]; omega) | (simp only [Str.length_append, Str.empty_append, k1, k2, k3, k4, k5, k6, k7, k8, k9, k10, k11, k12]; rw [sz_eq]; omega), _, _, rfl, rfl, by first | (rw [sz_eq]; omega) | (simp only [Str.length_append, Str.empty_append, k1, k2, k3, k4, k5, k6, k7, k8, k9, k10, k11, k12]; rw [sz_eq]; omega), _, rfl, p, _, 2, .str sd, rfl, rfl, SqT.of (s1 _ _ hp), atI_nat (j := 2) rfl, _, _, rfl, rfl, by first | (rw [sz_eq]; omega) | (simp only [Str.length_append, Str.empty_append, k1, k2, k3, k4, k5, k6, k7, k8, k9, k10, k11, k12]; rw [sz_eq]; omega), _, _, rfl, rfl, by first | (rw [sz_eq]; omega) | (simp only [Str.length_append, Str.empty_append, k1, k2, k3, k4, k5, k6, k7, k8, k9, k10, k11, k12]; rw [sz_eq]; omega), _, rfl, p, _, 3, .int n, rfl, rfl, SqT.of (s1 _ _ hp), atI_nat (j := 3) rfl, n, rfl, (text_len (b64 hb.2.2.2.1)).1, _, _, rfl, rfl, by first | (rw [sz_eq]; omega) | (simp only [Str.length_append, Str.empty_append, k1, k2, k3, k4, k5, k6, k7, k8, k9, k10, k11, k12]; rw [sz_eq]; omega), _, rfl, _, _, rfl, rfl, by first | (rw [sz_eq]; omega) | (simp only [Str.length_append, Str.empty_append, k1, k2, k3, k4, k5, k6, k7, k8, k9, k10, k11, k12]; rw [sz_eq]; omega), q _ s1⟩
    | @glue x y sd c hs hc =>
      match vs, hts with
      | [v0, v1, v2, v3, v4], .cons h0 (.cons ⟨px, e1, hx⟩ (.cons ⟨py, e2, hy⟩ (.cons h3 (.cons h4 .nil)))) =>
        subst e1 e2
        cases (show v0 = .str "glue" from h0)
        cases (show v3 = .str sd from h3)
        cases (show v4 = .int c from h4)
        have p1 := sheet_len hb.2.1.s64
        have p2 := sheet_len hb.2.2.1.s64
        have p3 := side_len hs
        have c64 : c.natAbs < 10 ^ 64 := c64
        have p9 : (decT c).length ≤ 70 := p9
        have p8 : (toString c : Str).length ≤ 70 := p9
        refine ⟨_, rfl, p, _, 0, _, rfl, rfl, SqT.of hp, atI_nat (j := 0) rfl, _, rfl, p, _, 1, .ref px, rfl, rfl, SqT.of hp, atI_nat (j := 1) rfl, px, x, rfl, hx, hb.2.1.s64, fun H1 s1 => ⟨_, rfl, 1, rfl, p, _, -1, .int c, rfl, rfl, SqT.of (s1 _ _ hp), atI_last [.str "glue", .ref px, .ref py, .str sd] _, c, rfl, (text_len c64).1, _, _, rfl, rfl, by first | (rw [sz_eq]; omega) | (simp only [Str.length_append, Str.empty_append, k1, k2, k3, k4, k5, k6, k7, k8, k9, k10, k11, k12]; rw [sz_eq]; omega), _, _, _, rfl, ?_⟩⟩
        refine ⟨_, rfl, rfl, _, rfl, ?_⟩
        rw [dS, decide_eq_false (by decide +kernel)]
        refine iteF ?_
        refine ⟨_, rfl, rfl, _, rfl, ?_⟩
        rw [dS, decide_eq_false (by decide +kernel)]
        refine iteF ?_
        refine ⟨_, rfl, rfl, _, rfl, ?_⟩
        rw [dS, decide_eq_true rfl]
        refine iteT ?_
        exact ⟨_, rfl, _, _, rfl, rfl, by first | (rw [sz_eq]; omega) | (simp only [Str.length_append, Str.empty_append, k1, k2, k3, k4, k5, k6, k7, k8, k9, k10, k11, k12]; rw [sz_eq]; omega), _, _, rfl, rfl, by first | (rw [sz_eq]; omega) | (simp only [Str.length_append, Str.empty_append, k1, k2, k3, k4, k5, k6, k7, k8, k9, k10, k11, k12]; rw [sz_eq]; omega), _, rfl, p, _, 2, .ref py, rfl, rfl, SqT.of (s1 _ _ hp), atI_nat (j := 2) rfl, py, y, rfl, hy.same s1, hb.2.2.1.s64, fun H2 s2 => ⟨_, _, rfl, rfl, by first | (rw [sz_eq]; omega) | (simp only [Str.length_append, Str.empty_append, k1, k2, k3, k4, k5, k6, k7, k8, k9, k10, k11, k12]; rw [sz_eq]; omega), _, _, rfl, rfl, by first | (rw [sz_eq]; omega) | (simp only [Str.length_append, Str.empty_append, k1, k2, k3, k4, k5, k6, k7, k8, k9, k10, k11, k12]; rw [sz_eq]; omega), _, rfl, p, _, 3, .str sd, rfl, rfl, SqT.of (s2 _ _ (s1 _ _ hp)), atI_nat (j := 3) rfl, _, _, rfl, rfl, by first | (rw [sz_eq]; omega) | (simp only [Str.length_append, Str.empty_append, k1, k2, k3, k4, k5, k6, k7, k8, k9, k10, k11, k12]; rw [sz_eq]; omega), _, rfl, _, _, rfl, rfl, by first | (rw [sz_eq]; omega) | (simp only [Str.length_append, Str.empty_append, k1, k2, k3, k4, k5, k6, k7, k8, k9, k10, k11, k12]; rw [sz_eq]; omega), q _ (s1.trans s2)⟩⟩
    | @stack x sd n c hs hn hc =>
      match vs, hts with
      | [v0, v1, v2, v3, v4], .cons h0 (.cons ⟨px, e1, hx⟩ (.cons h2 (.cons h3 (.cons h4 .nil)))) =>
        subst e1
        cases (show v0 = .str "stack" from h0)
        cases (show v2 = .str sd from h2)
        cases (show v3 = .int n from h3)
        cases (show v4 = .int c from h4)
        have p1 := sheet_len hb.2.1.s64
        have p2 := (text_len (b64 hb.2.2.2.1)).2
        have p3 := side_len hs
        have c64 : c.natAbs < 10 ^ 64 := c64
        have p9 : (decT c).length ≤ 70 := p9
        have p8 : (toString c : Str).length ≤ 70 := p9
        have p2 : (decT n).length ≤ 70 := p2
        have p7 : (toString n : Str).length ≤ 70 := p2
        rw [hd_stack] at q
        refine ⟨_, rfl, p, _, 0, _, rfl, rfl, SqT.of hp, atI_nat (j := 0) rfl, _, rfl, p, _, 1, .ref px, rfl, rfl, SqT.of hp, atI_nat (j := 1) rfl, px, x, rfl, hx, hb.2.1.s64, fun H1 s1 => ⟨_, rfl, 1, rfl, p, _, -1, .int c, rfl, rfl, SqT.of (s1 _ _ hp), atI_last [.str "stack", .ref px, .str sd, .int n] _, c, rfl, (text_len c64).1, _, _, rfl, rfl, by first | (rw [sz_eq]; omega) | (simp only [Str.length_append, Str.empty_append, k1, k2, k3, k4, k5, k6, k7, k8, k9, k10, k11, k12]; rw [sz_eq]; omega), _, _, _, rfl, ?_⟩⟩
        refine ⟨_, rfl, rfl, _, rfl, ?_⟩
        rw [dS, decide_eq_false (by decide +kernel)]
        refine iteF ?_
        refine ⟨_, rfl, rfl, _, rfl, ?_⟩
        rw [dS, decide_eq_false (by decide +kernel)]
        refine iteF ?_
        refine ⟨_, rfl, rfl, _, rfl, ?_⟩
        rw [dS, decide_eq_false (by decide +kernel)]
        refine iteF ?_
        refine ⟨_, rfl, rfl, _, rfl, ?_⟩
        rw [dS, decide_eq_true rfl]
        refine iteT ?_
        exact ⟨_, rfl, p, _, 3, .int n, rfl, rfl, SqT.of (s1 _ _ hp), atI_nat (j := 3) rfl, n, rfl, (text_len (b64 hb.2.2.2.1)).1, _, _, rfl, rfl, by first | (rw [sz_eq]; omega) | (simp only [Str.length_append, Str.empty_append, k1, k2, k3, k4, k5, k6, k7, k8, k9, k10, k11, k12]; rw [sz_eq]; omega), _, _, rfl, rfl, by first | (rw [sz_eq]; omega) | (simp only [Str.length_append, Str.empty_append, k1, k2, k3, k4, k5, k6, k7, k8, k9, k10, k11, k12]; rw [sz_eq]; omega), _, rfl, _, _, rfl, rfl, by first | (rw [sz_eq]; omega) | (simp only [Str.length_append, Str.empty_append, k1, k2, k3, k4, k5, k6, k7, k8, k9, k10, k11, k12]; rw [sz_eq]; omega), _, _, rfl, rfl, by first | (rw [sz_eq]; omega) | (simp only [Str.length_append, Str.empty_append, k1, k2, k3, k4, k5, k6, k7, k8, k9, k10, k11, k12]; rw [sz_eq]; omega), _, rfl, p, _, 2, .str sd, rfl, rfl, SqT.of (s1 _ _ hp), atI_nat (j := 2) rfl, _, _, rfl, rfl, by first | (rw [sz_eq]; omega) | (simp only [Str.length_append, Str.empty_append, k1, k2, k3, k4, k5, k6, k7, k8, k9, k10, k11, k12]; rw [sz_eq]; omega), _, rfl, _, _, rfl, rfl, by first | (rw [sz_eq]; omega) | (simp only [Str.length_append, Str.empty_append, k1, k2, k3, k4, k5, k6, k7, k8, k9, k10, k11, k12]; rw [sz_eq]; omega), q _ s1⟩
    | @turn x c hc =>
      match vs, hts with
      | [v0, v1, v2], .cons h0 (.cons ⟨px, e1, hx⟩ (.cons h4 .nil)) =>
        subst e1
        cases (show v0 = .str "turn" from h0)
        cases (show v2 = .int c from h4)
        have p1 := sheet_len hb.2.1.s64
        have c64 : c.natAbs < 10 ^ 64 := c64
        have p9 : (decT c).length ≤ 70 := p9
        have p8 : (toString c : Str).length ≤ 70 := p9
        refine ⟨_, rfl, p, _, 0, _, rfl, rfl, SqT.of hp, atI_nat (j := 0) rfl, _, rfl, p, _, 1, .ref px, rfl, rfl, SqT.of hp, atI_nat (j := 1) rfl, px, x, rfl, hx, hb.2.1.s64, fun H1 s1 => ⟨_, rfl, 1, rfl, p, _, -1, .int c, rfl, rfl, SqT.of (s1 _ _ hp), atI_last [.str "turn", .ref px] _, c, rfl, (text_len c64).1, _, _, rfl, rfl, by first | (rw [sz_eq]; omega) | (simp only [Str.length_append, Str.empty_append, k1, k2, k3, k4, k5, k6, k7, k8, k9, k10, k11, k12]; rw [sz_eq]; omega), _, _, _, rfl, ?_⟩⟩
        refine ⟨_, rfl, rfl, _, rfl, ?_⟩
        rw [dS, decide_eq_false (by decide +kernel)]
        refine iteF ?_
        refine ⟨_, rfl, rfl, _, rfl, ?_⟩
        rw [dS, decide_eq_false (by decide +kernel)]
        refine iteF ?_
        refine ⟨_, rfl, rfl, _, rfl, ?_⟩
        rw [dS, decide_eq_false (by decide +kernel)]
        refine iteF ?_
        refine ⟨_, rfl, rfl, _, rfl, ?_⟩
        rw [dS, decide_eq_false (by decide +kernel)]
        refine iteF ?_
        exact ⟨_, rfl, _, _, rfl, rfl, by first | (rw [sz_eq]; omega) | (simp only [Str.length_append, Str.empty_append, k1, k2, k3, k4, k5, k6, k7, k8, k9, k10, k11, k12]; rw [sz_eq]; omega), _, rfl, _, _, rfl, rfl, by first | (rw [sz_eq]; omega) | (simp only [Str.length_append, Str.empty_append, k1, k2, k3, k4, k5, k6, k7, k8, k9, k10, k11, k12]; rw [sz_eq]; omega), q _ s1⟩
end
/-! ### steps that are read, by the program -/
abbrev szs : List (Str × Int) := [("saw", 9), ("split", 9), ("glue", 11), ("stack", 9), ("turn", 6)]
theorem sz_none {w : Str} (h1 : w ≠ "saw") (h2 : w ≠ "split") (h3 : w ≠ "glue") (h4 : w ≠ "stack") (h5 : w ≠ "turn") : szs.lookup w = none := by
  have e : ∀ c : Str, w ≠ c → (w == c) = false := fun c h => beq_eq_false_iff_ne.mpr h
  simp only [szs, List.lookup_cons, e _ h1, e _ h2, e _ h3, e _ h4, e _ h5, List.lookup_nil]
theorem items_not {w : Str} {r : List Str} (h : (w :: r).length ≠ ((szs.lookup w).getD 0).toNat) : itemsP (w :: r) = [] := by
  have g1 : szs.lookup (Str.ofString "saw") = some 9 := by decide +kernel
  have g2 : szs.lookup (Str.ofString "split") = some 9 := by decide +kernel
  have g3 : szs.lookup (Str.ofString "glue") = some 11 := by decide +kernel
  have g4 : szs.lookup (Str.ofString "stack") = some 9 := by decide +kernel
  have g5 : szs.lookup (Str.ofString "turn") = some 6 := by decide +kernel
  unfold itemsP
  split
  · rename_i heq
    cases heq
    rw [if_neg, if_neg, if_neg] <;> rintro rfl
    · rw [g2] at h; exact h rfl
    · rw [g1] at h; exact h rfl
    · rw [g4] at h; exact h rfl
  · rename_i heq
    cases heq
    rw [if_neg]
    rintro rfl
    rw [g3] at h
    exact h rfl
  · rename_i heq
    cases heq
    rw [if_neg]
    rintro rfl
    rw [g5] at h
    exact h rfl
  · rfl
theorem ite_nt {p : Prop} [Decidable p] {A B : Prop} (h : p) (k : B) : if (!decide p) = true then A else B := by
  rw [decide_eq_true h]
  exact k
theorem ite_nf {p : Prop} [Decidable p] {A B : Prop} (h : ¬ p) (k : A) : if (!decide p) = true then A else B := by
  rw [decide_eq_false h]
  exact k
section
variable {base : Heap} {K : PySem.W.Frag} {mg : Str → Option Value} {P : Program} {w : World}
theorem read_shI {H : Hp} {z : Str} {Q : VK} {E : XK} (hz : z.length ≤ 5800) (q : ∀ v H', Same H H' → ItAt H' v (shI z) → Q v H') : spReadSh [.str z] H Q E := by
  refine ⟨z, rfl, hz, fun H' s h => q _ _ s ?_, fun x p H' h s hp => q _ _ s ?_⟩
  · unfold shI
    rw [h]
    exact rfl
  · unfold shI
    rw [h]
    exact ⟨p, rfl, hp⟩
theorem read_nI {H : Hp} {z : Str} {Q : VK} {E : XK} (hz : z.length ≤ 6000) (q : ∀ v H', Same H H' → ItAt H' v (nIt z) → Q v H') : spReadN [.str z] H Q E := by
  refine ⟨z, rfl, hz, fun H' s => q _ _ s ?_⟩
  show ItAt H' (optV (rn z)) (nIt z)
  unfold nIt
  cases rn z <;> exact rfl
theorem read_pI {H : Hp} {z : Str} {Q : VK} {E : XK} (hz : z.length ≤ 5900) (q : ∀ v H', Same H H' → ItAt H' v (pIt z) → Q v H') : spReadP [.str z] H Q E := by
  refine read_due hz fun v H' s h => q _ _ s ?_
  unfold pIt
  generalize rp z = o at h
  match o, h with
  | none, h => exact h
  | some (m, n), ⟨t, e, h⟩ => exact ⟨t, e, h⟩
def spItems : Sp := fun vs H Q _ => ∃ (l : Addr) (w : Str) (ws : List Str), vs = [.ref l] ∧ H l = some (.lst ((w :: ws).map V.str)) ∧ ((w :: ws).map (·.length)).sum + (w :: ws).length ≤ 5701 ∧ ∀ p H', Same H H' → StepAt H' p (itemsP (w :: ws)) → Q (.ref p) H'
theorem ok_items_of_step (T : Txt K mg) (S : Szs K w T.u_STEP_SIZES) : FnOk P w K mg base CX0 6 T.f_items_of_step T.d_items_of_step ["words"] spItems := by
  obtain ⟨esS, nS, SD⟩ := S.ex
  refine T.F_items_of_step.ok sc_items_of_step (fun vs H Q E h => ?_) (fun cdv A outer s H vs Q E hr h => ?_)
  · obtain ⟨l, w, ws, rfl, _⟩ := h
    rfl
  · obtain ⟨l, w0, ws, rfl, hl, hw, q⟩ := h
    refine ⟨_, (pss_cons (ps_if (pt_cmpR op_ne (pe_callB call_len_seq (by rfl) T.n_len (by decide +kernel) (pa_cons (pv 0) pa_nil)) (pe_kdgetI SD T.z_STEP_SIZES (pe_glob (v := .ref T.u_STEP_SIZES) (by rfl) T.g_STEP_SIZES rfl) (pe_ix ix_list (pv 0) pe_int (fun _ _ => rfl)) pe_int ⟨by rfl, by rfl, by rfl, by rfl⟩) (nomark _)) (pss_one (ps_ret (pe_tup pa_nil))) pss_nil)
      (pss_cons (ps_set (i := 1) sc_items_of_step.nd rfl (Or.inl rfl) (pe_call (ok_read_number T) (hr.mono (by decide)) (by rfl) T.g_read_number T.F_read_number.kp T.b_read_number .nil pass0 (pa_cons (pe_ix ix_list (pv 0) (pe_un un_neg pe_int) (fun _ _ => rfl)) pa_nil)))
      (pss_cons (ps_if (pt_cmpR op_eq (pe_ix ix_list (pv 0) pe_int (fun _ _ => rfl)) pe_str (nomark _)) (pss_one (ps_ret (pe_tup (pa_cons pe_str (pa_cons (pe_call (ok_read_sheet T) (hr.mono (by decide)) (by rfl) T.g_read_sheet T.F_read_sheet.kp T.b_read_sheet .nil pass0 (pa_cons (pe_join pe_str (pe_slice sl_list (pv 0) (po_some pe_int) (po_some pe_int))) pa_nil)) (pa_cons (pe_ix ix_list (pv 0) pe_int (fun _ _ => rfl)) (pa_cons (pe_call (ok_read_number T) (hr.mono (by decide)) (by rfl) T.g_read_number T.F_read_number.kp T.b_read_number .nil pass0 (pa_cons (pe_ix ix_list (pv 0) pe_int (fun _ _ => rfl)) pa_nil)) (pa_cons (pv 1) pa_nil)))))))) pss_nil)
      (pss_cons (ps_set (i := 2) sc_items_of_step.nd rfl (Or.inl rfl) (pe_call (ok_read_sheet T) (hr.mono (by decide)) (by rfl) T.g_read_sheet T.F_read_sheet.kp T.b_read_sheet .nil pass0 (pa_cons (pe_join pe_str (pe_slice sl_list (pv 0) (po_some pe_int) (po_some pe_int))) pa_nil)))
      (pss_cons (ps_if (pt_cmpR op_eq (pe_ix ix_list (pv 0) pe_int (fun _ _ => rfl)) pe_str (nomark _)) (pss_one (ps_ret (pe_tup (pa_cons pe_str (pa_cons (pv 2) (pa_cons (pe_ix ix_list (pv 0) pe_int (fun _ _ => rfl)) (pa_cons (pe_call (ok_read_pair T) (hr.mono (by decide)) (by rfl) T.g_read_pair T.F_read_pair.kp T.b_read_pair .nil pass0 (pa_cons (pe_ix ix_list (pv 0) pe_int (fun _ _ => rfl)) pa_nil)) (pa_cons (pv 1) pa_nil)))))))) pss_nil)
      (pss_cons (ps_if (pt_cmpR op_eq (pe_ix ix_list (pv 0) pe_int (fun _ _ => rfl)) pe_str (nomark _)) (pss_one (ps_ret (pe_tup (pa_cons pe_str (pa_cons (pv 2) (pa_cons (pe_ix ix_list (pv 0) pe_int (fun _ _ => rfl)) (pa_cons (pe_call (ok_read_number T) (hr.mono (by decide)) (by rfl) T.g_read_number T.F_read_number.kp T.b_read_number .nil pass0 (pa_cons (pe_ix ix_list (pv 0) pe_int (fun _ _ => rfl)) pa_nil)) (pa_cons (pv 1) pa_nil)))))))) pss_nil)
      (pss_cons (ps_if (pt_cmpR op_eq (pe_ix ix_list (pv 0) pe_int (fun _ _ => rfl)) pe_str (nomark _)) (pss_one (ps_ret (pe_tup (pa_cons pe_str (pa_cons (pv 2) (pa_cons (pe_call (ok_read_sheet T) (hr.mono (by decide)) (by rfl) T.g_read_sheet T.F_read_sheet.kp T.b_read_sheet .nil pass0 (pa_cons (pe_join pe_str (pe_slice sl_list (pv 0) (po_some pe_int) (po_some pe_int))) pa_nil)) (pa_cons (pe_ix ix_list (pv 0) pe_int (fun _ _ => rfl)) (pa_cons (pv 1) pa_nil)))))))) pss_nil)
      (pss_one (ps_ret (pe_tup (pa_cons pe_str (pa_cons (pv 2) (pa_cons (pv 1) pa_nil))))))))))))), ?_⟩
    have b1 : (Str.ofString " ").length = 1 := by decide +kernel
    refine ⟨_, rfl, l, _, rfl, .inl (SqL.of hl), rfl, _, rfl, l, _, 0, .str w0, rfl, rfl, SqL.of hl, atI_nat (j := 0) rfl, w0, 0, rfl, rfl, rfl, _, rfl, ?_⟩
    by_cases hs : (w0 :: ws).length ≠ ((szs.lookup w0).getD 0).toNat
    · rw [items_not hs] at q
      refine ite_nf (fun z => hs ?_) ⟨Nat.zero_le _, fun p np => q p _ (same_new np) ⟨[], upd_same, .nil⟩⟩
      have z := V.int.inj z
      rw [List.length_map] at z
      rw [← z]
      rfl
    have hs := Classical.not_not.mp hs
    have five : w0 = "saw" ∨ w0 = "split" ∨ w0 = "glue" ∨ w0 = "stack" ∨ w0 = "turn" := by
      by_cases h1 : w0 = "saw"
      · exact .inl h1
      by_cases h2 : w0 = "split"
      · exact .inr (.inl h2)
      by_cases h3 : w0 = "glue"
      · exact .inr (.inr (.inl h3))
      by_cases h4 : w0 = "stack"
      · exact .inr (.inr (.inr (.inl h4)))
      by_cases h5 : w0 = "turn"
      · exact .inr (.inr (.inr (.inr h5)))
      rw [sz_none h1 h2 h3 h4 h5] at hs
      cases hs
    rcases five with rfl | rfl | rfl | rfl | rfl
    · have g : szs.lookup (Str.ofString "saw") = some 9 := by decide +kernel
      have hn : ws.length = 8 := by
        rw [g, List.length_cons] at hs
        have : ws.length + 1 = 9 := hs
        omega
      match ws, hn with
      | [w1, w2, w3, w4, w5, w6, w7, w8], _ =>
        simp only [List.map_cons, List.map_nil, List.sum_cons, List.sum_nil, List.length_cons, List.length_nil] at hw
        refine ite_nt (congrArg V.int (by rw [g]; rfl)) ?_
        refine ⟨_, rfl, 1, rfl, l, _, -1, .str w8, rfl, rfl, SqL.of hl, atI_last (([Str.ofString "saw", w1, w2, w3, w4, w5, w6, w7] : List Str).map V.str) (.str w8), ?_⟩
        (try unfold tNil)
        refine read_nI (by omega) fun cv H1 s1 hc => ?_
        have hl1 := s1 _ _ hl
        refine ⟨_, rfl, l, _, 0, .str (Str.ofString "saw"), rfl, rfl, SqL.of hl1, atI_nat (j := 0) rfl, rfl, _, rfl, ?_⟩
        rw [dS, decide_eq_false (by decide +kernel)]
        refine iteF ?_
        refine ⟨⟨_, rfl⟩, _, rfl, 1, rfl, 4, rfl, l, _, rfl, SqL.of hl1, fun D2 m2 => ⟨_, D2, [w1, w2, w3], rfl, rfl, .inl (SqL.of upd_same), ?_, ?_⟩⟩
        · simp only [List.map_cons, List.map_nil, List.sum_cons, List.sum_nil, List.length_cons, List.length_nil, b1]
          omega
        (try unfold tNil)
        have jl2 := TL.join_eq (Str.ofString " ") [w1, w2, w3]
        refine read_shI (by rw [jl2]; exact Nat.le_trans (join_len_le _ _) (by simp only [List.map_cons, List.map_nil, List.sum_cons, List.sum_nil, List.length_cons, List.length_nil, b1]; omega)) fun v2 H2 s2 h2 => ?_
        rw [jl2] at h2
        have e2 := (same_new (o := .lst ([w1, w2, w3].map V.str)) m2).trans s2
        have hl2 := e2 _ _ hl1
        refine ⟨_, rfl, l, _, 0, .str (Str.ofString "saw"), rfl, rfl, SqL.of hl2, atI_nat (j := 0) rfl, rfl, _, rfl, ?_⟩
        rw [dS, decide_eq_true rfl]
        refine iteT ?_
        refine ⟨_, rfl, _, rfl, l, _, 4, .str w4, rfl, rfl, SqL.of hl2, atI_nat (j := 4) rfl, _, rfl, l, _, 6, .str w6, rfl, rfl, SqL.of hl2, atI_nat (j := 6) rfl, ?_⟩
        refine read_pI (by omega) fun v3 H3 s3 h3 => ⟨_, rfl, by show 5 ≤ sizeLine; decide, fun p np => ?_⟩
        have e := same_new (o := .tup [.str (Str.ofString "saw"), v2, .str w4, v3, cv]) np
        refine q p _ (s1.trans (e2.trans (s3.trans e))) ⟨_, upd_same, ?_⟩
        simp only [itemsP, if_true]
        rw [if_neg (by decide +kernel)]
        exact .cons rfl (.cons ((h2.same s3).same e) (.cons rfl (.cons (h3.same e) (.cons (((hc.same e2).same s3).same e) .nil))))
    · have g : szs.lookup (Str.ofString "split") = some 9 := by decide +kernel
      have hn : ws.length = 8 := by
        rw [g, List.length_cons] at hs
        have : ws.length + 1 = 9 := hs
        omega
      match ws, hn with
      | [w1, w2, w3, w4, w5, w6, w7, w8], _ =>
        simp only [List.map_cons, List.map_nil, List.sum_cons, List.sum_nil, List.length_cons, List.length_nil] at hw
        refine ite_nt (congrArg V.int (by rw [g]; rfl)) ?_
        refine ⟨_, rfl, 1, rfl, l, _, -1, .str w8, rfl, rfl, SqL.of hl, atI_last (([Str.ofString "split", w1, w2, w3, w4, w5, w6, w7] : List Str).map V.str) (.str w8), ?_⟩
        (try unfold tNil)
        refine read_nI (by omega) fun cv H1 s1 hc => ?_
        have hl1 := s1 _ _ hl
        refine ⟨_, rfl, l, _, 0, .str (Str.ofString "split"), rfl, rfl, SqL.of hl1, atI_nat (j := 0) rfl, rfl, _, rfl, ?_⟩
        rw [dS, decide_eq_false (by decide +kernel)]
        refine iteF ?_
        refine ⟨⟨_, rfl⟩, _, rfl, 1, rfl, 4, rfl, l, _, rfl, SqL.of hl1, fun D2 m2 => ⟨_, D2, [w1, w2, w3], rfl, rfl, .inl (SqL.of upd_same), ?_, ?_⟩⟩
        · simp only [List.map_cons, List.map_nil, List.sum_cons, List.sum_nil, List.length_cons, List.length_nil, b1]
          omega
        (try unfold tNil)
        have jl2 := TL.join_eq (Str.ofString " ") [w1, w2, w3]
        refine read_shI (by rw [jl2]; exact Nat.le_trans (join_len_le _ _) (by simp only [List.map_cons, List.map_nil, List.sum_cons, List.sum_nil, List.length_cons, List.length_nil, b1]; omega)) fun v2 H2 s2 h2 => ?_
        rw [jl2] at h2
        have e2 := (same_new (o := .lst ([w1, w2, w3].map V.str)) m2).trans s2
        have hl2 := e2 _ _ hl1
        refine ⟨_, rfl, l, _, 0, .str (Str.ofString "split"), rfl, rfl, SqL.of hl2, atI_nat (j := 0) rfl, rfl, _, rfl, ?_⟩
        rw [dS, decide_eq_false (by decide +kernel)]
        refine iteF ?_
        refine ⟨_, rfl, l, _, 0, .str (Str.ofString "split"), rfl, rfl, SqL.of hl2, atI_nat (j := 0) rfl, rfl, _, rfl, ?_⟩
        rw [dS, decide_eq_true rfl]
        refine iteT ?_
        refine ⟨_, rfl, _, rfl, l, _, 4, .str w4, rfl, rfl, SqL.of hl2, atI_nat (j := 4) rfl, _, rfl, l, _, 6, .str w6, rfl, rfl, SqL.of hl2, atI_nat (j := 6) rfl, ?_⟩
        refine read_nI (by omega) fun v3 H3 s3 h3 => ⟨_, rfl, by show 5 ≤ sizeLine; decide, fun p np => ?_⟩
        have e := same_new (o := .tup [.str (Str.ofString "split"), v2, .str w4, v3, cv]) np
        refine q p _ (s1.trans (e2.trans (s3.trans e))) ⟨_, upd_same, ?_⟩
        simp only [itemsP, if_true]
        rw [if_neg (by decide +kernel), if_neg (by decide +kernel)]
        exact .cons rfl (.cons ((h2.same s3).same e) (.cons rfl (.cons (h3.same e) (.cons (((hc.same e2).same s3).same e) .nil))))
    · have g : szs.lookup (Str.ofString "glue") = some 11 := by decide +kernel
      have hn : ws.length = 10 := by
        rw [g, List.length_cons] at hs
        have : ws.length + 1 = 11 := hs
        omega
      match ws, hn with
      | [w1, w2, w3, w4, w5, w6, w7, w8, w9, w10], _ =>
        simp only [List.map_cons, List.map_nil, List.sum_cons, List.sum_nil, List.length_cons, List.length_nil] at hw
        refine ite_nt (congrArg V.int (by rw [g]; rfl)) ?_
        refine ⟨_, rfl, 1, rfl, l, _, -1, .str w10, rfl, rfl, SqL.of hl, atI_last (([Str.ofString "glue", w1, w2, w3, w4, w5, w6, w7, w8, w9] : List Str).map V.str) (.str w10), ?_⟩
        (try unfold tNil)
        refine read_nI (by omega) fun cv H1 s1 hc => ?_
        have hl1 := s1 _ _ hl
        refine ⟨_, rfl, l, _, 0, .str (Str.ofString "glue"), rfl, rfl, SqL.of hl1, atI_nat (j := 0) rfl, rfl, _, rfl, ?_⟩
        rw [dS, decide_eq_false (by decide +kernel)]
        refine iteF ?_
        refine ⟨⟨_, rfl⟩, _, rfl, 1, rfl, 4, rfl, l, _, rfl, SqL.of hl1, fun D2 m2 => ⟨_, D2, [w1, w2, w3], rfl, rfl, .inl (SqL.of upd_same), ?_, ?_⟩⟩
        · simp only [List.map_cons, List.map_nil, List.sum_cons, List.sum_nil, List.length_cons, List.length_nil, b1]
          omega
        (try unfold tNil)
        have jl2 := TL.join_eq (Str.ofString " ") [w1, w2, w3]
        refine read_shI (by rw [jl2]; exact Nat.le_trans (join_len_le _ _) (by simp only [List.map_cons, List.map_nil, List.sum_cons, List.sum_nil, List.length_cons, List.length_nil, b1]; omega)) fun v2 H2 s2 h2 => ?_
        rw [jl2] at h2
        have e2 := (same_new (o := .lst ([w1, w2, w3].map V.str)) m2).trans s2
        have hl2 := e2 _ _ hl1
        refine ⟨_, rfl, l, _, 0, .str (Str.ofString "glue"), rfl, rfl, SqL.of hl2, atI_nat (j := 0) rfl, rfl, _, rfl, ?_⟩
        rw [dS, decide_eq_false (by decide +kernel)]
        refine iteF ?_
        refine ⟨_, rfl, l, _, 0, .str (Str.ofString "glue"), rfl, rfl, SqL.of hl2, atI_nat (j := 0) rfl, rfl, _, rfl, ?_⟩
        rw [dS, decide_eq_false (by decide +kernel)]
        refine iteF ?_
        refine ⟨_, rfl, l, _, 0, .str (Str.ofString "glue"), rfl, rfl, SqL.of hl2, atI_nat (j := 0) rfl, rfl, _, rfl, ?_⟩
        rw [dS, decide_eq_true rfl]
        refine iteT ?_
        refine ⟨_, rfl, ⟨_, rfl⟩, _, rfl, 5, rfl, 8, rfl, l, _, rfl, SqL.of hl2, fun D3 m3 => ⟨_, D3, [w5, w6, w7], rfl, rfl, .inl (SqL.of upd_same), ?_, ?_⟩⟩
        · simp only [List.map_cons, List.map_nil, List.sum_cons, List.sum_nil, List.length_cons, List.length_nil, b1]
          omega
        (try unfold tNil)
        have jl3 := TL.join_eq (Str.ofString " ") [w5, w6, w7]
        refine read_shI (by rw [jl3]; exact Nat.le_trans (join_len_le _ _) (by simp only [List.map_cons, List.map_nil, List.sum_cons, List.sum_nil, List.length_cons, List.length_nil, b1]; omega)) fun v3 H3 s3 h3 => ?_
        rw [jl3] at h3
        have e3 := (same_new (o := .lst ([w5, w6, w7].map V.str)) m3).trans s3
        have hl3 := e3 _ _ hl2
        refine ⟨_, rfl, l, _, 8, .str w8, rfl, rfl, SqL.of hl3, atI_nat (j := 8) rfl, _, rfl, by show 5 ≤ sizeLine; decide, fun p np => ?_⟩
        have e := same_new (o := .tup [.str (Str.ofString "glue"), v2, v3, .str w8, cv]) np
        refine q p _ (s1.trans (e2.trans (e3.trans e))) ⟨_, upd_same, ?_⟩
        simp only [itemsP, if_true]
        exact .cons rfl (.cons ((h2.same e3).same e) (.cons (h3.same e) (.cons rfl (.cons (((hc.same e2).same e3).same e) .nil))))
    · have g : szs.lookup (Str.ofString "stack") = some 9 := by decide +kernel
      have hn : ws.length = 8 := by
        rw [g, List.length_cons] at hs
        have : ws.length + 1 = 9 := hs
        omega
      match ws, hn with
      | [w1, w2, w3, w4, w5, w6, w7, w8], _ =>
        simp only [List.map_cons, List.map_nil, List.sum_cons, List.sum_nil, List.length_cons, List.length_nil] at hw
        refine ite_nt (congrArg V.int (by rw [g]; rfl)) ?_
        refine ⟨_, rfl, 1, rfl, l, _, -1, .str w8, rfl, rfl, SqL.of hl, atI_last (([Str.ofString "stack", w1, w2, w3, w4, w5, w6, w7] : List Str).map V.str) (.str w8), ?_⟩
        (try unfold tNil)
        refine read_nI (by omega) fun cv H1 s1 hc => ?_
        have hl1 := s1 _ _ hl
        refine ⟨_, rfl, l, _, 0, .str (Str.ofString "stack"), rfl, rfl, SqL.of hl1, atI_nat (j := 0) rfl, rfl, _, rfl, ?_⟩
        rw [dS, decide_eq_true rfl]
        refine iteT ?_
        refine ⟨⟨_, rfl⟩, _, rfl, 3, rfl, 6, rfl, l, _, rfl, SqL.of hl1, fun D2 m2 => ⟨_, D2, [w3, w4, w5], rfl, rfl, .inl (SqL.of upd_same), ?_, ?_⟩⟩
        · simp only [List.map_cons, List.map_nil, List.sum_cons, List.sum_nil, List.length_cons, List.length_nil, b1]
          omega
        (try unfold tNil)
        have jl2 := TL.join_eq (Str.ofString " ") [w3, w4, w5]
        refine read_shI (by rw [jl2]; exact Nat.le_trans (join_len_le _ _) (by simp only [List.map_cons, List.map_nil, List.sum_cons, List.sum_nil, List.length_cons, List.length_nil, b1]; omega)) fun v2 H2 s2 h2 => ?_
        rw [jl2] at h2
        have e2 := (same_new (o := .lst ([w3, w4, w5].map V.str)) m2).trans s2
        have hl2 := e2 _ _ hl1
        refine ⟨_, rfl, l, _, 6, .str w6, rfl, rfl, SqL.of hl2, atI_nat (j := 6) rfl, _, rfl, l, _, 1, .str w1, rfl, rfl, SqL.of hl2, atI_nat (j := 1) rfl, ?_⟩
        refine read_nI (by omega) fun v3 H3 s3 h3 => ⟨_, rfl, by show 5 ≤ sizeLine; decide, fun p np => ?_⟩
        have e := same_new (o := .tup [.str (Str.ofString "stack"), v2, .str w6, v3, cv]) np
        refine q p _ (s1.trans (e2.trans (s3.trans e))) ⟨_, upd_same, ?_⟩
        simp only [itemsP, if_true]
        exact .cons rfl (.cons ((h2.same s3).same e) (.cons rfl (.cons (h3.same e) (.cons (((hc.same e2).same s3).same e) .nil))))
    · have g : szs.lookup (Str.ofString "turn") = some 6 := by decide +kernel
      have hn : ws.length = 5 := by
        rw [g, List.length_cons] at hs
        have : ws.length + 1 = 6 := hs
        omega
      match ws, hn with
      | [w1, w2, w3, w4, w5], _ =>
        simp only [List.map_cons, List.map_nil, List.sum_cons, List.sum_nil, List.length_cons, List.length_nil] at hw
        refine ite_nt (congrArg V.int (by rw [g]; rfl)) ?_
        refine ⟨_, rfl, 1, rfl, l, _, -1, .str w5, rfl, rfl, SqL.of hl, atI_last (([Str.ofString "turn", w1, w2, w3, w4] : List Str).map V.str) (.str w5), ?_⟩
        (try unfold tNil)
        refine read_nI (by omega) fun cv H1 s1 hc => ?_
        have hl1 := s1 _ _ hl
        refine ⟨_, rfl, l, _, 0, .str (Str.ofString "turn"), rfl, rfl, SqL.of hl1, atI_nat (j := 0) rfl, rfl, _, rfl, ?_⟩
        rw [dS, decide_eq_false (by decide +kernel)]
        refine iteF ?_
        refine ⟨⟨_, rfl⟩, _, rfl, 1, rfl, 4, rfl, l, _, rfl, SqL.of hl1, fun D2 m2 => ⟨_, D2, [w1, w2, w3], rfl, rfl, .inl (SqL.of upd_same), ?_, ?_⟩⟩
        · simp only [List.map_cons, List.map_nil, List.sum_cons, List.sum_nil, List.length_cons, List.length_nil, b1]
          omega
        (try unfold tNil)
        have jl2 := TL.join_eq (Str.ofString " ") [w1, w2, w3]
        refine read_shI (by rw [jl2]; exact Nat.le_trans (join_len_le _ _) (by simp only [List.map_cons, List.map_nil, List.sum_cons, List.sum_nil, List.length_cons, List.length_nil, b1]; omega)) fun v2 H2 s2 h2 => ?_
        rw [jl2] at h2
        have e2 := (same_new (o := .lst ([w1, w2, w3].map V.str)) m2).trans s2
        have hl2 := e2 _ _ hl1
        refine ⟨_, rfl, l, _, 0, .str (Str.ofString "turn"), rfl, rfl, SqL.of hl2, atI_nat (j := 0) rfl, rfl, _, rfl, ?_⟩
        rw [dS, decide_eq_false (by decide +kernel)]
        refine iteF ?_
        refine ⟨_, rfl, l, _, 0, .str (Str.ofString "turn"), rfl, rfl, SqL.of hl2, atI_nat (j := 0) rfl, rfl, _, rfl, ?_⟩
        rw [dS, decide_eq_false (by decide +kernel)]
        refine iteF ?_
        refine ⟨_, rfl, l, _, 0, .str (Str.ofString "turn"), rfl, rfl, SqL.of hl2, atI_nat (j := 0) rfl, rfl, _, rfl, ?_⟩
        rw [dS, decide_eq_false (by decide +kernel)]
        refine iteF ?_
        refine ⟨_, rfl, _, rfl, by show 3 ≤ sizeLine; decide, fun p np => ?_⟩
        have e := same_new (o := .tup [.str (Str.ofString "turn"), v2, cv]) np
        refine q p _ (s1.trans (e2.trans e)) ⟨_, upd_same, ?_⟩
        simp only [itemsP, if_true]
        exact .cons rfl (.cons (h2.same e) (.cons ((hc.same e2).same e) .nil))
end
/-! ### steps that are read, by the program: from the text -/
theorem itemsP_ok (ws : List Str) : (itemsP ws).length ≤ 10 ∧ Headed (itemsP ws) ∧ B20 (itemsP ws) := by
  have none : ([] : List Itm).length ≤ 10 ∧ Headed [] ∧ B20 [] := ⟨by simp, fun s r e => (by cases e), trivial⟩
  unfold itemsP
  split
  · split
    · exact ⟨by simp, head_w (by decide +kernel), ⟨trivial, it20_sh _, trivial, it20_n _, it20_n _, trivial⟩⟩
    split
    · exact ⟨by simp, head_w (by decide +kernel), ⟨trivial, it20_sh _, trivial, it20_p _, it20_n _, trivial⟩⟩
    split
    · exact ⟨by simp, head_w (by decide +kernel), ⟨trivial, it20_sh _, trivial, it20_n _, it20_n _, trivial⟩⟩
    · exact none
  · split
    · exact ⟨by simp, head_w (by decide +kernel), ⟨trivial, it20_sh _, it20_sh _, trivial, it20_n _, trivial⟩⟩
    · exact none
  · split
    · exact ⟨by simp, head_w (by decide +kernel), ⟨trivial, it20_sh _, it20_n _, trivial⟩⟩
    · exact none
  · exact none
def badText : List (Str × V) := [("at", .int 0), ("word", .str "BadText")]
section
variable {base : Heap} {K : PySem.W.Frag} {mg : Str → Option Value} {w : World}
def spFoundT (T : Txt K mg) : Sp := fun vs H Q E => ∃ v : V, vs = [v] ∧ (v ≠ .non → Q v H) ∧ (v = .non → Throws T.e_BadText.C badText H E)
theorem ok_found_in_text (T : Txt K mg) : FnOk PySem.Challenge.pw_grainyard_k64_texts_of_sheets_and_steps w K mg base (L2.CX PySem.Challenge.pw_grainyard_k64_texts_of_sheets_and_steps w) 3 T.f_found_in_text T.d_found_in_text ["item"] (spFoundT T) := by
  refine T.F_found_in_text.okX sc_found_in_text (fun vs H Q E h => ?_) (fun cdv A outer s H vs Q E hr h => ?_)
  · obtain ⟨v, rfl, _⟩ := h
    rfl
  · obtain ⟨v, rfl, q1, q2⟩ := h
    refine ⟨_, (pss_cons (ps_if (pt_cmpR op_isN (pv 0) pe_non (nomark _)) (pss_one (ps_raise rfl (takes_of rfl rfl rfl rfl) (pmk_oex (oex_of T.e_BadText) T.e_BadText.iC T.e_BadText.tI (ini_BadText T) (hr.mono (by decide)) (bi_BadText T) .nil pass0 (by rfl) T.e_BadText.g (pa_cons pe_int pa_nil)))) pss_nil)
      (pss_one (ps_ret (pv 0)))), ?_⟩
    refine ⟨_, rfl, rfl, _, rfl, ?_⟩
    by_cases e : v = .non
    · rw [decide_eq_true e]
      exact iteT (mk_use rfl (by decide) fun d Hf hd s1 f1 => q2 e d Hf hd s1 f1)
    · rw [decide_eq_false e]
      exact iteF ⟨_, rfl, q1 e⟩
def spReadStep : Sp := fun vs H Q _ => ∃ z : Str, vs = [.str z] ∧ z.length ≤ 5600 ∧ (∀ ts p H', Wr z ts → Same H H' → StepAt H' p ts → Q (.ref p) H') ∧ ((∀ ts, ¬ Wr z ts) → ∀ H', Same H H' → Q .non H')
theorem ok_read_step (T : Txt K mg) (D : Shps K w T.u_SHAPES) (S : Szs K w T.u_STEP_SIZES) : FnOk PySem.Challenge.pw_grainyard_k64_texts_of_sheets_and_steps w K mg base CX0 8 T.f_read_step T.d_read_step ["text"] spReadStep := by
  refine T.F_read_step.ok sc_read_step (fun vs H Q E h => ?_) (fun cdv A outer s H vs Q E hr h => ?_)
  · obtain ⟨z, rfl, _⟩ := h
    rfl
  · obtain ⟨z, rfl, hz, q1, q2⟩ := h
    refine ⟨_, (pss_cons (ps_set (i := 1) sc_read_step.nd rfl (Or.inl rfl) (pe_call (ok_items_of_step T S) (hr.mono (by decide)) (by rfl) T.g_items_of_step T.F_items_of_step.kp T.b_items_of_step .nil pass0 (pa_cons (pe_split (pv 0) pe_str) pa_nil)))
      (pss_one (ps_ret (pe_ifExp (PW.pt (pw_and (pt_val (pe_call (ok_is_step T D) (hr.mono (by decide)) (by rfl) T.g_is_step T.F_is_step.kp T.b_is_step .nil pass0 (pa_cons (pv 1) pa_nil))) (pw_and1 (pt_cmpR op_eq (pe_call (ok_step_text (w := w) T D) (hr.mono (by decide)) (by rfl) T.g_step_text T.F_step_text.kp T.b_step_text .nil pass_never (pa_cons (pv 1) pa_nil)) (pv 0) (nomark _))))) (pv 1) pe_non)))), ?_⟩
    have n1 : (Str.ofString " ").length = 1 := by decide +kernel
    have wz := split_weight z (Str.ofString " ") (by rw [n1]; decide)
    have lp := split_pos z (Str.ofString " ")
    refine ⟨_, rfl, ⟨_, rfl⟩, z, _, rfl, rfl, by decide +kernel, by rw [sz_eq]; omega, fun L nL => ?_⟩
    have sL := same_new (o := .lst ((Txt.split z (Str.ofString " ")).map V.str)) nL
    have it : ∀ ts, Wr z ts → itemsP (Txt.split z (Str.ofString " ")) = ts := fun ts h => h.items
    cases hs : Txt.split z (Str.ofString " ") with
    | nil =>
      rw [hs] at lp
      cases lp
    | cons w ws =>
      rw [hs] at wz sL it
      refine ⟨_, w, ws, rfl, upd_same, by omega, fun p H1 s1 hS => ?_⟩
      obtain ⟨g1, g2, g3⟩ := itemsP_ok (w :: ws)
      generalize itemsP (w :: ws) = ts at hS g1 g2 g3 it
      have s01 := sL.trans s1
      have no : ∀ H', Same H1 H' → (¬ Wr z ts) → Q .non H' := fun H' s h => q2 (fun ts' h' => h (by rwa [it ts' h'])) _ (s01.trans s)
      refine ⟨_, rfl, p, ts, rfl, hS, g1, g2, fun H2 s2 => ⟨_, rfl, ?_⟩⟩
      cases ok : stepB ts with
      | false => exact iteF (no _ s2 fun h => by rw [h.ok] at ok; cases ok)
      | true =>
        refine iteT ⟨_, rfl, p, ts, rfl, hS.same s2, g1, g2, g3, fun _ H3 s3 => ⟨_, rfl, rfl, _, rfl, ?_⟩, fun z => by rw [ok] at z; cases z⟩
        rw [dS]
        by_cases e : stepT ts = z
        · rw [decide_eq_true e]
          exact iteT ⟨_, rfl, q1 ts p _ ⟨ok, g3, e⟩ (s01.trans (s2.trans s3)) ((hS.same s2).same s3)⟩
        · rw [decide_eq_false e]
          exact iteF (no _ (s2.trans s3) fun h => e h.text)
def spParseS (T : Txt K mg) : Sp := fun vs H Q E => ∃ z : Str, vs = [.str z] ∧ z.length ≤ 5600 ∧ (readSh z = none → Throws T.e_BadText.C badText H E) ∧ ∀ x p H', readSh z = some x → Same H H' → ShAt H' p x → Q (.ref p) H'
theorem ok_parse_sheet (T : Txt K mg) : FnOk PySem.Challenge.pw_grainyard_k64_texts_of_sheets_and_steps w K mg base (L2.CX PySem.Challenge.pw_grainyard_k64_texts_of_sheets_and_steps w) 6 T.f_parse_sheet T.d_parse_sheet ["text"] (spParseS T) := by
  refine T.F_parse_sheet.okX sc_parse_sheet (fun vs H Q E h => ?_) (fun cdv A outer s H vs Q E hr h => ?_)
  · obtain ⟨z, rfl, _⟩ := h
    rfl
  · obtain ⟨z, rfl, hl, q1, q2⟩ := h
    refine ⟨_, (pss_one (ps_ret (pe_call (ok_found_in_text T) (hr.mono (by decide)) (by rfl) T.g_found_in_text T.F_found_in_text.kp T.b_found_in_text .nil (passes_call (takes_of rfl rfl rfl rfl) (fun _ _ _ _ h => h)) (pa_cons (pe_call (ok_read_sheet T) (hr.mono (by decide)) (by rfl) T.g_read_sheet T.F_read_sheet.kp T.b_read_sheet .nil pass0 (pa_cons (pv 0) pa_nil)) pa_nil)))), ?_⟩
    exact ⟨_, rfl, z, rfl, by omega, fun H' e hn => ⟨.non, rfl, fun z => absurd rfl z, fun _ => (q1 hn).up e⟩, fun x p H' hx e hp => ⟨.ref p, rfl, fun _ => q2 x p _ hx e hp, fun z => by cases z⟩⟩
def spParseSt (T : Txt K mg) : Sp := fun vs H Q E => ∃ z : Str, vs = [.str z] ∧ z.length ≤ 5600 ∧ ((∀ ts, ¬ Wr z ts) → Throws T.e_BadText.C badText H E) ∧ ∀ ts p H', Wr z ts → Same H H' → StepAt H' p ts → Q (.ref p) H'
theorem ok_parse_step (T : Txt K mg) (D : Shps K w T.u_SHAPES) (S : Szs K w T.u_STEP_SIZES) : FnOk PySem.Challenge.pw_grainyard_k64_texts_of_sheets_and_steps w K mg base (L2.CX PySem.Challenge.pw_grainyard_k64_texts_of_sheets_and_steps w) 9 T.f_parse_step T.d_parse_step ["text"] (spParseSt T) := by
  refine T.F_parse_step.okX sc_parse_step (fun vs H Q E h => ?_) (fun cdv A outer s H vs Q E hr h => ?_)
  · obtain ⟨z, rfl, _⟩ := h
    rfl
  · obtain ⟨z, rfl, hl, q1, q2⟩ := h
    refine ⟨_, (pss_one (ps_ret (pe_call (ok_found_in_text T) (hr.mono (by decide)) (by rfl) T.g_found_in_text T.F_found_in_text.kp T.b_found_in_text .nil (passes_call (takes_of rfl rfl rfl rfl) (fun _ _ _ _ h => h)) (pa_cons (pe_call (ok_read_step T D S) (hr.mono (by decide)) (by rfl) T.g_read_step T.F_read_step.kp T.b_read_step .nil pass0 (pa_cons (pv 0) pa_nil)) pa_nil)))), ?_⟩
    exact ⟨_, rfl, z, rfl, hl, fun ts p H' hx e hp => ⟨.ref p, rfl, fun _ => q2 ts p _ hx e hp, fun z => by cases z⟩, fun hn H' e => ⟨.non, rfl, fun z => absurd rfl z, fun _ => (q1 hn).up e⟩⟩
end
/-! ### steps that are read, by the law: what is made of the things found -/
section
variable {X : Cx}
def rInLst (K : PySem.W.Frag) : R2 := fun x y H Q => ∃ d ds, Dp K H x d ∧ Dp K H y (.list ds) ∧ d.plain = true ∧ PyData.plainAll ds = true ∧ d.depth ≤ 3 ∧ Q (.bl (ds.any fun z => PyData.eqv z d)) H
theorem op_inLst (hu : X.A.units + 64 < cLine) : OpR X (compareOp .In) (rInLst X.K) := by
  intro pins s σ H x y v u Q I rx ry h
  obtain ⟨d, ds, hx, hy, p1, p2, hd, k⟩ := h
  obtain ⟨as, r1⟩ := Dp.reads I _ _ _ hx rx
  obtain ⟨bs, r2⟩ := Dp.reads I _ _ _ hy ry
  exact SeqAt.in_list_data r2 r1 p2 p1 (by omega) ⟨.bl _, H, I, rfl, k⟩
end
def nonB : Itm → Bool
  | .non => true
  | _ => false
theorem non_eqv (t : Itm) : PyData.eqv (itD t) .none = nonB t := by
  cases t <;> simp [itD, encS, nonB, PyData.eqv]
theorem items_plain : ∀ ts : List Itm, PyData.plainAll (ts.map itD) = true
  | [] => rfl
  | t :: ts => by simp [PyData.plainAll, itD_plain, items_plain ts]
theorem items_dp {K : PySem.W.Frag} {H : Hp} {vs : List V} {ts : List Itm} (h : Paired (ItAt H) vs ts) : DpAll K H vs (ts.map itD) := by
  induction h with
  | nil => exact .nil
  | cons r _ ih => exact .cons r.dp ih
theorem any_non (ts : List Itm) : ((ts.map itD).any fun z => PyData.eqv z .none) = ts.any nonB := by
  rw [List.any_map]
  congr 1
  funext t
  exact non_eqv t
inductive FoundW : Str → List Str → List Itm → Prop
  | saw (a b s e g : Str) : FoundW "saw" ["saw", a, "x", b, s, "at", e, "times", g] [pIt a, pIt b, .str s, pIt e, nIt g]
  | split (a b s e g : Str) : FoundW "split" ["split", a, "x", b, s, "into", e, "times", g] [pIt a, pIt b, .str s, nIt e, nIt g]
  | glue (a b c d s g : Str) : FoundW "glue" ["glue", a, "x", b, "and", c, "x", d, s, "times", g] [pIt a, pIt b, pIt c, pIt d, .str s, nIt g]
  | stack (a b s e g : Str) : FoundW "stack" ["stack", e, "of", a, "x", b, s, "times", g] [nIt e, pIt a, pIt b, .str s, nIt g]
  | turn (a b g : Str) : FoundW "turn" ["turn", a, "x", b, "times", g] [pIt a, pIt b, nIt g]
theorem p_there {z : Str} (h : nonB (pIt z) = false) : ∃ a b, pIt z = .pair a b ∧ z = pairT a b ∧ a.natAbs < 10 ^ 20 ∧ b.natAbs < 10 ^ 20 := by
  cases e : pIt z with
  | pair a b => exact ⟨a, b, rfl, pIt_some e⟩
  | non => rw [e] at h; cases h
  | str s => unfold pIt at e; split at e <;> cases e
  | int n => unfold pIt at e; split at e <;> cases e
  | sheet x => unfold pIt at e; split at e <;> cases e
theorem n_there {z : Str} (h : nonB (nIt z) = false) : ∃ n, nIt z = .int n ∧ z = decT n ∧ n.natAbs < 10 ^ 20 := by
  cases e : nIt z with
  | int n => exact ⟨n, rfl, nIt_some e⟩
  | non => rw [e] at h; cases h
  | str s => unfold nIt at e; split at e <;> cases e
  | pair a b => unfold nIt at e; split at e <;> cases e
  | sheet x => unfold nIt at e; split at e <;> cases e
/-- what is found in the text of a step -/
theorem found_no {z w : Str} {ws : List Str} {f : List Itm} (F : FoundW w ws f) (hz : Txt.split z (Str.ofString " ") = ws) (n : f.any nonB = true) : ∀ ts, ¬ Wr z ts := by
  intro ts h
  have hw := h.words.symm.trans hz
  have sh := h.shaped
  have sm := h.small
  have lit : ∀ {x y : String} {r r' : List Str}, Str.ofString x ≠ Str.ofString y → Str.ofString x :: r ≠ Str.ofString y :: r' := fun hn e => hn (List.cons.inj e).1
  cases sh with
  | saw hs hc =>
    obtain ⟨_, b1, _, ⟨b2, b3⟩, b4, _⟩ := sm
    cases F with
    | saw a b s e g =>
      injection hw with _ hw; injection hw with q1 hw; injection hw with _ hw; injection hw with q2 hw; injection hw with _ hw; injection hw with _ hw; injection hw with q3 hw; injection hw with _ hw; injection hw with q4 hw
      subst q1 q2 q3 q4
      rw [pIt_text b1.1 b1.2.1, pIt_text b1.2.2.1 b1.2.2.2, pIt_text b2 b3, nIt_text b4] at n
      cases n
    | split a b s e g => exact lit (by decide +kernel) hw
    | glue a b c d s g => exact lit (by decide +kernel) hw
    | stack a b s e g => exact lit (by decide +kernel) hw
    | turn a b g => exact lit (by decide +kernel) hw
  | split hs hn hc =>
    obtain ⟨_, b1, _, b2, b4, _⟩ := sm
    rw [stW_split] at hw
    cases F with
    | split a b s e g =>
      injection hw with _ hw; injection hw with q1 hw; injection hw with _ hw; injection hw with q2 hw; injection hw with _ hw; injection hw with _ hw; injection hw with q3 hw; injection hw with _ hw; injection hw with q4 hw
      subst q1 q2 q3 q4
      rw [pIt_text b1.1 b1.2.1, pIt_text b1.2.2.1 b1.2.2.2, nIt_text b2, nIt_text b4] at n
      cases n
    | saw a b s e g => exact lit (by decide +kernel) hw
    | glue a b c d s g => exact lit (by decide +kernel) hw
    | stack a b s e g => exact lit (by decide +kernel) hw
    | turn a b g => exact lit (by decide +kernel) hw
  | glue hs hc =>
    obtain ⟨_, b1, b2, _, b4, _⟩ := sm
    cases F with
    | glue a b c d s g =>
      injection hw with _ hw; injection hw with q1 hw; injection hw with _ hw; injection hw with q2 hw; injection hw with _ hw; injection hw with q3 hw; injection hw with _ hw; injection hw with q4 hw; injection hw with _ hw; injection hw with _ hw; injection hw with q5 hw
      subst q1 q2 q3 q4 q5
      rw [pIt_text b1.1 b1.2.1, pIt_text b1.2.2.1 b1.2.2.2, pIt_text b2.1 b2.2.1, pIt_text b2.2.2.1 b2.2.2.2, nIt_text b4] at n
      cases n
    | saw a b s e g => exact lit (by decide +kernel) hw
    | split a b s e g => exact lit (by decide +kernel) hw
    | stack a b s e g => exact lit (by decide +kernel) hw
    | turn a b g => exact lit (by decide +kernel) hw
  | stack hs hn hc =>
    obtain ⟨_, b1, _, b2, b4, _⟩ := sm
    rw [stW_stack] at hw
    cases F with
    | stack a b s e g =>
      injection hw with _ hw; injection hw with q3 hw; injection hw with _ hw; injection hw with q1 hw; injection hw with _ hw; injection hw with q2 hw; injection hw with _ hw; injection hw with _ hw; injection hw with q4 hw
      subst q1 q2 q3 q4
      rw [pIt_text b1.1 b1.2.1, pIt_text b1.2.2.1 b1.2.2.2, nIt_text b2, nIt_text b4] at n
      cases n
    | saw a b s e g => exact lit (by decide +kernel) hw
    | split a b s e g => exact lit (by decide +kernel) hw
    | glue a b c d s g => exact lit (by decide +kernel) hw
    | turn a b g => exact lit (by decide +kernel) hw
  | turn hc =>
    obtain ⟨_, b1, b4, _⟩ := sm
    cases F with
    | turn a b g =>
      injection hw with _ hw; injection hw with q1 hw; injection hw with _ hw; injection hw with q2 hw; injection hw with _ hw; injection hw with q4 hw
      subst q1 q2 q4
      rw [pIt_text b1.1 b1.2.1, pIt_text b1.2.2.1 b1.2.2.2, nIt_text b4] at n
      cases n
    | saw a b s e g => exact lit (by decide +kernel) hw
    | split a b s e g => exact lit (by decide +kernel) hw
    | glue a b c d s g => exact lit (by decide +kernel) hw
    | stack a b s e g => exact lit (by decide +kernel) hw
/-! ### steps that are read, by the law: the step made -/
theorem items_saw {x : Sh} {s : Str} {a b c : Int} (h : B20 [.str "saw", .sheet x, .str s, .pair a b, .int c]) : itemsP (stW [.str "saw", .sheet x, .str s, .pair a b, .int c]) = [.str "saw", .sheet x, .str s, .pair a b, .int c] := by
  obtain ⟨_, b1, _, ⟨b2, b3⟩, b4, _⟩ := h
  simp only [stW, itemsP, if_true]
  rw [if_neg (by decide +kernel), shI_text b1, pIt_text b2 b3, nIt_text b4]
theorem items_split {x : Sh} {s : Str} {n c : Int} (h : B20 [.str "split", .sheet x, .str s, .int n, .int c]) : itemsP (stW [.str "split", .sheet x, .str s, .int n, .int c]) = [.str "split", .sheet x, .str s, .int n, .int c] := by
  obtain ⟨_, b1, _, b2, b4, _⟩ := h
  rw [stW_split]
  simp only [itemsP, if_true]
  rw [if_neg (by decide +kernel), if_neg (by decide +kernel), shI_text b1, nIt_text b2, nIt_text b4]
theorem items_glue {x y : Sh} {s : Str} {c : Int} (h : B20 [.str "glue", .sheet x, .sheet y, .str s, .int c]) : itemsP (stW [.str "glue", .sheet x, .sheet y, .str s, .int c]) = [.str "glue", .sheet x, .sheet y, .str s, .int c] := by
  obtain ⟨_, b1, b2, _, b4, _⟩ := h
  simp only [stW, itemsP, if_true]
  rw [shI_text b1, shI_text b2, nIt_text b4]
theorem items_stack {x : Sh} {s : Str} {n c : Int} (h : B20 [.str "stack", .sheet x, .str s, .int n, .int c]) : itemsP (stW [.str "stack", .sheet x, .str s, .int n, .int c]) = [.str "stack", .sheet x, .str s, .int n, .int c] := by
  obtain ⟨_, b1, _, b2, b4, _⟩ := h
  rw [stW_stack]
  simp only [itemsP, if_true]
  rw [shI_text b1, nIt_text b2, nIt_text b4]
theorem items_turn {x : Sh} {c : Int} (h : B20 [.str "turn", .sheet x, .int c]) : itemsP (stW [.str "turn", .sheet x, .int c]) = [.str "turn", .sheet x, .int c] := by
  obtain ⟨_, b1, b2, _⟩ := h
  simp only [stW, itemsP, if_true]
  rw [shI_text b1, nIt_text b2]
section
variable {base : Heap} {K : PySem.W.Frag} {mg : Str → Option Value} {P : Program} {w : World}
def spMade : Sp := fun vs H Q _ => ∃ (l : Addr) (wd z : Str) (ws : List Str) (f : List Itm) (us : List V), vs = [.str wd, .ref l] ∧ H l = some (.lst us) ∧ Paired (ItAt H) us f ∧ FoundW wd ws f ∧ Txt.split z (Str.ofString " ") = ws ∧ (∀ ts p H', Wr z ts → Same H H' → StepAt H' p ts → Q (.ref p) H') ∧ ((∀ ts, ¬ Wr z ts) → ∀ H', Same H H' → Q .non H')
theorem ok_step_made (T : Txt K mg) : FnOk P w K mg base CX0 4 T.f_step_made T.d_step_made ["_law_word", "_law_found"] spMade := by
  refine T.F_step_made.ok sc_step_made (fun vs H Q E h => ?_) (fun cdv A outer s H vs Q E hr h => ?_)
  · obtain ⟨l, wd, z, ws, f, us, rfl, _⟩ := h
    rfl
  · obtain ⟨l, wd, z, ws, f, us, rfl, hl, hf, F, hz, q1, q2⟩ := h
    refine ⟨_, (pss_cons (ps_if (pt_cmpR (op_inLst hr.units) pe_non (pv 1) (by rfl)) (pss_one (ps_ret pe_non)) pss_nil)
      (Evl.pss_cut (ps_set (i := 2) sc_step_made.nd rfl (Or.inl rfl) (pe_op op_catA (pe_tup (pa_cons (pv 0) (pa_cons (pe_tup (pa_cons (pe_ix ix_list (pv 1) pe_int (fun _ _ => rfl)) (pa_cons (pe_ix ix_list (pv 1) pe_int (fun _ _ => rfl)) pa_nil))) pa_nil))) (pe_callTy call_tuple_of (by rfl) T.n_tuple (by decide +kernel) (pa_cons (pe_slice sl_list (pv 1) (po_some pe_int) po_none) pa_nil))))
      (pss_cons (ps_if (pt_cmpR op_eq (pv 0) pe_str (nomark _)) (pss_one (ps_set (i := 2) sc_step_made.nd rfl (Or.inl rfl) (pe_tup (pa_cons (pv 0) (pa_cons (pe_tup (pa_cons (pe_ix ix_list (pv 1) pe_int (fun _ _ => rfl)) (pa_cons (pe_ix ix_list (pv 1) pe_int (fun _ _ => rfl)) pa_nil))) (pa_cons (pe_tup (pa_cons (pe_ix ix_list (pv 1) pe_int (fun _ _ => rfl)) (pa_cons (pe_ix ix_list (pv 1) pe_int (fun _ _ => rfl)) pa_nil))) (pa_cons (pe_ix ix_list (pv 1) pe_int (fun _ _ => rfl)) (pa_cons (pe_ix ix_list (pv 1) pe_int (fun _ _ => rfl)) pa_nil)))))))) pss_nil)
      (pss_cons (ps_if (pt_cmpR op_eq (pv 0) pe_str (nomark _)) (pss_one (ps_set (i := 2) sc_step_made.nd rfl (Or.inl rfl) (pe_tup (pa_cons (pv 0) (pa_cons (pe_tup (pa_cons (pe_ix ix_list (pv 1) pe_int (fun _ _ => rfl)) (pa_cons (pe_ix ix_list (pv 1) pe_int (fun _ _ => rfl)) pa_nil))) (pa_cons (pe_ix ix_list (pv 1) pe_int (fun _ _ => rfl)) (pa_cons (pe_ix ix_list (pv 1) pe_int (fun _ _ => rfl)) (pa_cons (pe_ix ix_list (pv 1) pe_int (fun _ _ => rfl)) pa_nil)))))))) pss_nil)
      (pss_one (ps_ret (pe_ifExp (pt_val (pe_call (ok_good_step T) (hr.mono (by decide)) (by rfl) T.g_good_step T.F_good_step.kp T.b_good_step .nil pass0 (pa_cons (pv 2) pa_nil))) (pv 2) pe_non))))))), ?_⟩
    refine ⟨_, rfl, .none, f.map itD, .non, .lst (SqL.of hl) (items_dp hf), rfl, items_plain f, by decide, _, rfl, ?_⟩
    rw [any_non]
    cases n : f.any nonB with
    | true => exact iteT (q2 (found_no F hz n) _ (Same.refl _))
    | false =>
      refine iteF ?_
      have fin : ∀ ts : List Itm, stW ts = ws → B20 ts → itemsP ws = ts → ∀ p G, Same H G → StepAt G p ts → ts.length ≤ 10 → Headed ts → tRet (tIf (tB (tCall (spStep stepB) [] E0 (tCons (tVar 2) tNil))) (tVar 2) (tC .non)) { nx := fun _ H' => Q .non H', rt := Q } [some (.str wd), some (.ref l), some (.ref p)] G := by
        intro ts e1 b e2 p G sG hS ln hH
        refine ⟨_, rfl, p, ts, rfl, hS, ln, hH, fun H2 s2 => ⟨_, rfl, ?_⟩⟩
        cases ok : stepB ts with
        | true => exact iteT ⟨_, rfl, q1 ts p _ (wr_of ok b (hz.trans e1.symm)) (sG.trans s2) (hS.same s2)⟩
        | false =>
          refine iteF (q2 (fun ts' h' => ?_) _ (sG.trans s2))
          have := h'.items
          rw [hz, e2] at this
          rw [this, h'.ok] at ok
          cases ok
      clear q1 q2
      cases F with
      | saw a b s e g =>
        match us, hf with
        | [v0, v1, v2, v3, v4], .cons h0 (.cons h1 (.cons h2 (.cons h3 (.cons h4 .nil)))) =>
          simp only [List.any_cons, List.any_nil, Bool.or_eq_false_iff] at n
          obtain ⟨n_a, n_b, _, n_e, n_g, _⟩ := n
          obtain ⟨a1, a2, e_a, t_a, b_a, c_a⟩ := p_there n_a
          rw [e_a] at h0
          obtain ⟨r0, rfl, G0⟩ := h0
          obtain ⟨b1, b2, e_b, t_b, b_b, c_b⟩ := p_there n_b
          rw [e_b] at h1
          obtain ⟨r1, rfl, G1⟩ := h1
          cases (show v2 = .str s from h2)
          obtain ⟨e1, e2, e_e, t_e, b_e, c_e⟩ := p_there n_e
          rw [e_e] at h3
          obtain ⟨r3, rfl, G3⟩ := h3
          obtain ⟨g1, e_g, t_g, b_g⟩ := n_there n_g
          rw [e_g] at h4
          cases (show v4 = .int g1 from h4)
          subst t_a t_b t_e t_g
          clear e_a e_b e_e e_g
          have bb : B20 [.str "saw", .sheet (a1, a2, b1, b2), .str s, .pair e1 e2, .int g1] := ⟨trivial, ⟨b_a, c_a, b_b, c_b⟩, trivial, ⟨b_e, c_e⟩, b_g, trivial⟩
          have ii := items_saw bb
          have sw : stW [.str "saw", .sheet (a1, a2, b1, b2), .str s, .pair e1 e2, .int g1] = _ := rfl
          rw [sw] at ii
          refine ⟨fun σ G => ∃ y, σ = [some (.str (Str.ofString "saw")), some (.ref l), some (.ref y)] ∧ Same H G ∧ StepAt G y [.str "saw", .sheet (a1, a2, b1, b2), .str s, .pair e1 e2, .int g1], ?_, ?_⟩
          · refine ⟨_, rfl, _, rfl, l, _, 0, .ref r0, rfl, rfl, SqL.of hl, atI_nat (j := 0) rfl, _, rfl, l, _, 1, .ref r1, rfl, rfl, SqL.of hl, atI_nat (j := 1) rfl, by show 2 ≤ sizeLine; decide, fun t1 m1 => ⟨by show 2 ≤ sizeLine; decide, fun t2 m2 => ?_⟩⟩
            have s1 := same_new (o := .tup [.ref r0, .ref r1]) m1
            have s2 := same_new (o := .tup [.str (Str.ofString "saw"), .ref t1]) m2
            refine ⟨_, rfl, 2, rfl, l, _, rfl, SqL.of (s2 _ _ (s1 _ _ hl)), fun D m3 => ?_⟩
            have s3 := same_new (o := .lst [.str s, .ref r3, .int g1]) m3
            refine ⟨D, [.str s, .ref r3, .int g1], rfl, .inl ⟨SqL.of upd_same, fun t3 m4 => ?_⟩⟩
            have s4 := same_new (o := .tup [.str s, .ref r3, .int g1]) m4
            refine ⟨t2, t3, [.str (Str.ofString "saw"), .ref t1], [.str s, .ref r3, .int g1], rfl, rfl, SqT.of (s4 _ _ (s3 _ _ upd_same)), SqT.of upd_same, by show 2 + 3 ≤ sizeLine; decide, fun z => (by cases z), fun _ z => (by cases z), fun _ _ y my => ?_⟩
            have s5 := same_new (o := .tup ([.str (Str.ofString "saw"), .ref t1] ++ [.str s, .ref r3, .int g1])) my
            have s15 := s2.trans (s3.trans (s4.trans s5))
            have s05 := s1.trans s15
            exact ⟨y, rfl, s05, ⟨_, upd_same, .cons rfl (.cons ⟨t1, rfl, r0, r1, s15 _ _ upd_same, s05 _ _ G0, s05 _ _ G1⟩ (.cons rfl (.cons ⟨r3, rfl, s05 _ _ G3⟩ (.cons rfl .nil))))⟩⟩
          rintro σ G ⟨y, rfl, sG, hy⟩
          refine ⟨_, rfl, rfl, _, rfl, ?_⟩
          rw [dS, decide_eq_false (by decide +kernel)]
          refine iteF ?_
          refine ⟨_, rfl, rfl, _, rfl, ?_⟩
          rw [dS, decide_eq_false (by decide +kernel)]
          refine iteF ?_
          exact fin _ sw bb ii y G sG hy (by simp) (head_w (by decide +kernel))
      | split a b s e g =>
        match us, hf with
        | [v0, v1, v2, v3, v4], .cons h0 (.cons h1 (.cons h2 (.cons h3 (.cons h4 .nil)))) =>
          simp only [List.any_cons, List.any_nil, Bool.or_eq_false_iff] at n
          obtain ⟨n_a, n_b, _, n_e, n_g, _⟩ := n
          obtain ⟨a1, a2, e_a, t_a, b_a, c_a⟩ := p_there n_a
          rw [e_a] at h0
          obtain ⟨r0, rfl, G0⟩ := h0
          obtain ⟨b1, b2, e_b, t_b, b_b, c_b⟩ := p_there n_b
          rw [e_b] at h1
          obtain ⟨r1, rfl, G1⟩ := h1
          cases (show v2 = .str s from h2)
          obtain ⟨e1, e_e, t_e, b_e⟩ := n_there n_e
          rw [e_e] at h3
          cases (show v3 = .int e1 from h3)
          obtain ⟨g1, e_g, t_g, b_g⟩ := n_there n_g
          rw [e_g] at h4
          cases (show v4 = .int g1 from h4)
          subst t_a t_b t_e t_g
          clear e_a e_b e_e e_g
          have bb : B20 [.str "split", .sheet (a1, a2, b1, b2), .str s, .int e1, .int g1] := ⟨trivial, ⟨b_a, c_a, b_b, c_b⟩, trivial, b_e, b_g, trivial⟩
          have ii := items_split bb
          have sw : stW [.str "split", .sheet (a1, a2, b1, b2), .str s, .int e1, .int g1] = _ := stW_split
          rw [sw] at ii
          refine ⟨fun σ G => ∃ y, σ = [some (.str (Str.ofString "split")), some (.ref l), some (.ref y)] ∧ Same H G ∧ StepAt G y [.str "split", .sheet (a1, a2, b1, b2), .str s, .int e1, .int g1], ?_, ?_⟩
          · refine ⟨_, rfl, _, rfl, l, _, 0, .ref r0, rfl, rfl, SqL.of hl, atI_nat (j := 0) rfl, _, rfl, l, _, 1, .ref r1, rfl, rfl, SqL.of hl, atI_nat (j := 1) rfl, by show 2 ≤ sizeLine; decide, fun t1 m1 => ⟨by show 2 ≤ sizeLine; decide, fun t2 m2 => ?_⟩⟩
            have s1 := same_new (o := .tup [.ref r0, .ref r1]) m1
            have s2 := same_new (o := .tup [.str (Str.ofString "split"), .ref t1]) m2
            refine ⟨_, rfl, 2, rfl, l, _, rfl, SqL.of (s2 _ _ (s1 _ _ hl)), fun D m3 => ?_⟩
            have s3 := same_new (o := .lst [.str s, .int e1, .int g1]) m3
            refine ⟨D, [.str s, .int e1, .int g1], rfl, .inl ⟨SqL.of upd_same, fun t3 m4 => ?_⟩⟩
            have s4 := same_new (o := .tup [.str s, .int e1, .int g1]) m4
            refine ⟨t2, t3, [.str (Str.ofString "split"), .ref t1], [.str s, .int e1, .int g1], rfl, rfl, SqT.of (s4 _ _ (s3 _ _ upd_same)), SqT.of upd_same, by show 2 + 3 ≤ sizeLine; decide, fun z => (by cases z), fun _ z => (by cases z), fun _ _ y my => ?_⟩
            have s5 := same_new (o := .tup ([.str (Str.ofString "split"), .ref t1] ++ [.str s, .int e1, .int g1])) my
            have s15 := s2.trans (s3.trans (s4.trans s5))
            have s05 := s1.trans s15
            exact ⟨y, rfl, s05, ⟨_, upd_same, .cons rfl (.cons ⟨t1, rfl, r0, r1, s15 _ _ upd_same, s05 _ _ G0, s05 _ _ G1⟩ (.cons rfl (.cons rfl (.cons rfl .nil))))⟩⟩
          rintro σ G ⟨y, rfl, sG, hy⟩
          refine ⟨_, rfl, rfl, _, rfl, ?_⟩
          rw [dS, decide_eq_false (by decide +kernel)]
          refine iteF ?_
          refine ⟨_, rfl, rfl, _, rfl, ?_⟩
          rw [dS, decide_eq_false (by decide +kernel)]
          refine iteF ?_
          exact fin _ sw bb ii y G sG hy (by simp) (head_w (by decide +kernel))
      | glue a b c d s g =>
        match us, hf with
        | [v0, v1, v2, v3, v4, v5], .cons h0 (.cons h1 (.cons h2 (.cons h3 (.cons h4 (.cons h5 .nil))))) =>
          simp only [List.any_cons, List.any_nil, Bool.or_eq_false_iff] at n
          obtain ⟨n_a, n_b, n_c, n_d, _, n_g, _⟩ := n
          obtain ⟨a1, a2, e_a, t_a, b_a, c_a⟩ := p_there n_a
          rw [e_a] at h0
          obtain ⟨r0, rfl, G0⟩ := h0
          obtain ⟨b1, b2, e_b, t_b, b_b, c_b⟩ := p_there n_b
          rw [e_b] at h1
          obtain ⟨r1, rfl, G1⟩ := h1
          obtain ⟨c1, c2, e_c, t_c, b_c, c_c⟩ := p_there n_c
          rw [e_c] at h2
          obtain ⟨r2, rfl, G2⟩ := h2
          obtain ⟨d1, d2, e_d, t_d, b_d, c_d⟩ := p_there n_d
          rw [e_d] at h3
          obtain ⟨r3, rfl, G3⟩ := h3
          cases (show v4 = .str s from h4)
          obtain ⟨g1, e_g, t_g, b_g⟩ := n_there n_g
          rw [e_g] at h5
          cases (show v5 = .int g1 from h5)
          subst t_a t_b t_c t_d t_g
          clear e_a e_b e_c e_d e_g
          have bb : B20 [.str "glue", .sheet (a1, a2, b1, b2), .sheet (c1, c2, d1, d2), .str s, .int g1] := ⟨trivial, ⟨b_a, c_a, b_b, c_b⟩, ⟨b_c, c_c, b_d, c_d⟩, trivial, b_g, trivial⟩
          have ii := items_glue bb
          have sw : stW [.str "glue", .sheet (a1, a2, b1, b2), .sheet (c1, c2, d1, d2), .str s, .int g1] = _ := rfl
          rw [sw] at ii
          refine ⟨fun σ G => ∃ y, σ = [some (.str (Str.ofString "glue")), some (.ref l), some (.ref y)] ∧ Same H G, ?_, ?_⟩
          · refine ⟨_, rfl, _, rfl, l, _, 0, .ref r0, rfl, rfl, SqL.of hl, atI_nat (j := 0) rfl, _, rfl, l, _, 1, .ref r1, rfl, rfl, SqL.of hl, atI_nat (j := 1) rfl, by show 2 ≤ sizeLine; decide, fun t1 m1 => ⟨by show 2 ≤ sizeLine; decide, fun t2 m2 => ?_⟩⟩
            have s1 := same_new (o := .tup [.ref r0, .ref r1]) m1
            have s2 := same_new (o := .tup [.str (Str.ofString "glue"), .ref t1]) m2
            refine ⟨_, rfl, 2, rfl, l, _, rfl, SqL.of (s2 _ _ (s1 _ _ hl)), fun D m3 => ?_⟩
            have s3 := same_new (o := .lst [.ref r2, .ref r3, .str s, .int g1]) m3
            refine ⟨D, [.ref r2, .ref r3, .str s, .int g1], rfl, .inl ⟨SqL.of upd_same, fun t3 m4 => ?_⟩⟩
            have s4 := same_new (o := .tup [.ref r2, .ref r3, .str s, .int g1]) m4
            refine ⟨t2, t3, [.str (Str.ofString "glue"), .ref t1], [.ref r2, .ref r3, .str s, .int g1], rfl, rfl, SqT.of (s4 _ _ (s3 _ _ upd_same)), SqT.of upd_same, by show 2 + 4 ≤ sizeLine; decide, fun z => (by cases z), fun _ z => (by cases z), fun _ _ y my => ?_⟩
            have s5 := same_new (o := .tup ([.str (Str.ofString "glue"), .ref t1] ++ [.ref r2, .ref r3, .str s, .int g1])) my
            have s15 := s2.trans (s3.trans (s4.trans s5))
            have s05 := s1.trans s15
            exact ⟨y, rfl, s05⟩
          rintro σ G ⟨y, rfl, sG⟩
          have hlG := sG _ _ hl
          refine ⟨_, rfl, rfl, _, rfl, ?_⟩
          rw [dS, decide_eq_true rfl]
          refine iteT ?_
          refine ⟨_, rfl, _, rfl, l, _, 0, .ref r0, rfl, rfl, SqL.of hlG, atI_nat (j := 0) rfl, _, rfl, l, _, 1, .ref r1, rfl, rfl, SqL.of hlG, atI_nat (j := 1) rfl, by show 2 ≤ sizeLine; decide, fun t1 m1 => ?_⟩
          have s1 := same_new (o := .tup [.ref r0, .ref r1]) m1
          have hl1 := s1 _ _ hlG
          refine ⟨_, rfl, l, _, 2, .ref r2, rfl, rfl, SqL.of hl1, atI_nat (j := 2) rfl, _, rfl, l, _, 3, .ref r3, rfl, rfl, SqL.of hl1, atI_nat (j := 3) rfl, by show 2 ≤ sizeLine; decide, fun t2 m2 => ?_⟩
          have s2 := same_new (o := .tup [.ref r2, .ref r3]) m2
          have hl2 := s2 _ _ hl1
          refine ⟨_, rfl, l, _, 4, .str s, rfl, rfl, SqL.of hl2, atI_nat (j := 4) rfl, _, rfl, l, _, 5, .int g1, rfl, rfl, SqL.of hl2, atI_nat (j := 5) rfl, by show 5 ≤ sizeLine; decide, fun p m3 => ?_⟩
          have s3 := same_new (o := .tup [.str (Str.ofString "glue"), .ref t1, .ref t2, .str s, .int g1]) m3
          have s23 := s2.trans s3
          have s03 := sG.trans (s1.trans s23)
          refine ⟨_, rfl, rfl, _, rfl, ?_⟩
          rw [dS, decide_eq_false (by decide +kernel)]
          refine iteF ?_
          exact fin _ sw bb ii p _ s03 ⟨_, upd_same, .cons rfl (.cons ⟨t1, rfl, r0, r1, s23 _ _ upd_same, s03 _ _ G0, s03 _ _ G1⟩ (.cons ⟨t2, rfl, r2, r3, s3 _ _ upd_same, s03 _ _ G2, s03 _ _ G3⟩ (.cons rfl (.cons rfl .nil))))⟩ (by simp) (head_w (by decide +kernel))
      | stack a b s e g =>
        match us, hf with
        | [v0, v1, v2, v3, v4], .cons h0 (.cons h1 (.cons h2 (.cons h3 (.cons h4 .nil)))) =>
          simp only [List.any_cons, List.any_nil, Bool.or_eq_false_iff] at n
          obtain ⟨n_e, n_a, n_b, _, n_g, _⟩ := n
          obtain ⟨e1, e_e, t_e, b_e⟩ := n_there n_e
          rw [e_e] at h0
          cases (show v0 = .int e1 from h0)
          obtain ⟨a1, a2, e_a, t_a, b_a, c_a⟩ := p_there n_a
          rw [e_a] at h1
          obtain ⟨r1, rfl, G1⟩ := h1
          obtain ⟨b1, b2, e_b, t_b, b_b, c_b⟩ := p_there n_b
          rw [e_b] at h2
          obtain ⟨r2, rfl, G2⟩ := h2
          cases (show v3 = .str s from h3)
          obtain ⟨g1, e_g, t_g, b_g⟩ := n_there n_g
          rw [e_g] at h4
          cases (show v4 = .int g1 from h4)
          subst t_e t_a t_b t_g
          clear e_e e_a e_b e_g
          have bb : B20 [.str "stack", .sheet (a1, a2, b1, b2), .str s, .int e1, .int g1] := ⟨trivial, ⟨b_a, c_a, b_b, c_b⟩, trivial, b_e, b_g, trivial⟩
          have ii := items_stack bb
          have sw : stW [.str "stack", .sheet (a1, a2, b1, b2), .str s, .int e1, .int g1] = _ := stW_stack
          rw [sw] at ii
          refine ⟨fun σ G => ∃ y, σ = [some (.str (Str.ofString "stack")), some (.ref l), some (.ref y)] ∧ Same H G, ?_, ?_⟩
          · refine ⟨_, rfl, _, rfl, l, _, 0, .int e1, rfl, rfl, SqL.of hl, atI_nat (j := 0) rfl, _, rfl, l, _, 1, .ref r1, rfl, rfl, SqL.of hl, atI_nat (j := 1) rfl, by show 2 ≤ sizeLine; decide, fun t1 m1 => ⟨by show 2 ≤ sizeLine; decide, fun t2 m2 => ?_⟩⟩
            have s1 := same_new (o := .tup [.int e1, .ref r1]) m1
            have s2 := same_new (o := .tup [.str (Str.ofString "stack"), .ref t1]) m2
            refine ⟨_, rfl, 2, rfl, l, _, rfl, SqL.of (s2 _ _ (s1 _ _ hl)), fun D m3 => ?_⟩
            have s3 := same_new (o := .lst [.ref r2, .str s, .int g1]) m3
            refine ⟨D, [.ref r2, .str s, .int g1], rfl, .inl ⟨SqL.of upd_same, fun t3 m4 => ?_⟩⟩
            have s4 := same_new (o := .tup [.ref r2, .str s, .int g1]) m4
            refine ⟨t2, t3, [.str (Str.ofString "stack"), .ref t1], [.ref r2, .str s, .int g1], rfl, rfl, SqT.of (s4 _ _ (s3 _ _ upd_same)), SqT.of upd_same, by show 2 + 3 ≤ sizeLine; decide, fun z => (by cases z), fun _ z => (by cases z), fun _ _ y my => ?_⟩
            have s5 := same_new (o := .tup ([.str (Str.ofString "stack"), .ref t1] ++ [.ref r2, .str s, .int g1])) my
            have s15 := s2.trans (s3.trans (s4.trans s5))
            have s05 := s1.trans s15
            exact ⟨y, rfl, s05⟩
          rintro σ G ⟨y, rfl, sG⟩
          have hlG := sG _ _ hl
          refine ⟨_, rfl, rfl, _, rfl, ?_⟩
          rw [dS, decide_eq_false (by decide +kernel)]
          refine iteF ?_
          refine ⟨_, rfl, rfl, _, rfl, ?_⟩
          rw [dS, decide_eq_true rfl]
          refine iteT ?_
          refine ⟨_, rfl, _, rfl, l, _, 1, .ref r1, rfl, rfl, SqL.of hlG, atI_nat (j := 1) rfl, _, rfl, l, _, 2, .ref r2, rfl, rfl, SqL.of hlG, atI_nat (j := 2) rfl, by show 2 ≤ sizeLine; decide, fun t1 m1 => ?_⟩
          have s1 := same_new (o := .tup [.ref r1, .ref r2]) m1
          have hl1 := s1 _ _ hlG
          refine ⟨_, rfl, l, _, 3, .str s, rfl, rfl, SqL.of hl1, atI_nat (j := 3) rfl, _, rfl, l, _, 0, .int e1, rfl, rfl, SqL.of hl1, atI_nat (j := 0) rfl, _, rfl, l, _, 4, .int g1, rfl, rfl, SqL.of hl1, atI_nat (j := 4) rfl, by show 5 ≤ sizeLine; decide, fun p m3 => ?_⟩
          have s3 := same_new (o := .tup [.str (Str.ofString "stack"), .ref t1, .str s, .int e1, .int g1]) m3
          have s03 := sG.trans (s1.trans s3)
          exact fin _ sw bb ii p _ s03 ⟨_, upd_same, .cons rfl (.cons ⟨t1, rfl, r1, r2, s3 _ _ upd_same, s03 _ _ G1, s03 _ _ G2⟩ (.cons rfl (.cons rfl (.cons rfl .nil))))⟩ (by simp) (head_w (by decide +kernel))
      | turn a b g =>
        match us, hf with
        | [v0, v1, v2], .cons h0 (.cons h1 (.cons h2 .nil)) =>
          simp only [List.any_cons, List.any_nil, Bool.or_eq_false_iff] at n
          obtain ⟨n_a, n_b, n_g, _⟩ := n
          obtain ⟨a1, a2, e_a, t_a, b_a, c_a⟩ := p_there n_a
          rw [e_a] at h0
          obtain ⟨r0, rfl, G0⟩ := h0
          obtain ⟨b1, b2, e_b, t_b, b_b, c_b⟩ := p_there n_b
          rw [e_b] at h1
          obtain ⟨r1, rfl, G1⟩ := h1
          obtain ⟨g1, e_g, t_g, b_g⟩ := n_there n_g
          rw [e_g] at h2
          cases (show v2 = .int g1 from h2)
          subst t_a t_b t_g
          clear e_a e_b e_g
          have bb : B20 [.str "turn", .sheet (a1, a2, b1, b2), .int g1] := ⟨trivial, ⟨b_a, c_a, b_b, c_b⟩, b_g, trivial⟩
          have ii := items_turn bb
          have sw : stW [.str "turn", .sheet (a1, a2, b1, b2), .int g1] = _ := rfl
          rw [sw] at ii
          refine ⟨fun σ G => ∃ y, σ = [some (.str (Str.ofString "turn")), some (.ref l), some (.ref y)] ∧ Same H G ∧ StepAt G y [.str "turn", .sheet (a1, a2, b1, b2), .int g1], ?_, ?_⟩
          · refine ⟨_, rfl, _, rfl, l, _, 0, .ref r0, rfl, rfl, SqL.of hl, atI_nat (j := 0) rfl, _, rfl, l, _, 1, .ref r1, rfl, rfl, SqL.of hl, atI_nat (j := 1) rfl, by show 2 ≤ sizeLine; decide, fun t1 m1 => ⟨by show 2 ≤ sizeLine; decide, fun t2 m2 => ?_⟩⟩
            have s1 := same_new (o := .tup [.ref r0, .ref r1]) m1
            have s2 := same_new (o := .tup [.str (Str.ofString "turn"), .ref t1]) m2
            refine ⟨_, rfl, 2, rfl, l, _, rfl, SqL.of (s2 _ _ (s1 _ _ hl)), fun D m3 => ?_⟩
            have s3 := same_new (o := .lst [.int g1]) m3
            refine ⟨D, [.int g1], rfl, .inl ⟨SqL.of upd_same, fun t3 m4 => ?_⟩⟩
            have s4 := same_new (o := .tup [.int g1]) m4
            refine ⟨t2, t3, [.str (Str.ofString "turn"), .ref t1], [.int g1], rfl, rfl, SqT.of (s4 _ _ (s3 _ _ upd_same)), SqT.of upd_same, by show 2 + 1 ≤ sizeLine; decide, fun z => (by cases z), fun _ z => (by cases z), fun _ _ y my => ?_⟩
            have s5 := same_new (o := .tup ([.str (Str.ofString "turn"), .ref t1] ++ [.int g1])) my
            have s15 := s2.trans (s3.trans (s4.trans s5))
            have s05 := s1.trans s15
            exact ⟨y, rfl, s05, ⟨_, upd_same, .cons rfl (.cons ⟨t1, rfl, r0, r1, s15 _ _ upd_same, s05 _ _ G0, s05 _ _ G1⟩ (.cons rfl .nil))⟩⟩
          rintro σ G ⟨y, rfl, sG, hy⟩
          refine ⟨_, rfl, rfl, _, rfl, ?_⟩
          rw [dS, decide_eq_false (by decide +kernel)]
          refine iteF ?_
          refine ⟨_, rfl, rfl, _, rfl, ?_⟩
          rw [dS, decide_eq_false (by decide +kernel)]
          refine iteF ?_
          exact fin _ sw bb ii y G sG hy (by simp) (head_w (by decide +kernel))
end
/-! ### steps that are read, by the law -/
/-- what the law finds in the first words of a text, by a shape -/
def foundTo (ks ws : List Str) : Nat → Option (List Itm)
  | 0 => some []
  | i + 1 => match foundTo ks ws i, ks[i]?, ws[i]? with
    | some f, some k, some v => if k = "P" then some (f ++ [pIt v]) else if k = "N" then some (f ++ [nIt v]) else if k = "S" then some (f ++ [.str v]) else if k = v then some f else none
    | _, _, _ => none
theorem found_step {ks ws : List Str} {i : Nat} {f : List Itm} {k v : Str} (g : foundTo ks ws i = some f) (hk : ks[i]? = some k) (hv : ws[i]? = some v) : foundTo ks ws (i + 1) = if k = "P" then some (f ++ [pIt v]) else if k = "N" then some (f ++ [nIt v]) else if k = "S" then some (f ++ [.str v]) else if k = v then some f else none := by
  rw [foundTo, g, hk, hv]
theorem found_back {ks ws : List Str} {i : Nat} {f : List Itm} (h : foundTo ks ws (i + 1) = some f) : ∃ f' k v, foundTo ks ws i = some f' ∧ ks[i]? = some k ∧ ws[i]? = some v := by
  rw [foundTo] at h
  split at h
  · rename_i f' k v h1 h2 h3
    exact ⟨f', k, v, h1, h2, h3⟩
  · cases h
theorem found_mono {ks ws : List Str} {i : Nat} : ∀ {j : Nat} {f : List Itm}, foundTo ks ws j = some f → i ≤ j → ∃ f', foundTo ks ws i = some f'
  | 0, f, h, l => by
    obtain rfl : i = 0 := by omega
    exact ⟨f, h⟩
  | j + 1, f, h, l => by
    by_cases e : i = j + 1
    · subst e
      exact ⟨f, h⟩
    · obtain ⟨f', _, _, h1, _⟩ := found_back h
      exact found_mono h1 (by omega)
theorem back_P {ks ws : List Str} {i : Nat} {f : List Itm} {v : Str} (h : foundTo ks ws (i + 1) = some f) (hk : ks[i]? = some (Str.ofString "P")) (hv : ws[i]? = some v) : ∃ f', foundTo ks ws i = some f' ∧ f = f' ++ [pIt v] := by
  obtain ⟨f', _, _, h1, _, _⟩ := found_back h
  rw [found_step h1 hk hv, if_pos rfl] at h
  exact ⟨f', h1, (Option.some.inj h).symm⟩
theorem back_N {ks ws : List Str} {i : Nat} {f : List Itm} {v : Str} (h : foundTo ks ws (i + 1) = some f) (hk : ks[i]? = some (Str.ofString "N")) (hv : ws[i]? = some v) : ∃ f', foundTo ks ws i = some f' ∧ f = f' ++ [nIt v] := by
  obtain ⟨f', _, _, h1, _, _⟩ := found_back h
  rw [found_step h1 hk hv, if_neg (by decide +kernel), if_pos rfl] at h
  exact ⟨f', h1, (Option.some.inj h).symm⟩
theorem back_S {ks ws : List Str} {i : Nat} {f : List Itm} {v : Str} (h : foundTo ks ws (i + 1) = some f) (hk : ks[i]? = some (Str.ofString "S")) (hv : ws[i]? = some v) : ∃ f', foundTo ks ws i = some f' ∧ f = f' ++ [.str v] := by
  obtain ⟨f', _, _, h1, _, _⟩ := found_back h
  rw [found_step h1 hk hv, if_neg (by decide +kernel), if_neg (by decide +kernel), if_pos rfl] at h
  exact ⟨f', h1, (Option.some.inj h).symm⟩
theorem back_C {ks ws : List Str} {i : Nat} {f : List Itm} {v c : Str} (h : foundTo ks ws (i + 1) = some f) (hk : ks[i]? = some c) (hv : ws[i]? = some v) (c1 : c ≠ "P") (c2 : c ≠ "N") (c3 : c ≠ "S") : foundTo ks ws i = some f ∧ v = c := by
  obtain ⟨f', _, _, h1, _, _⟩ := found_back h
  rw [found_step h1 hk hv, if_neg c1, if_neg c2, if_neg c3] at h
  by_cases e : c = v
  · rw [if_pos e] at h
    exact ⟨by rw [h1]; exact h, e.symm⟩
  · rw [if_neg e] at h
    cases h
abbrev ks_saw : List Str := [Str.ofString "saw", Str.ofString "P", Str.ofString "x", Str.ofString "P", Str.ofString "S", Str.ofString "at", Str.ofString "P", Str.ofString "times", Str.ofString "N"]
theorem found_saw (a b s e g : Str) : foundTo ks_saw [Str.ofString "saw", a, Str.ofString "x", b, s, Str.ofString "at", e, Str.ofString "times", g] 9 = some [pIt a, pIt b, .str s, pIt e, nIt g] := by kernel_rfl
theorem inv_saw {w0 w1 w2 w3 w4 w5 w6 w7 w8 : Str} {f : List Itm} (h : foundTo ks_saw [w0, w1, w2, w3, w4, w5, w6, w7, w8] 9 = some f) : FoundW (Str.ofString "saw") [w0, w1, w2, w3, w4, w5, w6, w7, w8] f := by
  obtain ⟨f8, h, e8⟩ := back_N (i := 8) h rfl rfl
  obtain ⟨h, q7⟩ := back_C (i := 7) h rfl rfl (by decide +kernel) (by decide +kernel) (by decide +kernel)
  obtain ⟨f6, h, e6⟩ := back_P (i := 6) h rfl rfl
  obtain ⟨h, q5⟩ := back_C (i := 5) h rfl rfl (by decide +kernel) (by decide +kernel) (by decide +kernel)
  obtain ⟨f4, h, e4⟩ := back_S (i := 4) h rfl rfl
  obtain ⟨f3, h, e3⟩ := back_P (i := 3) h rfl rfl
  obtain ⟨h, q2⟩ := back_C (i := 2) h rfl rfl (by decide +kernel) (by decide +kernel) (by decide +kernel)
  obtain ⟨f1, h, e1⟩ := back_P (i := 1) h rfl rfl
  obtain ⟨h, q0⟩ := back_C (i := 0) h rfl rfl (by decide +kernel) (by decide +kernel) (by decide +kernel)
  cases h
  subst e1 e3 e4 e6 e8
  subst q0 q2 q5 q7
  exact .saw w1 w3 w4 w6 w8
abbrev ks_split : List Str := [Str.ofString "split", Str.ofString "P", Str.ofString "x", Str.ofString "P", Str.ofString "S", Str.ofString "into", Str.ofString "N", Str.ofString "times", Str.ofString "N"]
theorem found_split (a b s e g : Str) : foundTo ks_split [Str.ofString "split", a, Str.ofString "x", b, s, Str.ofString "into", e, Str.ofString "times", g] 9 = some [pIt a, pIt b, .str s, nIt e, nIt g] := by kernel_rfl
theorem inv_split {w0 w1 w2 w3 w4 w5 w6 w7 w8 : Str} {f : List Itm} (h : foundTo ks_split [w0, w1, w2, w3, w4, w5, w6, w7, w8] 9 = some f) : FoundW (Str.ofString "split") [w0, w1, w2, w3, w4, w5, w6, w7, w8] f := by
  obtain ⟨f8, h, e8⟩ := back_N (i := 8) h rfl rfl
  obtain ⟨h, q7⟩ := back_C (i := 7) h rfl rfl (by decide +kernel) (by decide +kernel) (by decide +kernel)
  obtain ⟨f6, h, e6⟩ := back_N (i := 6) h rfl rfl
  obtain ⟨h, q5⟩ := back_C (i := 5) h rfl rfl (by decide +kernel) (by decide +kernel) (by decide +kernel)
  obtain ⟨f4, h, e4⟩ := back_S (i := 4) h rfl rfl
  obtain ⟨f3, h, e3⟩ := back_P (i := 3) h rfl rfl
  obtain ⟨h, q2⟩ := back_C (i := 2) h rfl rfl (by decide +kernel) (by decide +kernel) (by decide +kernel)
  obtain ⟨f1, h, e1⟩ := back_P (i := 1) h rfl rfl
  obtain ⟨h, q0⟩ := back_C (i := 0) h rfl rfl (by decide +kernel) (by decide +kernel) (by decide +kernel)
  cases h
  subst e1 e3 e4 e6 e8
  subst q0 q2 q5 q7
  exact .split w1 w3 w4 w6 w8
abbrev ks_turn : List Str := [Str.ofString "turn", Str.ofString "P", Str.ofString "x", Str.ofString "P", Str.ofString "times", Str.ofString "N"]
theorem found_turn (a b g : Str) : foundTo ks_turn [Str.ofString "turn", a, Str.ofString "x", b, Str.ofString "times", g] 6 = some [pIt a, pIt b, nIt g] := by kernel_rfl
theorem inv_turn {w0 w1 w2 w3 w4 w5 : Str} {f : List Itm} (h : foundTo ks_turn [w0, w1, w2, w3, w4, w5] 6 = some f) : FoundW (Str.ofString "turn") [w0, w1, w2, w3, w4, w5] f := by
  obtain ⟨f5, h, e5⟩ := back_N (i := 5) h rfl rfl
  obtain ⟨h, q4⟩ := back_C (i := 4) h rfl rfl (by decide +kernel) (by decide +kernel) (by decide +kernel)
  obtain ⟨f3, h, e3⟩ := back_P (i := 3) h rfl rfl
  obtain ⟨h, q2⟩ := back_C (i := 2) h rfl rfl (by decide +kernel) (by decide +kernel) (by decide +kernel)
  obtain ⟨f1, h, e1⟩ := back_P (i := 1) h rfl rfl
  obtain ⟨h, q0⟩ := back_C (i := 0) h rfl rfl (by decide +kernel) (by decide +kernel) (by decide +kernel)
  cases h
  subst e1 e3 e5
  subst q0 q2 q4
  exact .turn w1 w3 w5
abbrev ks_glue : List Str := [Str.ofString "glue", Str.ofString "P", Str.ofString "x", Str.ofString "P", Str.ofString "and", Str.ofString "P", Str.ofString "x", Str.ofString "P", Str.ofString "S", Str.ofString "times", Str.ofString "N"]
theorem found_glue (a b c d s g : Str) : foundTo ks_glue [Str.ofString "glue", a, Str.ofString "x", b, Str.ofString "and", c, Str.ofString "x", d, s, Str.ofString "times", g] 11 = some [pIt a, pIt b, pIt c, pIt d, .str s, nIt g] := by kernel_rfl
theorem inv_glue {w0 w1 w2 w3 w4 w5 w6 w7 w8 w9 w10 : Str} {f : List Itm} (h : foundTo ks_glue [w0, w1, w2, w3, w4, w5, w6, w7, w8, w9, w10] 11 = some f) : FoundW (Str.ofString "glue") [w0, w1, w2, w3, w4, w5, w6, w7, w8, w9, w10] f := by
  obtain ⟨f10, h, e10⟩ := back_N (i := 10) h rfl rfl
  obtain ⟨h, q9⟩ := back_C (i := 9) h rfl rfl (by decide +kernel) (by decide +kernel) (by decide +kernel)
  obtain ⟨f8, h, e8⟩ := back_S (i := 8) h rfl rfl
  obtain ⟨f7, h, e7⟩ := back_P (i := 7) h rfl rfl
  obtain ⟨h, q6⟩ := back_C (i := 6) h rfl rfl (by decide +kernel) (by decide +kernel) (by decide +kernel)
  obtain ⟨f5, h, e5⟩ := back_P (i := 5) h rfl rfl
  obtain ⟨h, q4⟩ := back_C (i := 4) h rfl rfl (by decide +kernel) (by decide +kernel) (by decide +kernel)
  obtain ⟨f3, h, e3⟩ := back_P (i := 3) h rfl rfl
  obtain ⟨h, q2⟩ := back_C (i := 2) h rfl rfl (by decide +kernel) (by decide +kernel) (by decide +kernel)
  obtain ⟨f1, h, e1⟩ := back_P (i := 1) h rfl rfl
  obtain ⟨h, q0⟩ := back_C (i := 0) h rfl rfl (by decide +kernel) (by decide +kernel) (by decide +kernel)
  cases h
  subst e1 e3 e5 e7 e8 e10
  subst q0 q2 q4 q6 q9
  exact .glue w1 w3 w5 w7 w8 w10
abbrev ks_stack : List Str := [Str.ofString "stack", Str.ofString "N", Str.ofString "of", Str.ofString "P", Str.ofString "x", Str.ofString "P", Str.ofString "S", Str.ofString "times", Str.ofString "N"]
theorem found_stack (a b s e g : Str) : foundTo ks_stack [Str.ofString "stack", e, Str.ofString "of", a, Str.ofString "x", b, s, Str.ofString "times", g] 9 = some [nIt e, pIt a, pIt b, .str s, nIt g] := by kernel_rfl
theorem inv_stack {w0 w1 w2 w3 w4 w5 w6 w7 w8 : Str} {f : List Itm} (h : foundTo ks_stack [w0, w1, w2, w3, w4, w5, w6, w7, w8] 9 = some f) : FoundW (Str.ofString "stack") [w0, w1, w2, w3, w4, w5, w6, w7, w8] f := by
  obtain ⟨f8, h, e8⟩ := back_N (i := 8) h rfl rfl
  obtain ⟨h, q7⟩ := back_C (i := 7) h rfl rfl (by decide +kernel) (by decide +kernel) (by decide +kernel)
  obtain ⟨f6, h, e6⟩ := back_S (i := 6) h rfl rfl
  obtain ⟨f5, h, e5⟩ := back_P (i := 5) h rfl rfl
  obtain ⟨h, q4⟩ := back_C (i := 4) h rfl rfl (by decide +kernel) (by decide +kernel) (by decide +kernel)
  obtain ⟨f3, h, e3⟩ := back_P (i := 3) h rfl rfl
  obtain ⟨h, q2⟩ := back_C (i := 2) h rfl rfl (by decide +kernel) (by decide +kernel) (by decide +kernel)
  obtain ⟨f1, h, e1⟩ := back_N (i := 1) h rfl rfl
  obtain ⟨h, q0⟩ := back_C (i := 0) h rfl rfl (by decide +kernel) (by decide +kernel) (by decide +kernel)
  cases h
  subst e1 e3 e5 e6 e8
  subst q0 q2 q4 q7
  exact .stack w3 w5 w6 w1 w8
def shPs (wd : Str) : List Str := if wd = "saw" then ks_saw else if wd = "split" then ks_split else if wd = "turn" then ks_turn else if wd = "glue" then ks_glue else ks_stack
abbrev Five (wd : Str) : Prop := wd = "saw" ∨ wd = "split" ∨ wd = "turn" ∨ wd = "glue" ∨ wd = "stack"
theorem wr_found {z : Str} {ts : List Itm} (h : Wr z ts) : ∃ w0 r, Txt.split z (Str.ofString " ") = w0 :: r ∧ Five w0 ∧ (shPs w0).length = (w0 :: r).length ∧ ∃ f, foundTo (shPs w0) (w0 :: r) (shPs w0).length = some f := by
  have hw := h.words
  have sh := h.shaped
  cases sh with
  | saw hs hc => exact ⟨_, _, hw, .inl rfl, rfl, _, found_saw _ _ _ _ _⟩
  | split hs hn hc =>
    rw [stW_split] at hw
    exact ⟨_, _, hw, .inr (.inl rfl), rfl, _, found_split _ _ _ _ _⟩
  | turn hc => exact ⟨_, _, hw, .inr (.inr (.inl rfl)), rfl, _, found_turn _ _ _⟩
  | glue hs hc => exact ⟨_, _, hw, .inr (.inr (.inr (.inl rfl))), rfl, _, found_glue _ _ _ _ _ _⟩
  | stack hs hn hc =>
    rw [stW_stack] at hw
    exact ⟨_, _, hw, .inr (.inr (.inr (.inr rfl))), rfl, _, found_stack _ _ _ _ _⟩
theorem found_w {wd : Str} (h5 : Five wd) {r : List Str} {f : List Itm} (l : (shPs wd).length = (wd :: r).length) (h : foundTo (shPs wd) (wd :: r) (shPs wd).length = some f) : FoundW wd (wd :: r) f := by
  rcases h5 with rfl | rfl | rfl | rfl | rfl
  · have e : shPs (Str.ofString "saw") = ks_saw := by decide +kernel
    rw [e] at l h
    have l : 9 = r.length + 1 := l
    match r, (show r.length = 8 by omega) with
    | [w1, w2, w3, w4, w5, w6, w7, w8], _ => exact inv_saw h
  · have e : shPs (Str.ofString "split") = ks_split := by decide +kernel
    rw [e] at l h
    have l : 9 = r.length + 1 := l
    match r, (show r.length = 8 by omega) with
    | [w1, w2, w3, w4, w5, w6, w7, w8], _ => exact inv_split h
  · have e : shPs (Str.ofString "turn") = ks_turn := by decide +kernel
    rw [e] at l h
    have l : 6 = r.length + 1 := l
    match r, (show r.length = 5 by omega) with
    | [w1, w2, w3, w4, w5], _ => exact inv_turn h
  · have e : shPs (Str.ofString "glue") = ks_glue := by decide +kernel
    rw [e] at l h
    have l : 11 = r.length + 1 := l
    match r, (show r.length = 10 by omega) with
    | [w1, w2, w3, w4, w5, w6, w7, w8, w9, w10], _ => exact inv_glue h
  · have e : shPs (Str.ofString "stack") = ks_stack := by decide +kernel
    rw [e] at l h
    have l : 9 = r.length + 1 := l
    match r, (show r.length = 8 by omega) with
    | [w1, w2, w3, w4, w5, w6, w7, w8], _ => exact inv_stack h
abbrev shapesK : List (Key × V) := [(Sum.inr "saw", .str "saw P x P S at P times N"), (Sum.inr "split", .str "split P x P S into N times N"), (Sum.inr "turn", .str "turn P x P times N")]
abbrev kvs5 : List (Key × V) := putK (putK (mergeK [] shapesK) (Sum.inr "glue") (.str "glue P x P and P x P S times N")) (Sum.inr "stack") (.str "stack N of P x P S times N")
theorem val5 {wd : Str} (h : Five wd) : ∃ t, valV kvs5 (Sum.inr wd) = some (.str t) ∧ Txt.split t (Str.ofString " ") = shPs wd ∧ t.length ≤ 60 := by
  rcases h with rfl | rfl | rfl | rfl | rfl
  · exact ⟨"saw P x P S at P times N", by decide +kernel, by decide +kernel, by decide +kernel⟩
  · exact ⟨"split P x P S into N times N", by decide +kernel, by decide +kernel, by decide +kernel⟩
  · exact ⟨"turn P x P times N", by decide +kernel, by decide +kernel, by decide +kernel⟩
  · exact ⟨"glue P x P and P x P S times N", by decide +kernel, by decide +kernel, by decide +kernel⟩
  · exact ⟨"stack N of P x P S times N", by decide +kernel, by decide +kernel, by decide +kernel⟩
theorem val0 {wd : Str} (h : ¬ Five wd) : valV kvs5 (Sum.inr wd) = none := by
  have e : kvs5 = putK (putK (putK (putK (putK ([] : List (Key × V)) (Sum.inr "saw") (.str "saw P x P S at P times N")) (Sum.inr "split") (.str "split P x P S into N times N")) (Sum.inr "turn") (.str "turn P x P times N")) (Sum.inr "glue") (.str "glue P x P and P x P S times N")) (Sum.inr "stack") (.str "stack N of P x P S times N") := rfl
  rw [e, valV_put, valV_put, valV_put, valV_put, valV_put, valV_nil]
  rw [if_neg fun z => h (.inr (.inr (.inr (.inr (Sum.inr.inj z))))), if_neg fun z => h (.inr (.inr (.inr (.inl (Sum.inr.inj z))))), if_neg fun z => h (.inr (.inr (.inl (Sum.inr.inj z)))), if_neg fun z => h (.inr (.inl (Sum.inr.inj z))), if_neg fun z => h (.inl (Sum.inr.inj z))]
section
variable {base : Heap} {K : PySem.W.Frag} {mg : Str → Option Value} {P : Program} {w : World}
theorem ok_step_read (T : Txt K mg) : FnOk P w K mg base CX0 5 T.f_step_read T.d_step_read ["_law_text_z"] spReadStep := by
  refine T.F_step_read.ok sc_step_read (fun vs H Q E h => ?_) (fun cdv A outer s H vs Q E hr h => ?_)
  · obtain ⟨z, rfl, _⟩ := h
    rfl
  · obtain ⟨z, rfl, hz, q1, q2⟩ := h
    refine ⟨_, (pss_cons (ps_set (i := 1) sc_step_read.nd rfl (Or.inl rfl) (pe_split (pv 0) pe_str))
      (pss_cons (ps_set (i := 2) sc_step_read.nd rfl (Or.inl rfl) (pe_disp (pps_cons pe_str pe_str (pps_cons pe_str pe_str (pps_cons pe_str pe_str pps_nil))) (by rfl) (by rfl) (fun z => by cases z) (by decide)))
      (pss_cons (ps_dput (hu_of hr) (pv 2) pe_str pe_str (by rfl))
      (pss_cons (ps_dput (hu_of hr) (pv 2) pe_str pe_str (by rfl))
      (pss_cons (ps_if (pt_cmp (pc_dnotin (hu_of hr) (pe_ix ix_list (pv 1) pe_int (fun _ _ => rfl)) (pv 2))) (pss_one (ps_ret pe_non)) pss_nil)
      (pss_cons (ps_par (i := 4) (j := 5) (by rfl) sc_step_read.nd rfl rfl (by decide) rfl rfl (pa_cons (pe_split (pe_dget (hu_of hr) (pv 2) (pe_ix ix_list (pv 1) pe_int (fun _ _ => rfl)) (fun _ _ => rfl)) pe_str) (pa_cons (pe_lst pa_nil) pa_nil)) (by rfl))
      (pss_cons (ps_if (pt_cmpR op_ne (pe_callB call_len_seq (by rfl) T.n_len (by decide +kernel) (pa_cons (pv 4) pa_nil)) (pe_callB call_len_seq (by rfl) T.n_len (by decide +kernel) (pa_cons (pv 1) pa_nil)) (nomark _)) (pss_one (ps_ret pe_non)) pss_nil)
      (pss_cons (ps_for PassesOwn.never rfl (pi_range1 (by rfl) T.n_range (pa_cons (pe_callB call_len_seq (by rfl) T.n_len (by decide +kernel) (pa_cons (pv 4) pa_nil)) pa_nil)) (pg_name (i := 3) sc_step_read.nd rfl (Or.inl rfl)) (pss_one (ps_if (pt_cmpR op_eq (pe_ix ix_list (pv 4) (pv 3) (fun _ _ => rfl)) pe_str (nomark _)) (pss_one (ps_expr (pe_bm PySem.F.plainAttrs_list PySem.F.slot_list_append PySem.F.type_list_append mt_append (pv 5) (pa_cons (pe_call (ok_pair_read T) (hr.mono (by decide)) (by rfl) T.g_pair_read T.F_pair_read.kp T.b_pair_read .nil pass0 (pa_cons (pe_ix ix_list (pv 1) (pv 3) (fun _ _ => rfl)) pa_nil)) pa_nil)))) (pss_one (ps_if (pt_cmpR op_eq (pe_ix ix_list (pv 4) (pv 3) (fun _ _ => rfl)) pe_str (nomark _)) (pss_one (ps_expr (pe_bm PySem.F.plainAttrs_list PySem.F.slot_list_append PySem.F.type_list_append mt_append (pv 5) (pa_cons (pe_call (ok_number_read T) (hr.mono (by decide)) (by rfl) T.g_number_read T.F_number_read.kp T.b_number_read .nil pass0 (pa_cons (pe_ix ix_list (pv 1) (pv 3) (fun _ _ => rfl)) pa_nil)) pa_nil)))) (pss_one (ps_if (pt_cmpR op_eq (pe_ix ix_list (pv 4) (pv 3) (fun _ _ => rfl)) pe_str (nomark _)) (pss_one (ps_expr (pe_bm PySem.F.plainAttrs_list PySem.F.slot_list_append PySem.F.type_list_append mt_append (pv 5) (pa_cons (pe_ix ix_list (pv 1) (pv 3) (fun _ _ => rfl)) pa_nil)))) (pss_one (ps_if (pt_cmpR op_ne (pe_ix ix_list (pv 4) (pv 3) (fun _ _ => rfl)) (pe_ix ix_list (pv 1) (pv 3) (fun _ _ => rfl)) (nomark _)) (pss_one (ps_ret pe_non)) pss_nil)))))))))
      (pss_one (ps_ret (pe_call (ok_step_made T) (hr.mono (by decide)) (by rfl) T.g_step_made T.F_step_made.kp T.b_step_made .nil pass0 (pa_cons (pe_ix ix_list (pv 1) pe_int (fun _ _ => rfl)) (pa_cons (pv 5) pa_nil))))))))))))), ?_⟩
    have n1 : (Str.ofString " ").length = 1 := by decide +kernel
    have wz := split_weight z (Str.ofString " ") (by rw [n1]; decide)
    have lp := split_pos z (Str.ofString " ")
    have pl : ∀ y ∈ Txt.split z (Str.ofString " "), y.length ≤ 5700 := fun y hy => by
      have := part_len hy (by rw [n1]; decide)
      omega
    refine ⟨_, rfl, ⟨_, rfl⟩, z, _, rfl, rfl, by decide +kernel, by rw [sz_eq]; omega, fun L nL => ?_⟩
    have s0 := same_new (o := .lst ((Txt.split z (Str.ofString " ")).map V.str)) nL
    have hL : upd H L (.lst ((Txt.split z (Str.ofString " ")).map V.str)) L = some (.lst ((Txt.split z (Str.ofString " ")).map V.str)) := upd_same
    have wf : ∀ ts, Wr z ts → _ := fun ts h => wr_found h
    have fw : ∀ {w0 : Str} {r : List Str} {f : List Itm}, Txt.split z (Str.ofString " ") = w0 :: r → FoundW w0 (w0 :: r) f → Txt.split z (Str.ofString " ") = w0 :: r := fun e _ => e
    generalize hws : Txt.split z (Str.ofString " ") = ws at *
    match ws, lp with
    | w0 :: r, _ =>
      generalize upd H L (.lst ((w0 :: r).map V.str)) = H1 at s0 hL ⊢
      intro d nd
      refine ⟨upd_same, shapesK, rfl, by decide, ?_⟩
      refine ⟨_, rfl, d, _, rfl, DPut.k (k := Sum.inr "glue") upd_same (by decide +kernel), ?_⟩
      refine ⟨_, rfl, d, _, rfl, DPut.k (k := Sum.inr "stack") upd_same (by decide +kernel), ?_⟩
      have s5 : Same H1 (upd (upd (upd (upd H1 d (.dK [])) d (.dK (mergeK [] shapesK))) d (.dK (putK (mergeK [] shapesK) (Sum.inr "glue") (.str "glue P x P and P x P S times N")))) d (.dK kvs5)) := fun a o e => by
        have ne := ne_of_none e nd
        rw [upd_ne ne, upd_ne ne, upd_ne ne, upd_ne ne]
        exact e
      have hd : upd (upd (upd (upd H1 d (.dK [])) d (.dK (mergeK [] shapesK))) d (.dK (putK (mergeK [] shapesK) (Sum.inr "glue") (.str "glue P x P and P x P S times N")))) d (.dK kvs5) d = some (.dK kvs5) := upd_same
      show tSeq _ _ _ _ (upd (upd (upd (upd H1 d (.dK [])) d (.dK (mergeK [] shapesK))) d (.dK (putK (mergeK [] shapesK) (Sum.inr "glue") (.str "glue P x P and P x P S times N")))) d (.dK kvs5))
      generalize upd (upd (upd (upd H1 d (.dK [])) d (.dK (mergeK [] shapesK))) d (.dK (putK (mergeK [] shapesK) (Sum.inr "glue") (.str "glue P x P and P x P S times N")))) d (.dK kvs5) = H5 at s5 hd ⊢
      have s05 := s0.trans s5
      have hL5 := s5 _ _ hL
      have g := DGet.k (k := Sum.inr w0) hd
      clear s0 s5 hL nd
      by_cases h5 : ¬ Five w0
      · rw [val0 h5] at g
        refine ⟨_, rfl, L, _, 0, .str w0, rfl, rfl, SqL.of hL5, atI_nat (j := 0) rfl, _, rfl, d, none, rfl, g, true, rfl, iteT (q2 (fun ts h => ?_) _ s05)⟩
        obtain ⟨w0', r', e, f5, _⟩ := wf ts h
        rw [(List.cons.inj e).1] at h5
        exact h5 f5
      · have h5 := Classical.not_not.mp h5
        obtain ⟨t, gt, st, lt⟩ := val5 h5
        rw [gt] at g
        refine ⟨_, rfl, L, _, 0, .str w0, rfl, rfl, SqL.of hL5, atI_nat (j := 0) rfl, _, rfl, d, _, rfl, g, false, rfl, iteF ?_⟩
        refine ⟨_, rfl, _, rfl, L, _, 0, .str w0, rfl, rfl, SqL.of hL5, atI_nat (j := 0) rfl, d, _, rfl, g, ⟨_, rfl⟩, t, _, rfl, rfl, by decide +kernel, by rw [sz_eq]; omega, fun Ls nLs => ?_⟩
        rw [st]
        have e6 := same_new (o := .lst ((shPs w0).map V.str)) nLs
        have hLs : upd H5 Ls (.lst ((shPs w0).map V.str)) Ls = some (.lst ((shPs w0).map V.str)) := upd_same
        refine ⟨Nat.zero_le _, fun D nD => ⟨_, _, rfl, ?_⟩⟩
        have e7 := same_new (o := .lst []) nD
        have hLs7 := e7 _ _ hLs
        have hL7 := e7 _ _ (e6 _ _ hL5)
        have s07 := s05.trans (e6.trans e7)
        have nDH : H D = none := (s05.trans e6).free nD
        have hD7 : upd (upd H5 Ls (.lst ((shPs w0).map V.str))) D (.lst []) D = some (.lst []) := upd_same
        have neL : L ≠ D := ne_of_none (e6 _ _ hL5) nD
        have neLs : Ls ≠ D := ne_of_none hLs nD
        show tSeq _ _ _ _ (upd (upd H5 Ls (.lst ((shPs w0).map V.str))) D (.lst []))
        generalize upd (upd H5 Ls (.lst ((shPs w0).map V.str))) D (.lst []) = H7 at e7 hLs7 hL7 s07 hD7 ⊢
        clear e6 e7 hLs s05 hd g hL5 nLs nD
        refine ⟨_, rfl, Ls, _, rfl, .inl (SqL.of hLs7), _, rfl, L, _, rfl, .inl (SqL.of hL7), rfl, _, rfl, ?_⟩
        by_cases hl : (shPs w0).length = (w0 :: r).length
        · refine ite_nt (congrArg V.int (by rw [List.length_map, List.length_map, hl])) ?_
          have l20 : (shPs w0).length ≤ 5701 := by omega
          refine ⟨_, rfl, Ls, _, rfl, .inl (SqL.of hLs7), ((shPs w0).length : Nat), by rw [List.length_map], by omega, by omega, for_range (lo := 0) (n := (shPs w0).length) (fun i σ G => ∃ y3, σ = [some (.str z), some (.ref L), some (.ref d), y3, some (.ref Ls), some (.ref D)] ∧ Same H G ∧ G L = some (.lst ((w0 :: r).map V.str)) ∧ G Ls = some (.lst ((shPs w0).map V.str)) ∧ ∃ us f, G D = some (.lst us) ∧ us.length ≤ i ∧ Paired (ItAt G) us f ∧ foundTo (shPs w0) (w0 :: r) i = some f) ⟨none, rfl, s07, hL7, hLs7, [], [], hD7, Nat.le_refl _, .nil, rfl⟩ ?_ ?_⟩
          · rintro i σ G hi ⟨y3, rfl, sG, hLG, hLsG, us, f, hDG, lu, pu, g⟩
            obtain ⟨k, hk⟩ : ∃ k, (shPs w0)[i]? = some k := ⟨_, List.getElem?_eq_getElem hi⟩
            obtain ⟨v, hv⟩ : ∃ v, (w0 :: r)[i]? = some v := ⟨_, List.getElem?_eq_getElem (by omega)⟩
            have hk1 : atI ((shPs w0).map V.str) (0 + (i : Int)) = some (.str k) := by
              have := atI_nat (xs := (shPs w0).map V.str) (j := i) (v := .str k) (by rw [List.getElem?_map, hk]; rfl)
              rwa [show ((i : Nat) : Int) = 0 + (i : Int) by omega] at this
            have hv1 : atI ((w0 :: r).map V.str) (0 + (i : Int)) = some (.str v) := by
              have := atI_nat (xs := (w0 :: r).map V.str) (j := i) (v := .str v) (by rw [List.getElem?_map, hv]; rfl)
              rwa [show ((i : Nat) : Int) = 0 + (i : Int) by omega] at this
            have lv := pl v (List.mem_of_getElem? hv)
            have st := found_step g hk hv
            have next : ∀ (dv : V) (t : Itm) (Ha : Hp), Same G Ha → ItAt Ha dv t → foundTo (shPs w0) (w0 :: r) (i + 1) = some (f ++ [t]) → (∃ y3, ([some (.str z), some (.ref L), some (.ref d), some (.int (0 + (i : Int))), some (.ref Ls), some (.ref D)] : L2.St) = [some (.str z), some (.ref L), some (.ref d), y3, some (.ref Ls), some (.ref D)] ∧ Same H (upd Ha D (.lst (us ++ [dv]))) ∧ upd Ha D (.lst (us ++ [dv])) L = some (.lst ((w0 :: r).map V.str)) ∧ upd Ha D (.lst (us ++ [dv])) Ls = some (.lst ((shPs w0).map V.str)) ∧ ∃ us' f', upd Ha D (.lst (us ++ [dv])) D = some (.lst us') ∧ us'.length ≤ i + 1 ∧ Paired (ItAt (upd Ha D (.lst (us ++ [dv])))) us' f' ∧ foundTo (shPs w0) (w0 :: r) (i + 1) = some f') := by
              intro dv t Ha sa hd e
              have keepT : ∀ p xs, Ha p = some (.tup xs) → upd Ha D (.lst (us ++ [dv])) p = some (.tup xs) := fun p xs e => (upd_ne (ne_of e (sa _ _ hDG) (by intro z; cases z))).trans e
              refine ⟨_, rfl, fun a o e => (upd_ne (ne_of_none e nDH)).trans (sa _ _ (sG _ _ e)), (upd_ne neL).trans (sa _ _ hLG), (upd_ne neLs).trans (sa _ _ hLsG), us ++ [dv], f ++ [t], upd_same, by rw [List.length_append, List.length_singleton]; omega, ?_, e⟩
              exact Paired.snoc (hd.mono keepT) (Paired.mono (fun v t (h : ItAt G v t) => (h.same sa).mono keepT) pu)
            refine ⟨_, rfl, _, rfl, Ls, _, _, .str k, rfl, rfl, SqL.of hLsG, hk1, rfl, _, rfl, ?_⟩
            rw [dS]
            by_cases k1 : k = "P"
            · rw [decide_eq_true k1]
              rw [if_pos k1] at st
              refine iteT ⟨_, rfl, .inl ⟨rfl, _, SqL.of hDG⟩, _, rfl, _, rfl, L, _, _, .str v, rfl, rfl, SqL.of hLG, hv1, ?_⟩
              (try unfold tNil)
              refine read_pI (by omega) fun dv Ha sa hd => ⟨D, us, dv, rfl, rfl, sa _ _ hDG, by rw [sz_eq]; omega, next dv _ Ha sa hd st⟩
            rw [decide_eq_false k1]
            rw [if_neg k1] at st
            refine iteF ⟨_, rfl, _, rfl, Ls, _, _, .str k, rfl, rfl, SqL.of hLsG, hk1, rfl, _, rfl, ?_⟩
            rw [dS]
            by_cases k2 : k = "N"
            · rw [decide_eq_true k2]
              rw [if_pos k2] at st
              refine iteT ⟨_, rfl, .inl ⟨rfl, _, SqL.of hDG⟩, _, rfl, _, rfl, L, _, _, .str v, rfl, rfl, SqL.of hLG, hv1, ?_⟩
              (try unfold tNil)
              refine read_nI (by omega) fun dv Ha sa hd => ⟨D, us, dv, rfl, rfl, sa _ _ hDG, by rw [sz_eq]; omega, next dv _ Ha sa hd st⟩
            rw [decide_eq_false k2]
            rw [if_neg k2] at st
            refine iteF ⟨_, rfl, _, rfl, Ls, _, _, .str k, rfl, rfl, SqL.of hLsG, hk1, rfl, _, rfl, ?_⟩
            rw [dS]
            by_cases k3 : k = "S"
            · rw [decide_eq_true k3]
              rw [if_pos k3] at st
              exact iteT ⟨_, rfl, .inl ⟨rfl, _, SqL.of hDG⟩, _, rfl, _, rfl, L, _, _, .str v, rfl, rfl, SqL.of hLG, hv1, D, us, .str v, rfl, rfl, hDG, by rw [sz_eq]; omega, next _ (.str v) G (Same.refl _) rfl st⟩
            rw [decide_eq_false k3]
            rw [if_neg k3] at st
            refine iteF ⟨_, rfl, _, rfl, Ls, _, _, .str k, rfl, rfl, SqL.of hLsG, hk1, _, rfl, _, rfl, L, _, _, .str v, rfl, rfl, SqL.of hLG, hv1, rfl, _, rfl, ?_⟩
            rw [dS]
            by_cases k4 : k = v
            · rw [decide_eq_true k4]
              rw [if_pos k4] at st
              exact iteF ⟨_, rfl, sG, hLG, hLsG, us, f, hDG, by omega, pu, st⟩
            · rw [decide_eq_false k4]
              rw [if_neg k4] at st
              refine iteT (q2 (fun ts h => ?_) _ sG)
              obtain ⟨w0', r', e, _, _, f', h'⟩ := wf ts h
              rw [← (List.cons.inj e).1, ← (List.cons.inj e).2] at h'
              obtain ⟨f2, h2⟩ := found_mono h' hi
              rw [st] at h2
              cases h2
          · rintro σ G ⟨y3, rfl, sG, hLG, hLsG, us, f, hDG, lu, pu, g⟩
            refine ⟨_, rfl, L, _, 0, .str w0, rfl, rfl, SqL.of hLG, atI_nat (j := 0) rfl, _, rfl, D, w0, z, _, f, us, rfl, hDG, pu, found_w h5 hl g, hws, fun ts p H' hw s' hS => q1 ts p _ hw (sG.trans s') hS, fun hn H' s' => q2 hn _ (sG.trans s')⟩
        · refine ite_nf (fun e => hl ?_) (q2 (fun ts h => ?_) _ s07)
          · have e := V.int.inj e
            rw [List.length_map, List.length_map] at e
            exact Int.ofNat.inj e
          · obtain ⟨w0', r', e, _, l, _⟩ := wf ts h
            rw [e] at hl
            rw [(List.cons.inj e).1] at hl
            exact hl l
end
inductive LkAll (H : Hp) (n : Nat) : List V → List V → Prop
  | nil : LkAll H n [] []
  | cons {x y : V} {xs ys : List V} : Lk H n x y → LkAll H n xs ys → LkAll H n (x :: xs) (y :: ys)
theorem LkAll.get {H : Hp} {n : Nat} : ∀ {xs ys : List V}, LkAll H n xs ys → xs.length = ys.length ∧ ∀ (i : Nat) (x y : V), xs[i]? = some x → ys[i]? = some y → Lk H n x y
  | _, _, .nil => ⟨rfl, fun i x y h => by simp at h⟩
  | _, _, .cons h t => ⟨congrArg Nat.succ t.get.1, fun i x y h1 h2 => match i, h1, h2 with
    | 0, h1, h2 => by cases h1; cases h2; exact h
    | i + 1, h1, h2 => t.get.2 i x y (by simpa using h1) (by simpa using h2)⟩
theorem Lk.lists {H : Hp} {n : Nat} {p q : Addr} {xs ys : List V} (hp : H p = some (.lst xs)) (hq : H q = some (.lst ys)) (hl : xs.length ≤ 1000) (h : LkAll H n xs ys) : Lk H (n + 1) (.ref p) (.ref q) := .inr ⟨p, q, xs, ys, rfl, rfl, .inr ⟨hp, hq⟩, h.get.1, hl, h.get.2⟩
theorem Lk.tups {H : Hp} {n : Nat} {p q : Addr} {xs ys : List V} (hp : H p = some (.tup xs)) (hq : H q = some (.tup ys)) (hl : xs.length ≤ 1000) (h : LkAll H n xs ys) : Lk H (n + 1) (.ref p) (.ref q) := .inr ⟨p, q, xs, ys, rfl, rfl, .inl ⟨hp, hq⟩, h.get.1, hl, h.get.2⟩
theorem Lk.int {H : Hp} {n : Nat} {i j : Int} (e : i = j) : Lk H n (.int i) (.int j) := Lk.flat (.inl ⟨i, rfl, by rw [e]⟩)
theorem Lk.bl {H : Hp} {n : Nat} {i j : Bool} (e : i = j) : Lk H n (.bl i) (.bl j) := Lk.flat (.inr (.inl ⟨i, rfl, by rw [e]⟩))
theorem Lk.pair {H : Hp} {n : Nat} {p q : Addr} {x y x' y' : Int} (hp : H p = some (.tup [.int x, .int y])) (hq : H q = some (.tup [.int x', .int y'])) (e1 : x = x') (e2 : y = y') : Lk H (n + 1) (.ref p) (.ref q) :=
  .tups hp hq (by simp) (.cons (.int e1) (.cons (.int e2) .nil))
/-! ### what is asked, within a block -/
section
variable {X : Cx} {k : Nat} {c P0 : Addr} {params : Arguments} {body : Expr} {scope : Scope} {t : XK → TE} {p lpos pos : Pos} {K : PySem.W.Frag} {mg : Str → Option Value} {q0 : Str}
theorem pe_tryB (T : Txt K mg) (hK : X.K = K) (hm : X.mg = mg) (hq : X.env.qual ++ "<lambda>" = q0) (hg : Gl X "_law_try") (TB : LamX.TabB X.base X.mg c P0) (hcode : X.env.code = .ref c) (hr : Room (k + 3) X.A) (L : LamX.LamS X.env.scope scope) (hdef : defaultsOf params X.env = ([], []))
    (hbind : ∀ (q : Str) (cl : List (Str × Addr)) (pm cv ctv : Value), bindArgs (PySem.W.kla_fn "<lambda>" q params body scope cl pm cv ctv) ⟨[], []⟩ = pure [])
    (hbody : ∀ (A : Around) (outer : List Env) (s : Shared) (H : Hp) (E : XK) (f c' : Addr), Room (k + 1) (A.deeper (LamX.lamEnv X scope s.heap.objs.size f c')) → PE (LamX.lamCx X A outer s H E scope f c') body (t E)) :
    PE X (.Call (.Name "_law_try" p) [.Lambda params body scope lpos] [] pos) (LamX.tLam [(P0, q0)] (TTry K T.r_GrainError) t) := by
  subst hK hm hq
  exact pe_try T hg TB hcode hr L hdef hbind hbody
end
/-! ### a text so many times; texts that are bent -/
section
variable {X : Cx}
theorem op_strmul : OpR X (binaryOp .Mult) (fun x y H Q => ∃ i n, x = .str i ∧ y = .int n ∧ MulOk i n ∧ Q (.str (Txt.mul i n)) H) := by
  intro pins s σ H x y v u Q I rx ry h
  obtain ⟨i, n, rfl, rfl, ok, q⟩ := h
  obtain ⟨t, rfl⟩ := rx
  obtain ⟨t', rfl⟩ := ry
  exact PySem.SB.mul ok fun t2 k => ⟨.str (Txt.mul i n), H, I.tok _, ⟨_, rfl⟩, q⟩
end
def signsL : List Str := ["", "0", "1", "r", "+", "-", " ", "x", "x ", "times", "a", "\n"]
theorem signs_len : ∀ s ∈ signsL, s.length ≤ 5 := by decide +kernel
section
variable {base : Heap} {K : PySem.W.Frag} {mg : Str → Option Value} {P : Program} {w : World}
def spBent : Sp := fun vs H Q _ => ∃ (b sb sg : Addr) (z : Str), vs = [.ref b, .str z, .ref sg] ∧ Bag H b sb ∧ H sg = some (.lst (signsL.map V.str)) ∧ sg ≠ b ∧ z.length ≤ 2600 ∧ ∀ (z' : Str) H', z'.length ≤ 2 * z.length + 5 → Bag H' b sb → Keep b H H' → Q (.str z') H'
theorem cut_len (z : Str) (lo hi : Option Int) : (cutS z lo hi).length ≤ z.length := by
  unfold cutS
  show (mkS _).length ≤ _
  rw [mkS_len, List.length_take, List.length_drop, TL.len_tl]
  show min _ (z.cps.toList.length - _) ≤ z.cps.toList.length
  omega
theorem ok_bent_text (T : Txt K mg) : FnOk P w K mg base CX0 3 T.f_bent_text T.d_bent_text ["_law_bag", "_law_text_z", "_law_signs"] spBent := by
  refine T.F_bent_text.ok sc_bent_text (fun vs H Q E h => ?_) (fun cdv A outer s H vs Q E hr h => ?_)
  · obtain ⟨b, sb, sg, z, rfl, _⟩ := h
    rfl
  · obtain ⟨b, sb, sg, z, rfl, B, hs, ne, hz, q⟩ := h
    refine ⟨_, (pss_cons (ps_par (i := 3) (j := 4) (by rfl) sc_bent_text.nd rfl rfl (by decide) rfl rfl (pa_cons (pe_call (ok_pull T) (hr.mono (by decide)) (by rfl) T.g_pull T.F_pull.kp T.b_pull .nil pass0 (pa_cons (pv 0) (pa_cons (pe_op op_add (pe_callB call_len_str (by rfl) T.n_len (by decide +kernel) (pa_cons (pv 1) pa_nil)) pe_int) pa_nil))) (pa_cons (pe_call (ok_of T) (hr.mono (by decide)) (by rfl) T.g_of T.F_of.kp T.b_of .nil pass0 (pa_cons (pv 0) (pa_cons (pv 2) pa_nil))) pa_nil)) (by rfl))
      (pss_one (ps_ret (pe_op op_add_str (pe_op op_add_str (pe_slice sl_str (pv 1) po_none (po_some (pv 3))) (pv 4)) (pe_slice sl_str (pv 1) (po_some (pe_op op_add (pv 3) (pe_call (ok_pull T) (hr.mono (by decide)) (by rfl) T.g_pull T.F_pull.kp T.b_pull .nil pass0 (pa_cons (pv 0) (pa_cons pe_int pa_nil))))) po_none))))), ?_⟩
    have hz' : z.length ≤ sizeLine := by rw [sz_eq]; omega
    refine ⟨_, rfl, _, rfl, z, rfl, hz', _, 1, rfl, rfl, b, sb, _, rfl, B, by omega, Nat.lt_of_le_of_lt (show ((z.length : Int) + 1).natAbs ≤ 2601 by omega) (by decide), fun at' H1 a0 a1 B1 k1 => ?_⟩
    refine ⟨_, rfl, _, rfl, b, sb, sg, _, rfl, B1, k1 _ _ ne hs, ne, by decide, by decide, fun i v H2 hv B2 k2 => ?_⟩
    obtain ⟨c, rfl, hc⟩ : ∃ c : Str, v = .str c ∧ c.length ≤ 5 := by
      rw [List.getElem?_map] at hv
      cases e : signsL[i]? with
      | none =>
        rw [e] at hv
        cases hv
      | some c =>
        rw [e] at hv
        cases hv
        exact ⟨c, rfl, signs_len c (List.mem_of_getElem? e)⟩
    have l1 := cut_len z none (some at')
    refine ⟨_, _, rfl, _, rfl, _, rfl, _, rfl, _, rfl, hz', _, rfl, _, c, rfl, rfl, by rw [sz_eq]; omega, _, rfl, _, rfl, _, rfl, b, sb, 2, rfl, B2, by decide, by decide, fun d H3 d0 d1 B3 k3 => ⟨_, _, rfl, rfl, _, rfl, _, rfl, hz', _, _, rfl, rfl, ?_, q _ _ ?_ B3 (k1.trans (k2.trans k3))⟩⟩
    · have l2 := cut_len z (some (at' + d)) none
      rw [Str.length_append, sz_eq]
      omega
    · have l2 := cut_len z (some (at' + d)) none
      rw [Str.length_append, Str.length_append]
      omega
end
/-! ### lines that are joined -/
def wgt (ys : List Str) : Nat := (ys.map (·.length)).sum + ys.length
theorem wgt_app (xs ys : List Str) : wgt (xs ++ ys) = wgt xs + wgt ys := by
  unfold wgt
  rw [List.map_append, List.sum_append, List.length_append]
  omega
theorem wgt_one (y : Str) : wgt [y] = y.length + 1 := by
  unfold wgt
  simp
theorem wgt_cut (xs : List Str) (k : Nat) : wgt (xs.take k) + wgt (xs.drop k) = wgt xs := by
  rw [← wgt_app, List.take_append_drop]
theorem wgt_drop (xs : List Str) (k : Nat) : wgt (xs.drop k) ≤ wgt xs := by
  have := wgt_cut xs k
  omega
theorem wgt_mem {xs : List Str} {y : Str} (h : y ∈ xs) : y.length + 1 ≤ wgt xs := by
  obtain ⟨a, b, rfl⟩ := List.append_of_mem h
  rw [wgt_app, show y :: b = [y] ++ b from rfl, wgt_app, wgt_one]
  omega
theorem wgt_set (y : Str) : ∀ (xs : List Str) (k : Nat), wgt (xs.set k y) ≤ wgt xs + y.length
  | [], _ => by simp [wgt]
  | x :: xs, 0 => by
    rw [List.set_cons_zero, show y :: xs = [y] ++ xs from rfl, show x :: xs = [x] ++ xs from rfl, wgt_app, wgt_app, wgt_one, wgt_one]
    omega
  | x :: xs, k + 1 => by
    have := wgt_set y xs k
    rw [List.set_cons_succ, show x :: xs.set k y = [x] ++ xs.set k y from rfl, show x :: xs = [x] ++ xs from rfl, wgt_app, wgt_app]
    omega
theorem wgt_join {ys : List Str} {n : Nat} (h : wgt ys ≤ n) : (Txt.join (Str.ofString "\n") ys).length ≤ n := by
  rw [TL.join_eq]
  have := join_len_le (Str.ofString "\n") ys
  rw [show (Str.ofString "\n").length = 1 by decide +kernel] at this
  unfold wgt at h
  omega
theorem cut_takeV (xs : List Str) (k : Nat) : cutV (xs.map V.str) none (some (k : Int)) = (xs.take k).map V.str := by
  unfold cutV
  rw [HT.sIx_nat, HT.sIx_none, List.length_map, List.drop_zero, Nat.sub_zero, List.map_take]
  by_cases h : k ≤ xs.length
  · rw [Nat.min_eq_left h]
  · rw [Nat.min_eq_right (by omega), List.take_of_length_le (by simp), List.take_of_length_le (by simp; omega)]
theorem cut_dropV (xs : List Str) (k : Nat) : cutV (xs.map V.str) (some (k : Int)) none = (xs.drop k).map V.str := by
  unfold cutV
  rw [HT.sIx_nat, HT.sIx_none, List.length_map, List.map_drop]
  by_cases h : k ≤ xs.length
  · rw [Nat.min_eq_left h]
    exact List.take_of_length_le (by simp)
  · rw [Nat.min_eq_right (by omega), List.drop_of_length_le (by simp), List.drop_of_length_le (by simp; omega)]
    simp
/-! ### what is told of texts of sheets and steps -/
def DueS (H : Hp) (v : V) : Option Sh → Prop
  | none => v = .non
  | some x => ∃ p, v = .ref p ∧ ShAt H p x
theorem ShAt.ext64 {H H' : Hp} {p : Addr} {x : Sh} (h : ShAt H p x) (e : LamX.ExtN H H') : ShAt H' p x := h.mono fun _ _ z => tup_extN z e
theorem StepAt.ext64 {H H' : Hp} {p : Addr} {ts : List Itm} (h : StepAt H p ts) (e : LamX.ExtN H H') : StepAt H' p ts := h.mono fun _ _ z => tup_extN z e
theorem DueS.same {H H' : Hp} {v : V} {o : Option Sh} (h : DueS H v o) (s : Same H H') : DueS H' v o := by
  match o, h with
  | none, h => exact h
  | some x, ⟨p, e, h⟩ => exact ⟨p, e, h.same s⟩
theorem DueS.extN {H H' : Hp} {v : V} {o : Option Sh} (h : DueS H v o) (s : LamX.ExtN H H') : DueS H' v o := by
  match o, h with
  | none, h => exact h
  | some x, ⟨p, e, h⟩ => exact ⟨p, e, h.ext64 s⟩
inductive DueSt (z : Str) (H : Hp) : V → Prop
  | no (h : ∀ ts, ¬ Wr z ts) : DueSt z H .non
  | is {ts : List Itm} {p : Addr} (h : Wr z ts) (hp : StepAt H p ts) : DueSt z H (.ref p)
theorem DueSt.same {H H' : Hp} {z : Str} {v : V} (h : DueSt z H v) (s : Same H H') : DueSt z H' v := by
  cases h with
  | no h => exact .no h
  | is h hp => exact .is h (hp.same s)
theorem DueSt.extN {H H' : Hp} {z : Str} {v : V} (h : DueSt z H v) (s : LamX.ExtN H H') : DueSt z H' v := by
  cases h with
  | no h => exact .no h
  | is h hp => exact .is h (hp.ext64 s)
/-! data stay -/
section
variable {K : PySem.W.Frag} {H H' : Hp}
mutual
theorem dp_same (s : Same H H') : ∀ {v : V} {d : PyData}, Dp K H v d → Dp K H' v d
  | _, _, .non => .non
  | _, _, .bl b => .bl b
  | _, _, .int i => .int i
  | _, _, .str x => .str x
  | _, _, .lst h t => .lst (Same.seq s h) (dps_same s t)
  | _, _, .tup h t => .tup (Evl.ex_t s h) (dps_same s t)
theorem dps_same (s : Same H H') : ∀ {vs : List V} {ds : List PyData}, DpAll K H vs ds → DpAll K H' vs ds
  | _, _, .nil => .nil
  | _, _, .cons h t => .cons (dp_same s h) (dps_same s t)
end
end
def stD (ts : List Itm) : PyData := .tuple [.str "told", .tuple (ts.map itD)]
def badD (z : Str) : PyData := .tuple [.str z, .int 0]
theorem badD_ok (z : Str) : (badD z).plain = true ∧ (badD z).depth ≤ 2 := by
  unfold badD
  exact ⟨by simp [PyData.plain, PyData.plainAll], by simp [PyData.depth, PyData.depthAll]⟩
def shD (x : Sh) : PyData := .tuple [.str "told", encS x]
theorem shD_ok (x : Sh) : (shD x).plain = true ∧ (shD x).depth ≤ 5 := by
  have h1 : (encS x).plain = true := by simp [encS, PyData.plain, PyData.plainAll]
  have h2 := encS_deep x
  unfold shD
  refine ⟨by simp [PyData.plain, PyData.plainAll, h1], ?_⟩
  simp only [PyData.depth, PyData.depthAll]
  omega
theorem itD_deep (t : Itm) : (itD t).depth ≤ 3 := by
  cases t <;> simp [itD, encS, PyData.depth, PyData.depthAll]
theorem items_deep : ∀ ts : List Itm, PyData.depthAll (ts.map itD) ≤ 3
  | [] => by simp [PyData.depthAll]
  | t :: ts => by
    have h1 := itD_deep t
    have h2 := items_deep ts
    simp only [List.map_cons, PyData.depthAll]
    omega
theorem stD_ok (ts : List Itm) : (stD ts).plain = true ∧ (stD ts).depth ≤ 7 := by
  have h1 := items_plain ts
  have h2 := items_deep ts
  unfold stD
  refine ⟨by simp [PyData.plain, PyData.plainAll, h1], ?_⟩
  simp only [PyData.depth, PyData.depthAll]
  omega
section
variable {base : Heap} {K : PySem.W.Frag} {mg : Str → Option Value} {P : Program} {w : World}
theorem bad_dp {H : Hp} {t : Addr} {z : Str} (h : H t = some (.tup [.str z, .int 0])) : Dp K H (.ref t) (badD z) := .tup (SqT.of h) (.cons (.str _) (.cons (.int _) .nil))
theorem sh_dp {H : Hp} {t p : Addr} {x : Sh} (h : H t = some (.tup [.str "told", .ref p])) (hp : ShAt H p x) : Dp K H (.ref t) (shD x) := .tup (SqT.of h) (.cons (.str _) (.cons hp.dpS .nil))
theorem step_dp {H : Hp} {p : Addr} {ts : List Itm} (h : StepAt H p ts) : Dp K H (.ref p) (.tuple (ts.map itD)) := by
  obtain ⟨vs, hp, hts⟩ := h
  exact .tup (SqT.of hp) (items_dp hts)
theorem st_dp {H : Hp} {t p : Addr} {ts : List Itm} (h : H t = some (.tup [.str "told", .ref p])) (hp : StepAt H p ts) : Dp K H (.ref t) (stD ts) := .tup (SqT.of h) (.cons (.str _) (.cons (step_dp hp) .nil))
/-- != of equal data -/
theorem ne_same {H : Hp} {x y : V} {d : PyData} {Q : VK} (h1 : Dp K H x d) (h2 : Dp K H y d) (hp : d.plain = true) (hd : d.depth ≤ 8) (q : Q (.bl false) H) : rNeP K x y H Q := by
  refine ⟨d, d, h1, h2, hp, hp, by rw [Nat.min_self]; exact hd, ?_⟩
  rw [PySem.SeqAt.eqv_refl_plain d hp]
  exact q
theorem read_dueS {H : Hp} {z : Str} {Q : VK} {E : XK} (hz : z.length ≤ 5800) (q : ∀ v H', Same H H' → DueS H' v (readSh z) → Q v H') : spReadSh [.str z] H Q E :=
  ⟨z, rfl, hz, fun H' s h => q _ _ s (by rw [h]; exact rfl), fun x p H' h s hp => q _ _ s (by rw [h]; exact ⟨p, rfl, hp⟩)⟩
theorem read_dueSt {H : Hp} {z : Str} {Q : VK} {E : XK} (hz : z.length ≤ 5600) (q : ∀ v H', Same H H' → DueSt z H' v → Q v H') : spReadStep [.str z] H Q E :=
  ⟨z, rfl, hz, fun ts p H' h s hp => q _ _ s (.is h hp), fun h H' s => q _ _ s (.no h)⟩
/-- parse_sheet, asked -/
theorem told_sh (T : Txt K mg) {H : Hp} {z : Str} {Q Q1 : VK} {E : XK} (hE : E = Raised K T.r_GrainError Q) (hQ : Q1 = fun v H1 => [V.str "told", v].length ≤ sizeLine ∧ ∀ p, H1 p = none → Q (.ref p) (upd H1 p (.tup [.str "told", v]))) (hz : z.length ≤ 5600)
    (q0 : readSh z = none → ∀ t H', Same H H' → Dp K H' (.ref t) (badD "BadText") → Q (.ref t) H') (q1 : ∀ x t H', readSh z = some x → Same H H' → Dp K H' (.ref t) (shD x) → Q (.ref t) H') : spParseS T [.str z] H Q1 E := by
  subst hE hQ
  refine ⟨z, rfl, hz, fun hn x Hf nx sf fx => ?_, fun x p H' hx e hp => ⟨by show 2 ≤ sizeLine; decide, fun t nt => q1 x t _ hx (e.trans (same_new nt)) (sh_dp upd_same (hp.same (same_new nt)))⟩⟩
  obtain ⟨cg, hg, _⟩ := T.c_GrainError
  exact raised_er T.e_BadText hg T.t_GrainError T.sb_GrainError (no_two T.x_BadText_at T.x_BadText_word) rfl rfl fx fun H' p s' hp => q0 hn _ H' (sf.trans s') (bad_dp hp)
/-- parse_step, asked -/
theorem told_st (T : Txt K mg) {H : Hp} {z : Str} {Q Q1 : VK} {E : XK} (hE : E = Raised K T.r_GrainError Q) (hQ : Q1 = fun v H1 => [V.str "told", v].length ≤ sizeLine ∧ ∀ p, H1 p = none → Q (.ref p) (upd H1 p (.tup [.str "told", v]))) (hz : z.length ≤ 5600)
    (q0 : (∀ ts, ¬ Wr z ts) → ∀ t H', Same H H' → Dp K H' (.ref t) (badD "BadText") → Q (.ref t) H') (q1 : ∀ ts t H', Wr z ts → Same H H' → Dp K H' (.ref t) (stD ts) → Q (.ref t) H') : spParseSt T [.str z] H Q1 E := by
  subst hE hQ
  refine ⟨z, rfl, hz, fun hn x Hf nx sf fx => ?_, fun ts p H' hx e hp => ⟨by show 2 ≤ sizeLine; decide, fun t nt => q1 ts t _ hx (e.trans (same_new nt)) (st_dp upd_same (hp.same (same_new nt)))⟩⟩
  obtain ⟨cg, hg, _⟩ := T.c_GrainError
  exact raised_er T.e_BadText hg T.t_GrainError T.sb_GrainError (no_two T.x_BadText_at T.x_BadText_word) rfl rfl fx fun H' p s' hp => q0 hn _ H' (sf.trans s') (bad_dp hp)
/-- step_text of no step, asked -/
theorem told_no (T : Txt K mg) {H : Hp} {p : Addr} {ts : List Itm} {Q Q1 : VK} {E : XK} (hE : E = Raised K T.r_GrainError Q) (hS : StepAt H p ts) (ln : ts.length ≤ 10) (hH : Headed ts) (hb : B20 ts) (no : stepB ts = false)
    (q0 : ∀ t H', Same H H' → Dp K H' (.ref t) (badD "BadStep") → Q (.ref t) H') : spStepText T [.ref p] H Q1 E := by
  subst hE
  refine ⟨p, ts, rfl, hS, ln, hH, hb, fun z => (by rw [no] at z; cases z), fun _ x Hf nx sf fx => ?_⟩
  obtain ⟨cg, hg, _⟩ := T.c_GrainError
  exact raised_er T.e_BadStep hg T.t_GrainError T.sb_GrainError (no_two T.x_BadStep_at T.x_BadStep_word) rfl rfl fx fun H' p s' hp => q0 _ H' (sf.trans s') (bad_dp hp)
end
/-! like ones -/
theorem lk_sheet {H : Hp} {n : Nat} {p q : Addr} {x : Sh} (hp : ShAt H p x) (hq : ShAt H q x) : Lk H (n + 2) (.ref p) (.ref q) := by
  obtain ⟨u, v, h1, h2, h3⟩ := hp
  obtain ⟨u', v', g1, g2, g3⟩ := hq
  exact Lk.tups h1 g1 (by simp) (.cons (Lk.pair h2 g2 rfl rfl) (.cons (Lk.pair h3 g3 rfl rfl) .nil))
theorem lk_str {H : Hp} {n : Nat} {z : Str} : Lk H n (.str z) (.str z) := Lk.flat (.inr (.inr (.inr ⟨z, rfl, rfl⟩)))
theorem lk_item {H : Hp} {n : Nat} {u v : V} {t : Itm} (h : ItAt H u t) (g : ItAt H v t) : Lk H (n + 2) u v := by
  cases t with
  | str s =>
    cases (show u = .str s from h)
    cases (show v = .str s from g)
    exact lk_str
  | int m =>
    cases (show u = .int m from h)
    cases (show v = .int m from g)
    exact Lk.int rfl
  | pair a b =>
    obtain ⟨p, rfl, h⟩ := h
    obtain ⟨q, rfl, g⟩ := g
    exact Lk.pair h g rfl rfl
  | sheet x =>
    obtain ⟨p, rfl, h⟩ := h
    obtain ⟨q, rfl, g⟩ := g
    exact lk_sheet h g
  | non =>
    cases (show u = .non from h)
    cases (show v = .non from g)
    exact Lk.flat (.inr (.inr (.inl ⟨rfl, rfl⟩)))
theorem lk_items {H : Hp} {n : Nat} : ∀ {us vs : List V} {ts : List Itm}, Paired (ItAt H) us ts → Paired (ItAt H) vs ts → LkAll H (n + 2) us vs
  | _, _, _, .nil, .nil => .nil
  | _, _, _, .cons h t, .cons g t' => .cons (lk_item h g) (lk_items t t')
theorem lk_step {H : Hp} {n : Nat} {p q : Addr} {ts : List Itm} (hp : StepAt H p ts) (hq : StepAt H q ts) (ln : ts.length ≤ 10) : Lk H (n + 3) (.ref p) (.ref q) := by
  obtain ⟨us, h1, h2⟩ := hp
  obtain ⟨vs, g1, g2⟩ := hq
  exact Lk.tups h1 g1 (by rw [Paired.length h2]; omega) (lk_items h2 g2)
section
variable {base : Heap} {K : PySem.W.Frag} {mg : Str → Option Value} {w : World}
/-- parse_step of what is no text of a step, asked -/
theorem told_bad (T : Txt K mg) {H : Hp} {z : Str} {Q Q1 : VK} {E : XK} (hE : E = Raised K T.r_GrainError Q) (hz : z.length ≤ 5600) (no : ∀ ts, ¬ Wr z ts)
    (q0 : ∀ t H', Same H H' → H' t = some (.tup [.str "BadText", .int 0]) → Q (.ref t) H') : spParseSt T [.str z] H Q1 E := by
  subst hE
  refine ⟨z, rfl, hz, fun _ x Hf nx sf fx => ?_, fun ts p H' hx _ _ => absurd hx (no ts)⟩
  obtain ⟨cg, hg, _⟩ := T.c_GrainError
  exact raised_er T.e_BadText hg T.t_GrainError T.sb_GrainError (no_two T.x_BadText_at T.x_BadText_word) rfl rfl fx fun H' p s' hp => q0 _ H' (sf.trans s') hp
end
/-- a turn with a number of too many digits -/
theorem long_no {N : Str} (hN : nIt N = .non) (hf : NoB N) : ∀ ts, ¬ Wr (Str.ofString "turn 1 x 1 times " ++ N) ts := by
  intro ts h
  have e : Str.ofString "turn 1 x 1 times " = Str.ofString "turn" ++ Str.ofString " " ++ Str.ofString "1" ++ Str.ofString " " ++ Str.ofString "x" ++ Str.ofString " " ++ Str.ofString "1" ++ Str.ofString " " ++ Str.ofString "times" ++ Str.ofString " " := by decide +kernel
  have sp : Txt.split (Str.ofString "turn 1 x 1 times " ++ N) (Str.ofString " ") = [Str.ofString "turn", Str.ofString "1", Str.ofString "x", Str.ofString "1", Str.ofString "times", N] := by
    have j : Str.ofString "turn 1 x 1 times " ++ N = Txt.join (Str.ofString " ") [Str.ofString "turn", Str.ofString "1", Str.ofString "x", Str.ofString "1", Str.ofString "times", N] := by
      rw [TL.join_eq, e]
      simp only [Str.join, Str.append_assoc]
    rw [j]
    exact TL.split_join tl_b (by decide +kernel) (by simp) (nob_c (by decide +kernel) (nob_c (by decide +kernel) (nob_c (by decide +kernel) (nob_c (by decide +kernel) (nob_c (by decide +kernel) (nob_c hf nob_n))))))
  have it := h.items
  rw [sp] at it
  simp only [itemsP, if_true, hN] at it
  have sh := h.shaped
  rw [← it] at sh
  generalize shI (j3 (Str.ofString "1") (Str.ofString "x") (Str.ofString "1")) = q at sh
  cases sh
theorem long_1 : nIt (Txt.mul (Str.ofString "9") 20 ++ Txt.mul (Str.ofString "9") 1) = .non := by
  have e : rn (Txt.mul (Str.ofString "9") 20 ++ Txt.mul (Str.ofString "9") 1) = none := by decide +kernel
  unfold nIt
  rw [e]
theorem fold_size (x : Array Nat) : ∀ (n : Nat) (a : Array Nat), ((List.replicate n x).foldl (· ++ ·) a).size = a.size + n * x.size
  | 0, a => by simp
  | n + 1, a => by
    rw [List.replicate_succ, List.foldl_cons, fold_size x n, Array.size_append, Nat.add_mul]
    omega
theorem fold_mem (x : Array Nat) (c : Nat) : ∀ (n : Nat) (a : Array Nat), c ∈ ((List.replicate n x).foldl (· ++ ·) a).toList → c ∈ a.toList ∨ c ∈ x.toList
  | 0, a, h => .inl h
  | n + 1, a, h => by
    rw [List.replicate_succ, List.foldl_cons] at h
    rcases fold_mem x c n _ h with h | h
    · rw [Array.toList_append] at h
      exact List.mem_append.mp h
    · exact .inr h
theorem mul_is {x : Str} {n : Nat} (h : 1 < n) (hx : x.length ≠ 0) : Txt.mul x n = ⟨(List.replicate n x.cps).foldl (· ++ ·) #[]⟩ := by
  unfold Txt.mul
  have h2 : ((n : Int) == 1 || x.length == 0) = false := by
    rw [Bool.or_eq_false_iff]
    exact ⟨beq_eq_false_iff_ne.mpr (by omega), beq_eq_false_iff_ne.mpr hx⟩
  rw [if_neg (by omega), h2, if_neg (by decide)]
  rfl
theorem mul_len {x : Str} {n : Nat} (h : 1 < n) (hx : x.length ≠ 0) : (Txt.mul x n).length = n * x.length := by
  rw [mul_is h hx]
  show ((List.replicate n x.cps).foldl (· ++ ·) #[]).size = _
  rw [fold_size]
  show 0 + n * x.cps.size = n * x.cps.size
  omega
theorem m5000 : (Txt.mul (Str.ofString "9") 5000).length = 5000 := mul_len (n := 5000) (by decide) (by decide +kernel)
theorem m20 : (Txt.mul (Str.ofString "9") 20).length = 20 := mul_len (n := 20) (by decide) (by decide +kernel)
theorem long_by {N : Str} (h : 70 < N.length) : nIt N = .non := by
  unfold nIt
  cases e : rn N with
  | none => rfl
  | some n =>
    obtain ⟨t, b⟩ := rn_text e
    have l : (decT n).length ≤ 70 := (text_len (b64 b)).2
    rw [t] at l
    omega
theorem long_5000 : nIt (Txt.mul (Str.ofString "9") 20 ++ Txt.mul (Str.ofString "9") 5000) = .non := long_by (by rw [Str.length_append, m20, m5000]; decide)
theorem fold_nob {n : Nat} {z : Str} (e : z = ⟨(List.replicate n (Str.ofString "9").cps).foldl (· ++ ·) #[]⟩) : NoB z := by
  intro h
  have h : 32 ∈ z.cps.toList := h
  rw [e] at h
  rcases fold_mem _ _ _ _ h with h | h
  · cases h
  · exact absurd h (by decide +kernel)
theorem nob_mul : NoB (Txt.mul (Str.ofString "9") 5000) := fold_nob (n := 5000) (mul_is (x := Str.ofString "9") (n := 5000) (by decide) (by decide +kernel))
theorem nob_app {x y : Str} (h : NoB x) (k : NoB y) : NoB (x ++ y) := by
  unfold NoB
  rw [TL.tl_append]
  intro z
  rcases List.mem_append.mp z with z | z
  · exact h z
  · exact k z
theorem free_1 : NoB (Txt.mul (Str.ofString "9") 20 ++ Txt.mul (Str.ofString "9") 1) := nob_app (by decide +kernel) (by decide +kernel)
theorem free_5000 : NoB (Txt.mul (Str.ofString "9") 20 ++ Txt.mul (Str.ofString "9") 5000) := nob_app (by decide +kernel) nob_mul
def tsL : List Itm := [.str "turn", .sheet (1, 0, 1, 0), .int ((10 : Int) ^ (20 : Int).toNat - 1)]
theorem wrL : Wr (Str.ofString "turn 1 x 1 times " ++ Txt.mul (Str.ofString "9") 20) tsL := ⟨by decide +kernel, ⟨trivial, ⟨by decide, by decide, by decide, by decide⟩, (show ((10 : Int) ^ (20 : Int).toNat - 1).natAbs < 10 ^ 20 from by decide +kernel), trivial⟩, by decide +kernel⟩
def tsF : List Itm := [.str "turn", .sheet (1, 0, 0, -1), .int 2]
theorem okF : stepB tsF = true ∧ stepT tsF = Str.ofString "turn 1 x -1r times 2" := ⟨by decide +kernel, by decide +kernel⟩
/-! ### the law -/
abbrev rMulS : R2 := fun x y H Q => ∃ i n, x = .str i ∧ y = .int n ∧ MulOk i n ∧ Q (.str (Txt.mul i n)) H
abbrev qn : Str := "law" ++ ".<locals>." ++ "<lambda>"
structure LI (b sb sg P0 : Addr) (H : Hp) : Prop where
  bag : Bag H b sb
  tab : LamX.Tabs [(P0, qn)] H
  sgs : H sg = some (.lst (signsL.map V.str))
  ne : sg ≠ b
theorem LI.same {b sb sg P0 : Addr} {H H' : Hp} (h : LI b sb sg P0 H) (s : Same H H') : LI b sb sg P0 H' := ⟨h.bag.same s, h.tab.ext s, s _ _ h.sgs, h.ne⟩
theorem LI.keep {b sb sg P0 : Addr} {H H' : Hp} (h : LI b sb sg P0 H) (B : Bag H' b sb) (k : Keep b H H') : LI b sb sg P0 H' := ⟨B, tabs_keep h.tab h.bag k, k _ _ h.ne h.sgs, h.ne⟩
theorem LI.extN {b sb sg P0 : Addr} {H H' : Hp} (h : LI b sb sg P0 H) (e : LamX.ExtN H H') (t : LamX.Tabs [(P0, qn)] H') : LI b sb sg P0 H' := ⟨h.bag.extN e, t, lst_extN h.sgs e, h.ne⟩
theorem at_heap {p : Hp → Prop} {H : Hp} (F : Hp → Prop) (h : F H) (k : ∀ G, F G → p G) : p H := k H h
theorem wgt_joinB {ys : List Str} {n : Nat} (h : wgt ys ≤ n) : (Txt.join (Str.ofString " ") ys).length ≤ n := by
  rw [TL.join_eq]
  have := join_len_le (Str.ofString " ") ys
  rw [show (Str.ofString " ").length = 1 by decide +kernel] at this
  unfold wgt at h
  omega
theorem tabs_lst {T : List (Addr × Str)} {G : Hp} {D : Addr} {xs : List V} {o : HO} (t : LamX.Tabs T G) (hD : G D = some (.lst xs)) : LamX.Tabs T (upd G D o) := by
  intro p hp
  obtain ⟨ps, h1, h2, h3⟩ := t p hp
  refine ⟨ps, (upd_ne (ne_of h1 hD (by intro z; cases z))).trans h1, h2, fun pos cv hc => ?_⟩
  obtain ⟨c', e1, e2⟩ := h3 pos cv hc
  exact ⟨c', e1, (upd_ne (ne_of e2 hD (by intro z; unfold LamX.CodeO at z; cases z))).trans e2⟩
theorem StepAt.keep {H H' : Hp} {b sb p : Addr} {ts : List Itm} (h : StepAt H p ts) (B : Bag H b sb) (k : Keep b H H') : StepAt H' p ts := h.mono (tup_keep B k)
section
variable {base : Heap} {K : PySem.W.Frag} {mg : Str → Option Value} {w : World}
def spLaw (K : PySem.W.Frag) (P0 : Addr) : Sp := fun vs H Q _ => ∃ (a : Addr) (ns : List Int), vs = [.ref a] ∧ SqL K H a (ns.map V.int) ∧ ns.length ≤ 63 ∧ H P0 = some (.tbl #[]) ∧ ∀ H', Q (.bl true) H'
theorem ok_law {f c P0 : Addr} {oc kV doc pm ct : Value} {od an : Option Addr} {osl : Array (Option Value)} (lk : K.lookup f = some ⟨oc, od, .func (PySem.W.fnOf "law" "law" (defArgs s_law) (defBody s_law) (defScope s_law) .none kV doc pm an (.ref c) ct), osl⟩) (hcd : PySem.W.codeIn K (.ref c) "law" = true)
    (TB : LamX.TabB base mg c P0) (T : Txt K mg) (D : Shps K w T.u_SHAPES) (S : Szs K w T.u_STEP_SIZES) : FnOk PySem.Challenge.pw_grainyard_k64_texts_of_sheets_and_steps w K mg base CX0 18 f (PySem.W.fnOf "law" "law" (defArgs s_law) (defBody s_law) (defScope s_law) .none kV doc pm an (.ref c) ct) ["_law_script"] (spLaw K P0) := by
  refine fn_of lk hcd sc_law (fun vs H Q E h => ?_) (fun A outer s H vs Q E hr h => ?_)
  · obtain ⟨a, ns, rfl, _⟩ := h
    rfl
  · obtain ⟨a, ns, rfl, hS, hlen, hP, q⟩ := h
    refine ⟨_, PSs.nox (pss_cons (ps_set (i := 1) sc_law.nd rfl (Or.inl rfl) (pe_call (ok_source T) (hr.mono (by decide)) (by rfl) T.g_source T.F_source.kp T.b_source .nil pass0 (pa_cons (pv 0) pa_nil)))
      (pss_cons (ps_set (i := 2) sc_law.nd rfl (Or.inl rfl) (pe_lst (pa_cons pe_str (pa_cons pe_str (pa_cons pe_str (pa_cons pe_str (pa_cons pe_str (pa_cons pe_str (pa_cons pe_str (pa_cons pe_str (pa_cons pe_str (pa_cons pe_str (pa_cons pe_str (pa_cons pe_str pa_nil))))))))))))))
      (Evl.pss_cut (ps_for PassesOwn.never rfl (pi_range1 (by rfl) T.n_range (pa_cons pe_int pa_nil)) (pg_name (i := 3) sc_law.nd rfl (Or.inl rfl)) (pss_cons (ps_set (i := 5) sc_law.nd rfl (Or.inl rfl) (pe_call (ok_a_root T) (hr.mono (by decide)) (by rfl) T.g_a_root T.F_a_root.kp T.b_a_root .nil pass0 (pa_cons (pv 1) pa_nil)))
      (pss_cons (ps_asg (pe_tup (pa_cons (pe_tup (pa_cons (pe_call (ok_any_pair T) (hr.mono (by decide)) (by rfl) T.g_any_pair T.F_any_pair.kp T.b_any_pair .nil pass0 (pa_cons (pv 1) pa_nil)) (pa_cons (pe_tup (pa_cons (pe_call (ok_a_number T) (hr.mono (by decide)) (by rfl) T.g_a_number T.F_a_number.kp T.b_a_number .nil pass0 (pa_cons (pv 1) pa_nil)) (pa_cons (pe_call (ok_a_number T) (hr.mono (by decide)) (by rfl) T.g_a_number T.F_a_number.kp T.b_a_number .nil pass0 (pa_cons (pv 1) pa_nil)) pa_nil))) pa_nil))) (pa_cons (pe_call (ok_any_step T) (hr.mono (by decide)) (by rfl) T.g_any_step T.F_any_step.kp T.b_any_step .nil pass0 (pa_cons (pv 1) (pa_cons (pv 5) pa_nil))) pa_nil))) (pg_tup (by rfl) (pgs_cons (pg_name (i := 12) sc_law.nd rfl (Or.inl rfl)) (pgs_cons (pg_name (i := 13) sc_law.nd rfl (Or.inr rfl)) pgs_nil))))
      (Evl.pss_cut (ps_if (pt_not (pt_val (pe_call (ok_like T) (hr.mono (by decide)) (by rfl) T.g_like T.F_like.kp T.b_like .nil pass0 (pa_cons (pe_lst (pa_cons (pe_call (ok_sheet_text T) (hr.mono (by decide)) (by rfl) T.g_sheet_text T.F_sheet_text.kp T.b_sheet_text .nil pass0 (pa_cons (pv 12) pa_nil)) (pa_cons (pe_call (ok_parse_sheet T) (hr.mono (by decide)) (by rfl) T.g_parse_sheet T.F_parse_sheet.kp T.b_parse_sheet .nil pass_never (pa_cons (pe_call (ok_lsheet_text T) (hr.mono (by decide)) (by rfl) T.g_lsheet_text T.F_lsheet_text.kp T.b_lsheet_text .nil pass0 (pa_cons (pv 12) pa_nil)) pa_nil)) pa_nil))) (pa_cons (pe_lst (pa_cons (pe_call (ok_lsheet_text T) (hr.mono (by decide)) (by rfl) T.g_lsheet_text T.F_lsheet_text.kp T.b_lsheet_text .nil pass0 (pa_cons (pv 12) pa_nil)) (pa_cons (pv 12) pa_nil))) pa_nil))))) (pss_one (ps_ret pe_bl)) pss_nil)
      (Evl.pss_cut (ps_set (i := 6) sc_law.nd rfl (Or.inr rfl) (pe_call (ok_bent_text T) (hr.mono (by decide)) (by rfl) T.g_bent_text T.F_bent_text.kp T.b_bent_text .nil pass0 (pa_cons (pv 1) (pa_cons (pe_call (ok_lsheet_text T) (hr.mono (by decide)) (by rfl) T.g_lsheet_text T.F_lsheet_text.kp T.b_lsheet_text .nil pass0 (pa_cons (pv 12) pa_nil)) (pa_cons (pv 2) pa_nil)))))
      (pss_cons (ps_set (i := 7) sc_law.nd rfl (Or.inl rfl) (pe_call (ok_sheet_read T) (hr.mono (by decide)) (by rfl) T.g_sheet_read T.F_sheet_read.kp T.b_sheet_read .nil pass0 (pa_cons (pv 6) pa_nil)))
      (Evl.pss_cut (ps_if (pt_cmpR (op_neP hr.units) (pe_try (k := 13) T (by rfl) TB rfl (hr.mono (by decide)) (LamX.lamS_by (sc := defScope s_law) (by decide +kernel)) rfl (fun _ _ _ _ _ => rfl) (fun A outer s H E f c' hr2 => (pe_kwOnly (ok_parse_sheet (w := w) T) (hr2.mono (by decide)) (by rfl) T.g_parse_sheet T.F_parse_sheet.kp T.kb_parse_sheet_text (passes_call (takes_of rfl rfl rfl rfl) (fun _ _ _ _ h => h)) (pk_cons (pv 6) pk_nil)))) (pe_ifExp (pt_cmpR op_notN (pv 7) pe_non (nomark _)) (pe_tup (pa_cons pe_str (pa_cons (pv 7) pa_nil))) (pe_tup (pa_cons pe_str (pa_cons pe_int pa_nil)))) (nomark _)) (pss_one (ps_ret pe_bl)) pss_nil)
      (pss_cons (ps_if (pt_not (pt_val (pe_call (ok_good_step T) (hr.mono (by decide)) (by rfl) T.g_good_step T.F_good_step.kp T.b_good_step .nil pass0 (pa_cons (pv 13) pa_nil)))) (pss_cons (ps_if (pt_cmpR (op_neP hr.units) (pe_try (k := 13) T (by rfl) TB rfl (hr.mono (by decide)) (LamX.lamS_by (sc := defScope s_law) (by decide +kernel)) rfl (fun _ _ _ _ _ => rfl) (fun A outer s H E f c' hr2 => (pe_call (ok_step_text (w := w) T D) (hr2.mono (by decide)) (by rfl) T.g_step_text T.F_step_text.kp T.b_step_text .nil (passes_call (takes_of rfl rfl rfl rfl) (fun _ _ _ _ h => h)) (pa_cons (pv 13) pa_nil)))) (pe_tup (pa_cons pe_str (pa_cons pe_int pa_nil))) (nomark _)) (pss_one (ps_ret pe_bl)) pss_nil)
      (pss_one ps_continue)) pss_nil)
      (pss_cons (ps_set (i := 6) sc_law.nd rfl (Or.inr rfl) (pe_call (ok_lstep_text T) (hr.mono (by decide)) (by rfl) T.g_lstep_text T.F_lstep_text.kp T.b_lstep_text .nil pass0 (pa_cons (pv 13) pa_nil)))
      (Evl.pss_cut (ps_if (pt_not (pt_val (pe_call (ok_like T) (hr.mono (by decide)) (by rfl) T.g_like T.F_like.kp T.b_like .nil pass0 (pa_cons (pe_lst (pa_cons (pe_call (ok_step_text (w := w) T D) (hr.mono (by decide)) (by rfl) T.g_step_text T.F_step_text.kp T.b_step_text .nil pass_never (pa_cons (pv 13) pa_nil)) (pa_cons (pe_call (ok_parse_step (w := w) T D S) (hr.mono (by decide)) (by rfl) T.g_parse_step T.F_parse_step.kp T.b_parse_step .nil pass_never (pa_cons (pv 6) pa_nil)) pa_nil))) (pa_cons (pe_lst (pa_cons (pv 6) (pa_cons (pv 13) pa_nil))) pa_nil))))) (pss_one (ps_ret pe_bl)) pss_nil)
      (pss_cons (ps_set (i := 8) sc_law.nd rfl (Or.inl rfl) (pe_split (pv 6) pe_str))
      (pss_cons (ps_par (i := 14) (j := 15) (by rfl) sc_law.nd rfl rfl (by decide) rfl rfl (pa_cons (pe_call (ok_pull T) (hr.mono (by decide)) (by rfl) T.g_pull T.F_pull.kp T.b_pull .nil pass0 (pa_cons (pv 1) (pa_cons (pe_callB call_len_seq (by rfl) T.n_len (by decide +kernel) (pa_cons (pv 8) pa_nil)) pa_nil))) (pa_cons (pe_call (ok_pull T) (hr.mono (by decide)) (by rfl) T.g_pull T.F_pull.kp T.b_pull .nil pass0 (pa_cons (pv 1) (pa_cons (pe_callB call_len_seq (by rfl) T.n_len (by decide +kernel) (pa_cons (pv 8) pa_nil)) pa_nil))) pa_nil)) (by rfl))
      (pss_cons (ps_set (i := 9) sc_law.nd rfl (Or.inl rfl) (pe_call (ok_bent_text T) (hr.mono (by decide)) (by rfl) T.g_bent_text T.F_bent_text.kp T.b_bent_text .nil pass0 (pa_cons (pv 1) (pa_cons (pv 6) (pa_cons (pv 2) pa_nil)))))
      (Evl.pss_cut (ps_set (i := 10) sc_law.nd rfl (Or.inl rfl) (pe_lst (pa_cons (pv 9) (pa_cons (pe_call (ok_bent_text T) (hr.mono (by decide)) (by rfl) T.g_bent_text T.F_bent_text.kp T.b_bent_text .nil pass0 (pa_cons (pv 1) (pa_cons (pv 9) (pa_cons (pv 2) pa_nil)))) (pa_cons (pe_join pe_str (pe_op op_cat (pe_op op_cat (pe_slice sl_list (pv 8) po_none (po_some (pv 14))) (pe_lst (pa_cons (pe_ix ix_list (pv 8) (pv 15) (fun _ _ => rfl)) pa_nil))) (pe_slice sl_list (pv 8) (po_some (pe_op op_add (pv 14) pe_int)) po_none))) pa_nil)))))
      (pss_cons (ps_expr (pe_bm PySem.F.plainAttrs_list PySem.F.slot_list_append PySem.F.type_list_append mt_append (pv 10) (pa_cons (pe_join pe_str (pe_op op_cat (pe_slice sl_list (pv 8) po_none (po_some (pv 14))) (pe_slice sl_list (pv 8) (po_some (pe_op op_add (pv 14) pe_int)) po_none))) pa_nil)))
      (pss_one (ps_for PassesOwn.never rfl (pi_list (pv 10)) (pg_name (i := 11) sc_law.nd rfl (Or.inr rfl)) (pss_cons (ps_set (i := 7) sc_law.nd rfl (Or.inl rfl) (pe_call (ok_step_read T) (hr.mono (by decide)) (by rfl) T.g_step_read T.F_step_read.kp T.b_step_read .nil pass0 (pa_cons (pv 11) pa_nil)))
      (pss_one (ps_if (pt_cmpR (op_neP hr.units) (pe_try (k := 13) T (by rfl) TB rfl (hr.mono (by decide)) (LamX.lamS_by (sc := defScope s_law) (by decide +kernel)) rfl (fun _ _ _ _ _ => rfl) (fun A outer s H E f c' hr2 => (pe_call (ok_parse_step (w := w) T D S) (hr2.mono (by decide)) (by rfl) T.g_parse_step T.F_parse_step.kp T.b_parse_step .nil (passes_call (takes_of rfl rfl rfl rfl) (fun _ _ _ _ h => h)) (pa_cons (pv 11) pa_nil)))) (pe_ifExp (pt_cmpR op_notN (pv 7) pe_non (nomark _)) (pe_tup (pa_cons pe_str (pa_cons (pv 7) pa_nil))) (pe_tup (pa_cons pe_str (pa_cons pe_int pa_nil)))) (nomark _)) (pss_one (ps_ret pe_bl)) pss_nil))))))))))))))))))))
      (pss_cons (ps_set (i := 4) sc_law.nd rfl (Or.inr rfl) (pe_op op_add_str pe_str (pe_op op_strmul pe_str pe_int)))
      (Evl.pss_cut (ps_if (PW.pt (pw_or (pt_cmpR (op_neP hr.units) (pe_call (ok_parse_step (w := w) T D S) (hr.mono (by decide)) (by rfl) T.g_parse_step T.F_parse_step.kp T.b_parse_step .nil pass_never (pa_cons (pv 4) pa_nil)) (pe_tup (pa_cons pe_str (pa_cons (pe_tup (pa_cons (pe_tup (pa_cons pe_int (pa_cons pe_int pa_nil))) (pa_cons (pe_tup (pa_cons pe_int (pa_cons pe_int pa_nil))) pa_nil))) (pa_cons (pe_op op_sub (pe_op op_pow pe_int pe_int) pe_int) pa_nil)))) (nomark _)) (pw_or1 (pt_cmpR (op_neP hr.units) (pe_lc (own := [("_law_many", 16)]) (g := (gName 16)) (tt := tYes) (te := LamX.tLam [(P0, qn)] (TTry K T.r_GrainError) (fun E => tCall (spParseSt T) [] E (tCons (tOp rCS (tVar 4) (tOp rMulS (tC (.str "9")) (tVar 16))) tNil))) (by rfl) sc_law.nd (pi_tup (pe_tup (pa_cons pe_int (pa_cons pe_int pa_nil)))) (blkOk_by (own := [("_law_many", 16)]) (N := ["_law_script", "_law_bag", "_law_signs", "_law_turn", "_law_long", "_law_root", "_law_text_z", "_law_due", "_law_words", "_law_bent", "_law_some", "_law_line", "_law_sheet", "_law_step_z", "_law_at", "_law_to", "_law_many"]) (sc := defScope s_law) (by decide +kernel)) (fun _ _ _ _ _ => (pg_name (i := 16) sc_law.nd rfl (Or.inr rfl))) (fun _ _ _ _ _ => pts_nil) (fun _ _ _ _ _ => (by (refine pe_tryB (k := 13) T rfl rfl rfl (by rfl) TB rfl (hr.mono (by decide)) (LamX.lamS_by (by rfl)) rfl (fun _ _ _ _ _ => rfl) ?hd); (intro A outer s H E f c' hr2); exact (pe_call (ok_parse_step (w := w) T D S) (hr2.mono (by decide)) (by rfl) T.g_parse_step T.F_parse_step.kp T.b_parse_step .nil (passes_call (takes_of rfl rfl rfl rfl) (fun _ _ _ _ h => h)) (pa_cons (pe_op op_add_str (pv 4) (pe_op op_strmul pe_str (pv 16))) pa_nil))))) (pe_op op_rep (pe_lst (pa_cons (pe_tup (pa_cons pe_str (pa_cons pe_int pa_nil))) pa_nil)) pe_int) (nomark _))))) (pss_one (ps_ret pe_bl)) pss_nil)
      (pss_one (ps_ret (pe_cmpR op_eq (pe_kwOnly (ok_step_text (w := w) T D) (hr.mono (by decide)) (by rfl) T.g_step_text T.F_step_text.kp T.kb_step_text_step pass_never (pk_cons (pe_tup (pa_cons pe_str (pa_cons (pe_tup (pa_cons (pe_tup (pa_cons pe_int (pa_cons pe_int pa_nil))) (pa_cons (pe_tup (pa_cons pe_int (pa_cons (pe_un un_neg pe_int) pa_nil))) pa_nil))) (pa_cons pe_int pa_nil)))) pk_nil)) pe_str (nomark _))))))))), ?_⟩
    refine ⟨_, rfl, a, ns, rfl, hS, hlen, fun b sb H1 nb s1 B1 => ?_⟩
    have tb1 : LamX.Tabs [(P0, qn)] H1 := fun p hp => by
      rw [List.mem_singleton.mp hp]
      exact LamX.TabS.nil (s1 _ _ hP)
    refine ⟨by show 12 ≤ sizeLine; decide, fun sg nsg => ?_⟩
    have L1 : LI b sb sg P0 (upd H1 sg (.lst (signsL.map V.str))) := ⟨B1.new nsg, tb1.ext (same_new nsg), upd_same, B1.ne nsg⟩
    show Evl.tCut _ _ _ _ (upd H1 sg (.lst (signsL.map V.str)))
    generalize upd H1 sg (.lst (signsL.map V.str)) = G1 at L1 ⊢
    clear tb1 B1 nsg s1 nb
    refine ⟨fun σ G => (∃ y3 y4 y5 y6 y7 y8 y9 y10 y11 y12 y13 y14 y15 y16 : Option V, σ = [some (.ref a), some (.ref b), some (.ref sg), y3, y4, y5, y6, y7, y8, y9, y10, y11, y12, y13, y14, y15, y16]) ∧ LI b sb sg P0 G, ?_, ?_⟩
    · refine ⟨4, rfl, by decide, by decide, for_range (lo := 0) (n := 4) (fun i σ G => (∃ y3 y4 y5 y6 y7 y8 y9 y10 y11 y12 y13 y14 y15 y16 : Option V, σ = [some (.ref a), some (.ref b), some (.ref sg), y3, y4, y5, y6, y7, y8, y9, y10, y11, y12, y13, y14, y15, y16]) ∧ LI b sb sg P0 G) ⟨⟨_, _, _, _, _, _, _, _, _, _, _, _, _, _, rfl⟩, L1⟩ ?_ fun σ G h => h⟩
      rintro i σ H2 hi ⟨⟨y3, y4, y5, y6, y7, y8, y9, y10, y11, y12, y13, y14, y15, y16, rfl⟩, L2⟩
      refine ⟨_, rfl, b, sb, rfl, L2.bag, fun d H3 hd B3 k3 => ?_⟩
      refine ⟨_, rfl, b, sb, rfl, B3, fun x y p1 H4 c1 c2 c3 c4 np1 h1 B4 k4 => ⟨_, rfl, b, sb, rfl, B4, fun u H5 c5 c6 B5 k5 => ⟨_, rfl, b, sb, rfl, B5, fun v H6 c7 c8 B6 k6 => ⟨by show 2 ≤ sizeLine; decide, fun t1 n1 => ⟨by show 2 ≤ sizeLine; decide, fun t2 n2 => ?_⟩⟩⟩⟩⟩
      have e1 := same_new (o := .tup [.int u, .int v]) n1
      have e2 := same_new (o := .tup [.ref p1, .ref t1]) n2
      have k26 : Keep b H2 H6 := k3.trans (k4.trans (k5.trans k6))
      have L6 := (L2.keep B6 k26)
      have L62 := (L6.same e1).same e2
      have sh2 : ShAt (upd (upd H6 t1 (.tup [.int u, .int v])) t2 (.tup [.ref p1, .ref t1])) t2 (x, y, u, v) := ⟨p1, t1, upd_same, e2 _ _ (e1 _ _ (tup_keep B4 (k5.trans k6) _ _ h1)), e2 _ _ upd_same⟩
      have hX : Small20 (x, y, u, v) := ⟨show x.natAbs < 10 ^ 20 by omega, show y.natAbs < 10 ^ 20 by omega, show u.natAbs < 10 ^ 20 by omega, show v.natAbs < 10 ^ 20 by omega⟩
      generalize ((x, y, u, v) : Sh) = X at sh2 hX
      refine ⟨_, rfl, _, rfl, b, sb, d, rfl, L62.bag, hd, fun p ts H7 l0 l5 hH hb hS B7 k7 => ⟨by show 2 ≤ sizeLine; decide, fun t3 n3 => ⟨t3, _, rfl, SqT.of upd_same, rfl, .ref t2, _, rfl, .ref p, _, rfl, rfl, ?_⟩⟩⟩
      have e3 := same_new (o := .tup [.ref t2, .ref p]) n3
      have L8 := (L62.keep B7 k7).same e3
      have sh8 := (sh2.mono (tup_keep L62.bag k7)).same e3
      have hS8 := hS.same e3
      generalize upd H7 t3 (.tup [.ref t2, .ref p]) = H8 at e3 L8 sh8 hS8 ⊢
      clear e1 e2 e3 k26 L6 L62 sh2 hS B7 k7 n1 n2 n3 B3 k3 B4 k4 B5 k5 B6 k6 L2 h1 np1
      have s64 := hX.s64
      have lX := sheet_len s64
      refine ⟨fun σ G => σ = [some (.ref a), some (.ref b), some (.ref sg), some (.int (0 + (i : Int))), y4, some (.int d), y6, y7, y8, y9, y10, y11, some (.ref t2), some (.ref p), y14, y15, y16] ∧ Same H8 G, ?_, ?_⟩
      · refine ⟨_, rfl, t2, X, rfl, sh8, s64, fun Ha sa => ⟨_, rfl, t2, X, rfl, sh8.same sa, s64, fun Hb sb' => ⟨sheetT X, rfl, by omega, fun hn => (by rw [readSh_sheet hX] at hn; cases hn), fun X' p' Hc hx sc hp' => ⟨by show 2 ≤ sizeLine; decide, fun l1 m1 => ?_⟩⟩⟩⟩
        rw [readSh_sheet hX] at hx
        cases hx
        have ec := same_new (o := .lst [.str (sheetT X), .ref p']) m1
        have sac := sa.trans (sb'.trans sc)
        refine ⟨_, rfl, t2, X, rfl, (sh8.same sac).same ec, s64, fun Hd sd => ⟨_, rfl, by show 2 ≤ sizeLine; decide, fun l2 m2 => ?_⟩⟩
        have ed := same_new (o := .lst [.str (sheetT X), .ref t2]) m2
        have ee := sd.trans ed
        have all := sac.trans (ec.trans ee)
        refine ⟨_, _, rfl, Lk.lists (ee _ _ upd_same) upd_same (by simp) (.cons lk_str (.cons (lk_sheet ((hp'.same ec).same ee) (sh8.same all)) .nil)), fun He se => ⟨true, rfl, iteF ⟨rfl, all.trans se⟩⟩⟩
      rintro σ G9 ⟨rfl, s9⟩
      have L9 := L8.same s9
      have sh9 := sh8.same s9
      have hS9 := hS8.same s9
      clear L8 sh8 hS8 s9
      refine ⟨fun σ G => ∃ z' : Str, σ = [some (.ref a), some (.ref b), some (.ref sg), some (.int (0 + (i : Int))), y4, some (.int d), some (.str z'), y7, y8, y9, y10, y11, some (.ref t2), some (.ref p), y14, y15, y16] ∧ z'.length ≤ 700 ∧ LI b sb sg P0 G ∧ StepAt G p ts, ?_, ?_⟩
      · refine ⟨_, rfl, _, rfl, t2, X, rfl, sh9, s64, fun Ha sa => ⟨_, rfl, b, sb, sg, _, rfl, (L9.same sa).bag, (L9.same sa).sgs, L9.ne, by omega, fun z' H' lz B' k' => ⟨z', rfl, by omega, (L9.same sa).keep B' k', (hS9.same sa).keep (L9.same sa).bag k'⟩⟩⟩
      rintro σ G10 ⟨z', rfl, lz, L10, hS10⟩
      clear L9 sh9 hS9
      refine ⟨_, rfl, ?_⟩
      (try unfold tNil)
      refine read_dueS (by omega) fun dv G11 s11 hdv => ?_
      have L11 := L10.same s11
      have hS11 := hS10.same s11
      clear L10 hS10 s11
      refine ⟨fun σ G => σ = [some (.ref a), some (.ref b), some (.ref sg), some (.int (0 + (i : Int))), y4, some (.int d), some (.str z'), some dv, y8, y9, y10, y11, some (.ref t2), some (.ref p), y14, y15, y16] ∧ LI b sb sg P0 G ∧ StepAt G p ts, ?_, ?_⟩
      · refine ⟨L11.tab, fun Hb eb tb => ⟨_, rfl, rfl, ?_⟩⟩
        have Lb := L11.extN eb tb
        have hSb := hS11.ext64 eb
        have hdb := hdv.extN eb
        refine told_sh (Q := ?Qa) T ?hEa ?hQa (by omega) ?q0a ?q1a
        case hEa => rfl
        case hQa => rfl
        case q0a =>
          intro hn t Hc sc hd'
          rw [hn] at hdb
          cases (show dv = .non from hdb)
          refine ⟨_, rfl, rfl, _, rfl, iteF ⟨by show 2 ≤ sizeLine; decide, fun r nr => ?_⟩⟩
          have er := same_new (o := .tup [.str (Str.ofString "BadText"), .int 0]) nr
          exact ne_same (dp_same er hd') (bad_dp upd_same) (badD_ok _).1 (Nat.le_trans (badD_ok _).2 (by decide)) ⟨false, rfl, iteF ⟨rfl, (Lb.same sc).same er, (hSb.same sc).same er⟩⟩
        case q1a =>
          intro x' t Hc hx sc hd'
          rw [hx] at hdb
          obtain ⟨p', rfl, hp'⟩ := hdb
          refine ⟨_, rfl, rfl, _, rfl, iteT ⟨_, rfl, by show 2 ≤ sizeLine; decide, fun r nr => ?_⟩⟩
          have er := same_new (o := .tup [.str (Str.ofString "told"), .ref p']) nr
          exact ne_same (dp_same er hd') (sh_dp upd_same ((hp'.same sc).same er)) (shD_ok _).1 (Nat.le_trans (shD_ok _).2 (by decide)) ⟨false, rfl, iteF ⟨rfl, (Lb.same sc).same er, (hSb.same sc).same er⟩⟩
      rintro σ G12 ⟨rfl, L12, hS12⟩
      clear L11 hS11 hdv
      refine ⟨_, rfl, p, ts, rfl, hS12, by omega, hH, fun G13 s13 => ⟨stepB ts, rfl, ?_⟩⟩
      have L13 := L12.same s13
      have hS13 := hS12.same s13
      clear L12 hS12 s13
      cases ok : stepB ts with
      | false =>
        refine iteT ⟨L13.tab, fun Hb eb tb => ⟨_, rfl, ?_⟩⟩
        have Lb := L13.extN eb tb
        (try unfold tNil)
        refine told_no (Q := ?Qb) T ?hEb (hS13.ext64 eb) (by omega) hH hb ok ?q0b
        case hEb => rfl
        case q0b =>
          intro t Hc sc hd'
          refine ⟨by show 2 ≤ sizeLine; decide, fun r nr => ?_⟩
          have er := same_new (o := .tup [.str (Str.ofString "BadStep"), .int 0]) nr
          exact ne_same (dp_same er hd') (bad_dp upd_same) (badD_ok _).1 (Nat.le_trans (badD_ok _).2 (by decide)) ⟨false, rfl, iteF ⟨⟨_, _, _, _, _, _, _, _, _, _, _, _, _, _, rfl⟩, (Lb.same sc).same er⟩⟩
      | true =>
        refine iteF ?_
        have sh := stepB_shaped ok
        have lT := stepT_len sh hb
        have wr : Wr (stepT ts) ts := ⟨ok, hb, rfl⟩
        refine ⟨_, rfl, p, ts, rfl, hS13, ok, hb, fun G14 s14 => ?_⟩
        have L14 := L13.same s14
        have hS14 := hS13.same s14
        clear L13 hS13 s14
        refine ⟨fun σ G => σ = [some (.ref a), some (.ref b), some (.ref sg), some (.int (0 + (i : Int))), y4, some (.int d), some (.str (stepT ts)), some dv, y8, y9, y10, y11, some (.ref t2), some (.ref p), y14, y15, y16] ∧ Same G14 G, ?_, ?_⟩
        · refine ⟨_, rfl, p, ts, rfl, hS14, by omega, hH, hb, fun _ Ha sa => ⟨_, rfl, stepT ts, rfl, by omega, fun hn => absurd wr (hn ts), fun ts' p' Hb hw sb' hS' => ⟨by show 2 ≤ sizeLine; decide, fun l1 m1 => ?_⟩⟩, fun z => (by rw [ok] at z; cases z)⟩
          cases hw.one wr
          have ec := same_new (o := .lst [.str (stepT ts), .ref p']) m1
          refine ⟨_, rfl, _, rfl, by show 2 ≤ sizeLine; decide, fun l2 m2 => ?_⟩
          have ed := same_new (o := .lst [.str (stepT ts), .ref p]) m2
          have all := sa.trans (sb'.trans (ec.trans ed))
          refine ⟨_, _, rfl, Lk.lists (ed _ _ upd_same) upd_same (by simp) (.cons lk_str (.cons (lk_step ((hS'.same ec).same ed) (hS14.same all) (by omega)) .nil)), fun He se => ⟨true, rfl, iteF ⟨rfl, all.trans se⟩⟩⟩
        rintro σ G15 ⟨rfl, s15⟩
        have L15 := L14.same s15
        clear L14 hS14 s15
        have n1 : (Str.ofString " ").length = 1 := by decide +kernel
        have wz : wgt (Txt.split (stepT ts) (Str.ofString " ")) ≤ (stepT ts).length + 1 := split_weight _ _ (by rw [n1]; decide)
        have lp := split_pos (stepT ts) (Str.ofString " ")
        refine ⟨_, rfl, ⟨_, rfl⟩, stepT ts, _, rfl, rfl, by decide +kernel, by rw [sz_eq]; omega, fun Lw nw => ?_⟩
        generalize Txt.split (stepT ts) (Str.ofString " ") = ls at wz lp
        have ln : ls.length ≤ 1201 := by
          unfold wgt at wz
          omega
        have L16 := L15.same (same_new (o := .lst (ls.map V.str)) nw)
        have hw0 : upd G15 Lw (.lst (ls.map V.str)) Lw = some (.lst (ls.map V.str)) := upd_same
        have neW := L15.bag.ne nw
        generalize upd G15 Lw (.lst (ls.map V.str)) = G16 at L16 hw0 ⊢
        clear L15 nw
        have ell : ((ls.map V.str).length : Int) = ls.length := by rw [List.length_map]
        refine ⟨_, rfl, _, rfl, Lw, _, rfl, .inl (SqL.of hw0), b, sb, _, rfl, L16.bag, by rw [ell]; omega, Nat.lt_of_le_of_lt (show (((ls.map V.str).length : Int)).natAbs ≤ 1201 by rw [ell]; omega) (by decide), fun n' G17 x0 x1 B17 k17 => ?_⟩
        have hw1 := k17 _ _ neW hw0
        refine ⟨_, rfl, _, rfl, Lw, _, rfl, .inl (SqL.of hw1), b, sb, _, rfl, B17, by rw [ell]; omega, Nat.lt_of_le_of_lt (show (((ls.map V.str).length : Int)).natAbs ≤ 1201 by rw [ell]; omega) (by decide), fun m' G18 q0 q1 B18 k18 => ⟨_, _, rfl, ?_⟩⟩
        have hw2 := k18 _ _ neW hw1
        rw [ell] at x1 q1
        obtain ⟨n, rfl⟩ := Int.eq_ofNat_of_zero_le x0
        obtain ⟨m, rfl⟩ := Int.eq_ofNat_of_zero_le q0
        have hn : n < ls.length := by omega
        have hm : m < ls.length := by omega
        have gm : (ls.map V.str)[m]? = some (.str ls[m]) := by rw [List.getElem?_map, List.getElem?_eq_getElem hm]; rfl
        have mm := wgt_mem (List.getElem_mem hm)
        have wk := wgt_cut ls n
        have wd := wgt_drop ls (n + 1)
        have L18 := L16.keep B18 (k17.trans k18)
        clear L16 hw0 hw1 k17 k18 B17
        refine ⟨_, rfl, _, rfl, _, rfl, b, sb, sg, _, rfl, L18.bag, L18.sgs, L18.ne, by omega, fun z1 G19 l1 B19 k19 => ?_⟩
        have hw3 := k19 _ _ neW hw2
        have L19 := L18.keep B19 k19
        clear L18 hw2 k19 B19 B18
        refine ⟨fun σ G => ∃ (l : Addr) (zs : List Str), σ = [some (.ref a), some (.ref b), some (.ref sg), some (.int (0 + (i : Int))), y4, some (.int d), some (.str (stepT ts)), some dv, some (.ref Lw), some (.str z1), some (.ref l), y11, some (.ref t2), some (.ref p), some (.int (n : Int)), some (.int (m : Int)), y16] ∧ G l = some (.lst (zs.map V.str)) ∧ (∀ z ∈ zs, z.length ≤ 5600) ∧ zs.length = 3 ∧ l ≠ b ∧ l ≠ sb ∧ sg ≠ l ∧ LI b sb sg P0 G ∧ G Lw = some (.lst (ls.map V.str)) ∧ Lw ≠ l, ?_, ?_⟩
        · refine ⟨_, rfl, _, rfl, _, rfl, _, rfl, b, sb, sg, _, rfl, L19.bag, L19.sgs, L19.ne, by omega, fun z2 G20 l2 B20 k20 => ?_⟩
          have hw4 := k20 _ _ neW hw3
          have L20 := L19.keep B20 k20
          refine ⟨⟨_, rfl⟩, _, rfl, _, rfl, (n : Int), rfl, Lw, _, rfl, SqL.of hw4, fun D1 m1 => ?_⟩
          rw [cut_takeV]
          have s1 := same_new (o := .lst ((ls.take n).map V.str)) m1
          refine ⟨_, rfl, _, rfl, Lw, _, (m : Int), .str ls[m], rfl, rfl, SqL.of (s1 _ _ hw4), atI_nat gm, by show 1 ≤ sizeLine; decide, fun D0 m0 => ?_⟩
          have s0 := same_new (o := .lst [.str ls[m]]) m0
          refine ⟨D1, D0, _, _, rfl, rfl, s0 _ _ upd_same, upd_same, by rw [List.length_map, List.length_take, sz_eq]; show min n ls.length + 1 ≤ _; omega, fun D2 m2 => ?_⟩
          have s2 := same_new (o := .lst ((ls.take n).map V.str ++ [.str ls[m]])) m2
          refine ⟨_, rfl, _, rfl, (n : Int), 1, rfl, rfl, ((n + 1 : Nat) : Int), rfl, Lw, _, rfl, SqL.of (s2 _ _ (s0 _ _ (s1 _ _ hw4))), fun D3 m3 => ?_⟩
          rw [cut_dropV]
          have s3 := same_new (o := .lst ((ls.drop (n + 1)).map V.str)) m3
          refine ⟨D2, D3, _, _, rfl, rfl, s3 _ _ upd_same, upd_same, by rw [List.length_append, List.length_map, List.length_map, List.length_take, List.length_drop, sz_eq]; show min n ls.length + 1 + _ ≤ _; omega, fun D4 m4 => ?_⟩
          have s4 := same_new (o := .lst (((ls.take n).map V.str ++ [.str ls[m]]) ++ (ls.drop (n + 1)).map V.str)) m4
          have w : wgt (ls.take n ++ [ls[m]] ++ ls.drop (n + 1)) ≤ 4000 := by
            rw [wgt_app, wgt_app, wgt_one]
            omega
          refine ⟨_, D4, ls.take n ++ [ls[m]] ++ ls.drop (n + 1), rfl, rfl, .inl (SqL.of (by rw [upd_same, List.map_append, List.map_append]; rfl)), by rw [n1]; unfold wgt at w; omega, by show 3 ≤ sizeLine; decide, fun l ml => ?_⟩
          have w3 := wgt_joinB w
          generalize Txt.join (Str.ofString " ") (ls.take n ++ [ls[m]] ++ ls.drop (n + 1)) = z3 at w3 ml ⊢
          have sAll := s1.trans (s0.trans (s2.trans (s3.trans s4)))
          have L21 := L20.same sAll
          have s5 := same_new (o := .lst [.str z1, .str z2, .str z3]) ml
          exact ⟨l, [z1, z2, z3], rfl, upd_same, fun z hz => by
            simp only [List.mem_cons, List.not_mem_nil, or_false] at hz
            rcases hz with rfl | rfl | rfl <;> omega, rfl, L21.bag.ne ml, L21.bag.ne2 ml, ne_of_none L21.sgs ml, L21.same s5, s5 _ _ (sAll _ _ hw4), ne_of_none (sAll _ _ hw4) ml⟩
        rintro σ G22 ⟨l, zs, rfl, hl, hzs, lzs, nlb, nls, nsl, L22, hw5, nwl⟩
        refine ⟨_, rfl, .inl ⟨rfl, _, SqL.of hl⟩, ⟨_, rfl⟩, _, rfl, _, rfl, (n : Int), rfl, Lw, _, rfl, SqL.of hw5, fun D1 m1 => ?_⟩
        rw [cut_takeV]
        have s1 := same_new (o := .lst ((ls.take n).map V.str)) m1
        refine ⟨_, rfl, _, rfl, (n : Int), 1, rfl, rfl, ((n + 1 : Nat) : Int), rfl, Lw, _, rfl, SqL.of (s1 _ _ hw5), fun D2 m2 => ?_⟩
        rw [cut_dropV]
        have s2 := same_new (o := .lst ((ls.drop (n + 1)).map V.str)) m2
        refine ⟨D1, D2, _, _, rfl, rfl, s2 _ _ upd_same, upd_same, by rw [List.length_map, List.length_map, List.length_take, List.length_drop, sz_eq]; omega, fun D3 m3 => ?_⟩
        have s3 := same_new (o := .lst ((ls.take n).map V.str ++ (ls.drop (n + 1)).map V.str)) m3
        have w : wgt (ls.take n ++ ls.drop (n + 1)) ≤ 4000 := by
          rw [wgt_app]
          omega
        have s13' := s1.trans (s2.trans s3)
        refine ⟨_, D3, ls.take n ++ ls.drop (n + 1), rfl, rfl, .inl (SqL.of (by rw [upd_same, List.map_append])), by rw [n1]; unfold wgt at w; omega, l, _, _, rfl, rfl, s13' _ _ hl, by rw [List.length_map, lzs, sz_eq]; decide, ?_⟩
        have w4 := wgt_joinB w
        generalize Txt.join (Str.ofString " ") (ls.take n ++ ls.drop (n + 1)) = z4 at w4 ⊢
        refine at_heap (fun G => G l = some (.lst ((zs ++ [z4]).map V.str)) ∧ LI b sb sg P0 G) ⟨by rw [List.map_append]; exact upd_same, (L22.same s13').bag.put nlb nls, tabs_lst (L22.same s13').tab (s13' _ _ hl), (upd_ne nsl).trans (L22.same s13').sgs, L22.ne⟩ ?_
        rintro G23 ⟨hl3, L23⟩
        have hz4 : ∀ z ∈ zs ++ [z4], z.length ≤ 5600 := fun z hz => by
          rcases List.mem_append.mp hz with h | h
          · exact hzs z h
          · rw [List.mem_singleton.mp h]
            omega
        generalize zs ++ [z4] = vs at hl3 hz4
        clear L22 hw5 hl hzs s1 s2 s3 s13' w4 w m1 m2 m3
        refine ⟨_, rfl, l, rfl, ⟨_, SqL.of hl3⟩, for_list (K := K) (a := l) (xs := vs.map V.str) (fun j σ G => (∃ u7 u11 : Option V, σ = [some (.ref a), some (.ref b), some (.ref sg), some (.int (0 + (i : Int))), y4, some (.int d), some (.str (stepT ts)), u7, some (.ref Lw), some (.str z1), some (.ref l), u11, some (.ref t2), some (.ref p), some (.int (n : Int)), some (.int (m : Int)), y16]) ∧ G l = some (.lst (vs.map V.str)) ∧ LI b sb sg P0 G) ⟨⟨_, _, rfl⟩, hl3, L23⟩ (fun j σ G _ z => SqL.of z.2.1) ?_ ?_⟩
        · rintro j v σ G24 hv ⟨⟨u7, u11, rfl⟩, hl4, L24⟩
          obtain ⟨z, rfl, hz⟩ : ∃ t : Str, v = .str t ∧ t.length ≤ 5600 := by
            rw [List.getElem?_map] at hv
            cases e : vs[j]? with
            | none =>
              rw [e] at hv
              cases hv
            | some t =>
              rw [e] at hv
              cases hv
              exact ⟨t, rfl, hz4 t (List.mem_of_getElem? e)⟩
          refine ⟨_, rfl, ?_⟩
          (try unfold tNil)
          refine read_dueSt hz fun dv2 G25 s25 hdv => ?_
          have L25 := L24.same s25
          have hl5 := s25 _ _ hl4
          refine ⟨L25.tab, fun Hb eb tb => ⟨_, rfl, ?_⟩⟩
          have Lb := L25.extN eb tb
          have hlb := lst_extN hl5 eb
          have hdb := hdv.extN eb
          (try unfold tNil)
          refine told_st (Q := ?Qc) T ?hEc ?hQc hz ?q0c ?q1c
          case hEc => rfl
          case hQc => rfl
          case q0c =>
            intro hn t Hc sc hd'
            cases hdb with
            | is h _ => exact absurd h (hn _)
            | no _ =>
              refine ⟨_, rfl, rfl, _, rfl, iteF ⟨by show 2 ≤ sizeLine; decide, fun r nr => ?_⟩⟩
              have er := same_new (o := .tup [.str (Str.ofString "BadText"), .int 0]) nr
              exact ne_same (dp_same er hd') (bad_dp upd_same) (badD_ok _).1 (Nat.le_trans (badD_ok _).2 (by decide)) ⟨false, rfl, iteF ⟨⟨_, _, rfl⟩, er _ _ (sc _ _ hlb), (Lb.same sc).same er⟩⟩
          case q1c =>
            intro ts' t Hc hw' sc hd'
            cases hdb with
            | no h => exact absurd hw' (h _)
            | @is ts2 p' h hp' =>
              cases h.one hw'
              refine ⟨_, rfl, rfl, _, rfl, iteT ⟨_, rfl, by show 2 ≤ sizeLine; decide, fun r nr => ?_⟩⟩
              have er := same_new (o := .tup [.str (Str.ofString "told"), .ref p']) nr
              exact ne_same (dp_same er hd') (st_dp upd_same ((hp'.same sc).same er)) (stD_ok _).1 (Nat.le_trans (stD_ok _).2 (by decide)) ⟨false, rfl, iteF ⟨⟨_, _, rfl⟩, er _ _ (sc _ _ hlb), (Lb.same sc).same er⟩⟩
        · rintro σ G24 ⟨⟨u7, u11, rfl⟩, _, L24⟩
          exact ⟨⟨_, _, _, _, _, _, _, _, _, _, _, _, _, _, rfl⟩, L24⟩
    rintro σ G2 ⟨⟨y3, y4, y5, y6, y7, y8, y9, y10, y11, y12, y13, y14, y15, y16, rfl⟩, L2⟩
    have ml : (Str.ofString "turn 1 x 1 times ").length = 17 := by decide +kernel
    refine ⟨_, _, rfl, rfl, ⟨by decide, fun _ _ => by decide +kernel, fun _ _ => by decide +kernel⟩, _, _, rfl, rfl, by rw [ml, m20, sz_eq]; decide, ?_⟩
    have zlen : (Str.ofString "turn 1 x 1 times " ++ Txt.mul (Str.ofString "9") 20).length = 37 := by rw [Str.length_append, ml, m20]
    have wrl := wrL
    have zno : ∀ N : Str, (Str.ofString "turn 1 x 1 times " ++ Txt.mul (Str.ofString "9") 20) ++ N = Str.ofString "turn 1 x 1 times " ++ (Txt.mul (Str.ofString "9") 20 ++ N) := fun N => Str.append_assoc _ _ _
    have no1 : ∀ ts, ¬ Wr ((Str.ofString "turn 1 x 1 times " ++ Txt.mul (Str.ofString "9") 20) ++ Txt.mul (Str.ofString "9") 1) ts := by
      rw [zno]
      exact long_no long_1 free_1
    have no2 : ∀ ts, ¬ Wr ((Str.ofString "turn 1 x 1 times " ++ Txt.mul (Str.ofString "9") 20) ++ Txt.mul (Str.ofString "9") 5000) ts := by
      rw [zno]
      exact long_no long_5000 free_5000
    generalize Str.ofString "turn 1 x 1 times " ++ Txt.mul (Str.ofString "9") 20 = zl at zlen wrl no1 no2 ⊢
    clear zno
    refine ⟨fun σ G => σ = [some (.ref a), some (.ref b), some (.ref sg), y3, some (.str zl), y5, y6, y7, y8, y9, y10, y11, y12, y13, y14, y15, y16], ?_, ?_⟩
    · refine ⟨_, rfl, zl, rfl, by omega, fun hn => absurd wrl (hn _), fun ts' p' Ha hw sa hS' => ⟨by show 2 ≤ sizeLine; decide, fun t1 n1 => ⟨by show 2 ≤ sizeLine; decide, fun t2 n2 => ⟨by show 2 ≤ sizeLine; decide, fun t3 n3 => ⟨10, 20, rfl, rfl, ⟨by decide, by decide, by decide⟩, _, 1, rfl, rfl, by show 3 ≤ sizeLine; decide, fun t4 n4 => ?_⟩⟩⟩⟩⟩
      cases hw.one wrl
      have s1 := same_new (o := .tup [.int 1, .int 0]) n1
      have s2 := same_new (o := .tup [.int 1, .int 0]) n2
      have s3 := same_new (o := .tup [.ref t1, .ref t2]) n3
      have s4 := same_new (o := .tup [.str (Str.ofString "turn"), .ref t3, .int ((10 : Int) ^ (20 : Int).toNat - 1)]) n4
      have s14 := s1.trans (s2.trans (s3.trans s4))
      have L3 := (L2.same sa).same s14
      have hT : StepAt (upd (upd (upd (upd Ha t1 (.tup [.int 1, .int 0])) t2 (.tup [.int 1, .int 0])) t3 (.tup [.ref t1, .ref t2])) t4 (.tup [.str (Str.ofString "turn"), .ref t3, .int ((10 : Int) ^ (20 : Int).toNat - 1)])) t4 tsL := ⟨_, upd_same, .cons rfl (.cons ⟨t3, rfl, t1, t2, s4 _ _ upd_same, s4 _ _ (s3 _ _ (s2 _ _ upd_same)), s4 _ _ (s3 _ _ upd_same)⟩ (.cons rfl .nil))⟩
      have pl : (PyData.tuple (tsL.map itD)).plain = true := by
        have := items_plain tsL
        simp [PyData.plain, this]
      have dp : (PyData.tuple (tsL.map itD)).depth ≤ 8 := by
        have := items_deep tsL
        simp only [PyData.depth]
        omega
      refine ne_same (step_dp (hS'.same s14)) (step_dp hT) pl dp ⟨false, rfl, iteF ?_⟩
      refine ⟨by show 2 ≤ sizeLine; decide, fun tp np => ⟨tp, rfl, ⟨_, SqT.of upd_same⟩, fun Dl nD => ?_⟩⟩
      have Lp := L3.same (same_new (o := .tup [.int 1, .int 5000]) np)
      have L4 := Lp.same (same_new (o := .lst []) nD)
      have nDb := Lp.bag.ne nD
      have nDs := Lp.bag.ne2 nD
      have nDg : sg ≠ Dl := ne_of_none Lp.sgs nD
      have nDt : tp ≠ Dl := ne_of_none upd_same nD
      refine lc_tup (K := K) (a := tp) (xs := [.int 1, .int 5000]) (fun j G => LI b sb sg P0 G ∧ G tp = some (.tup [.int 1, .int 5000]) ∧ ∃ acc : List V, G Dl = some (.lst acc) ∧ acc.length = j ∧ ∀ v ∈ acc, ∃ t, v = .ref t ∧ G t = some (.tup [.str "BadText", .int 0])) ⟨L4, (same_new nD) _ _ upd_same, [], upd_same, rfl, fun v hv => by cases hv⟩ (fun j G _ h => SqT.of h.2.1) ?_ ?_
      · rintro j v G hv ⟨LG, htp, acc, hD, la, hacc⟩
        obtain ⟨k, rfl, mk, mlen, no, lj⟩ : ∃ k : Int, v = .int k ∧ MulOk (Str.ofString "9") k ∧ (Txt.mul (Str.ofString "9") k).length ≤ 5000 ∧ (∀ ts, ¬ Wr (zl ++ Txt.mul (Str.ofString "9") k) ts) ∧ j ≤ 1 := by
          match j, hv with
          | 0, hv =>
            cases hv
            exact ⟨1, rfl, ⟨by decide, fun _ _ => by decide +kernel, fun _ _ => by decide +kernel⟩, by decide +kernel, no1, by decide⟩
          | 1, hv =>
            cases hv
            exact ⟨5000, rfl, ⟨by decide, fun _ _ => by decide +kernel, fun _ _ => by decide +kernel⟩, Nat.le_of_eq m5000, no2, by decide⟩
          | n + 2, hv => simp at hv
        refine ⟨rfl, LG.tab, fun Hb eb tb => ⟨_, rfl, _, rfl, _, k, rfl, rfl, mk, _, _, rfl, rfl, by rw [sz_eq]; omega, ?_⟩⟩
        have Lb := LG.extN eb tb
        have hDb := lst_extN hD eb
        have htb := tup_extN htp eb
        (try unfold tNil)
        refine told_bad (Q := ?Qd) T ?hEd (by rw [Str.length_append]; omega) no ?q0d
        case hEd => rfl
        case q0d =>
          intro t Hc sc ht
          have Lc := Lb.same sc
          have hDc := sc _ _ hDb
          have keepT : ∀ p xs, Hc p = some (.tup xs) → upd Hc Dl (.lst (acc ++ [.ref t])) p = some (.tup xs) := fun p xs e => (upd_ne (ne_of e hDc (by intro z; cases z))).trans e
          refine ⟨acc, hDc, by rw [la, sz_eq]; omega, ⟨Lc.bag.put nDb nDs, tabs_lst Lc.tab hDc, (upd_ne nDg).trans Lc.sgs, Lc.ne⟩, (upd_ne nDt).trans (sc _ _ htb), acc ++ [.ref t], upd_same, by rw [List.length_append, la]; rfl, fun v hv => ?_⟩
          rcases List.mem_append.mp hv with h | h
          · obtain ⟨t', e, ht'⟩ := hacc v h
            exact ⟨t', e, keepT _ _ (sc _ _ (tup_extN ht' eb))⟩
          · rw [List.mem_singleton.mp h]
            exact ⟨t, rfl, keepT _ _ ht⟩
      · rintro G ⟨LG, htp, acc, hD, la, hacc⟩
        match acc, (show acc.length = 2 from la) with
        | [v1, v2], _ =>
          obtain ⟨r1, rfl, hr1⟩ := hacc v1 (by simp)
          obtain ⟨r2, rfl, hr2⟩ := hacc v2 (by simp)
          refine ⟨by show 2 ≤ sizeLine; decide, fun t5 n5 => ⟨by show 1 ≤ sizeLine; decide, fun l5 m5 => ⟨l5, 2, [.ref t5], rfl, rfl, upd_same, by decide, by decide, by show 1 * 2 ≤ sizeLine; decide, fun l6 m6 => ?_⟩⟩⟩
          have e5 := same_new (o := .tup [.str (Str.ofString "BadText"), .int 0]) n5
          have e6 := same_new (o := .lst [.ref t5]) m5
          have e7 := same_new (o := .lst (List.replicate (2 : Int).toNat [V.ref t5]).flatten) m6
          have e57 := e5.trans (e6.trans e7)
          have h5 := (e6.trans e7) _ _ (upd_same (H := G) (a := t5) (o := .tup [.str (Str.ofString "BadText"), .int 0]))
          refine ne_same (d := .list [badD "BadText", badD "BadText"]) (.lst (SqL.of (e57 _ _ hD)) (.cons (bad_dp (e57 _ _ hr1)) (.cons (bad_dp (e57 _ _ hr2)) .nil))) (.lst (SqL.of (xs := [.ref t5, .ref t5]) upd_same) (.cons (bad_dp h5) (.cons (bad_dp h5) .nil))) (by simp [PyData.plain, PyData.plainAll, (badD_ok "BadText").1]) (by have := (badD_ok "BadText").2; simp only [PyData.depth, PyData.depthAll]; omega) ⟨false, rfl, iteF rfl⟩
    rintro σ G3 rfl
    refine ⟨by show 2 ≤ sizeLine; decide, fun t1 n1 => ⟨1, rfl, by show 2 ≤ sizeLine; decide, fun t2 n2 => ⟨by show 2 ≤ sizeLine; decide, fun t3 n3 => ⟨by show 3 ≤ sizeLine; decide, fun t4 n4 => ⟨rfl, t4, tsF, rfl, ?_⟩⟩⟩⟩⟩
    have s2 := same_new (o := .tup [.int 0, .int (-1)]) n2
    have s3 := same_new (o := .tup [.ref t1, .ref t2]) n3
    have s4 := same_new (o := .tup [.str (Str.ofString "turn"), .ref t3, .int 2]) n4
    refine ⟨⟨_, upd_same, .cons rfl (.cons ⟨t3, rfl, t1, t2, s4 _ _ upd_same, s4 _ _ (s3 _ _ (s2 _ _ upd_same)), s4 _ _ (s3 _ _ upd_same)⟩ (.cons rfl .nil))⟩, by decide, head_w (by decide +kernel), ⟨trivial, ⟨by decide, by decide, by decide, by decide⟩, (show (2 : Int).natAbs < 10 ^ 20 by decide), trivial⟩, fun _ H' _ => ?_, fun z => (by rw [okF.1] at z; cases z)⟩
    rw [okF.2]
    refine ⟨rfl, ?_⟩
    rw [decide_eq_true rfl]
    exact q _
end
theorem all_mk {w : World} {K : PySem.W.Frag} {h : Heap} {mg : Str → Option Value} {fa : Addr} (X : K.In h) (G : h.Ns mainGlobals mg) (hfa : mg "law" = some (.ref fa)) {l : PySem.W.OpenLaw} (hprog : l.prog = PySem.Challenge.pw_grainyard_k64_texts_of_sheets_and_steps) {cL PL : Addr}
    {od0 an0 : Option Addr} {sl0 : Array (Option Value)} {kV0 oc0 dc0 pm0 cd0 ct0 : Value} {f0 : Addr}
    (a0 : PySem.W.nsIn K mainGlobals "decimal_text" = some (some (.ref f0))) (l0 : K.lookup f0 = some ⟨oc0, od0, .func (PySem.W.fnOf "decimal_text" "decimal_text" (defArgs s_decimal_text) (defBody s_decimal_text) (defScope s_decimal_text) .none kV0 dc0 pm0 an0 cd0 ct0), sl0⟩) (c0 : PySem.W.codeIn K cd0 "decimal_text" = true) (k0 : PySem.W.keepIn K (.ref f0) = true)
    {od1 an1 : Option Addr} {sl1 : Array (Option Value)} {kV1 oc1 dc1 pm1 cd1 ct1 : Value} {f1 : Addr}
    (a1 : PySem.W.nsIn K mainGlobals "whole_root" = some (some (.ref f1))) (l1 : K.lookup f1 = some ⟨oc1, od1, .func (PySem.W.fnOf "whole_root" "whole_root" (defArgs s_whole_root) (defBody s_whole_root) (defScope s_whole_root) .none kV1 dc1 pm1 an1 cd1 ct1), sl1⟩) (c1 : PySem.W.codeIn K cd1 "whole_root" = true) (k1 : PySem.W.keepIn K (.ref f1) = true)
    {od2 an2 : Option Addr} {sl2 : Array (Option Value)} {kV2 oc2 dc2 pm2 cd2 ct2 : Value} {f2 : Addr}
    (a2 : PySem.W.nsIn K mainGlobals "is_root" = some (some (.ref f2))) (l2 : K.lookup f2 = some ⟨oc2, od2, .func (PySem.W.fnOf "is_root" "is_root" (defArgs s_is_root) (defBody s_is_root) (defScope s_is_root) .none kV2 dc2 pm2 an2 cd2 ct2), sl2⟩) (c2 : PySem.W.codeIn K cd2 "is_root" = true) (k2 : PySem.W.keepIn K (.ref f2) = true)
    {od3 an3 : Option Addr} {sl3 : Array (Option Value)} {kV3 oc3 dc3 pm3 cd3 ct3 : Value} {f3 : Addr}
    (a3 : PySem.W.nsIn K mainGlobals "check_root" = some (some (.ref f3))) (l3 : K.lookup f3 = some ⟨oc3, od3, .func (PySem.W.fnOf "check_root" "check_root" (defArgs s_check_root) (defBody s_check_root) (defScope s_check_root) .none kV3 dc3 pm3 an3 cd3 ct3), sl3⟩) (c3 : PySem.W.codeIn K cd3 "check_root" = true) (k3 : PySem.W.keepIn K (.ref f3) = true)
    {od4 an4 : Option Addr} {sl4 : Array (Option Value)} {kV4 oc4 dc4 pm4 cd4 ct4 : Value} {f4 : Addr}
    (a4 : PySem.W.nsIn K mainGlobals "sign" = some (some (.ref f4))) (l4 : K.lookup f4 = some ⟨oc4, od4, .func (PySem.W.fnOf "sign" "sign" (defArgs s_sign) (defBody s_sign) (defScope s_sign) .none kV4 dc4 pm4 an4 cd4 ct4), sl4⟩) (c4 : PySem.W.codeIn K cd4 "sign" = true) (k4 : PySem.W.keepIn K (.ref f4) = true)
    {od5 an5 : Option Addr} {sl5 : Array (Option Value)} {kV5 oc5 dc5 pm5 cd5 ct5 : Value} {f5 : Addr}
    (a5 : PySem.W.nsIn K mainGlobals "is_length" = some (some (.ref f5))) (l5 : K.lookup f5 = some ⟨oc5, od5, .func (PySem.W.fnOf "is_length" "is_length" (defArgs s_is_length) (defBody s_is_length) (defScope s_is_length) .none kV5 dc5 pm5 an5 cd5 ct5), sl5⟩) (c5 : PySem.W.codeIn K cd5 "is_length" = true) (k5 : PySem.W.keepIn K (.ref f5) = true)
    {od6 an6 : Option Addr} {sl6 : Array (Option Value)} {kV6 oc6 dc6 pm6 cd6 ct6 : Value} {f6 : Addr}
    (a6 : PySem.W.nsIn K mainGlobals "is_sheet" = some (some (.ref f6))) (l6 : K.lookup f6 = some ⟨oc6, od6, .func (PySem.W.fnOf "is_sheet" "is_sheet" (defArgs s_is_sheet) (defBody s_is_sheet) (defScope s_is_sheet) .none kV6 dc6 pm6 an6 cd6 ct6), sl6⟩) (c6 : PySem.W.codeIn K cd6 "is_sheet" = true) (k6 : PySem.W.keepIn K (.ref f6) = true)
    {od7 an7 : Option Addr} {sl7 : Array (Option Value)} {kV7 oc7 dc7 pm7 cd7 ct7 : Value} {f7 : Addr}
    (a7 : PySem.W.nsIn K mainGlobals "turned" = some (some (.ref f7))) (l7 : K.lookup f7 = some ⟨oc7, od7, .func (PySem.W.fnOf "turned" "turned" (defArgs s_turned) (defBody s_turned) (defScope s_turned) .none kV7 dc7 pm7 an7 cd7 ct7), sl7⟩) (c7 : PySem.W.codeIn K cd7 "turned" = true) (k7 : PySem.W.keepIn K (.ref f7) = true)
    {od8 an8 : Option Addr} {sl8 : Array (Option Value)} {kV8 oc8 dc8 pm8 cd8 ct8 : Value} {f8 : Addr}
    (a8 : PySem.W.nsIn K mainGlobals "check_rows" = some (some (.ref f8))) (l8 : K.lookup f8 = some ⟨oc8, od8, .func (PySem.W.fnOf "check_rows" "check_rows" (defArgs s_check_rows) (defBody s_check_rows) (defScope s_check_rows) .none kV8 dc8 pm8 an8 cd8 ct8), sl8⟩) (c8 : PySem.W.codeIn K cd8 "check_rows" = true) (k8 : PySem.W.keepIn K (.ref f8) = true)
    {od9 an9 : Option Addr} {sl9 : Array (Option Value)} {kV9 oc9 dc9 pm9 cd9 ct9 : Value} {f9 : Addr}
    (a9 : PySem.W.nsIn K mainGlobals "merged" = some (some (.ref f9))) (l9 : K.lookup f9 = some ⟨oc9, od9, .func (PySem.W.fnOf "merged" "merged" (defArgs s_merged) (defBody s_merged) (defScope s_merged) .none kV9 dc9 pm9 an9 cd9 ct9), sl9⟩) (c9 : PySem.W.codeIn K cd9 "merged" = true) (k9 : PySem.W.keepIn K (.ref f9) = true)
    {od10 an10 : Option Addr} {sl10 : Array (Option Value)} {kV10 oc10 dc10 pm10 cd10 ct10 : Value} {f10 : Addr}
    (a10 : PySem.W.nsIn K mainGlobals "check_same_root" = some (some (.ref f10))) (l10 : K.lookup f10 = some ⟨oc10, od10, .func (PySem.W.fnOf "check_same_root" "check_same_root" (defArgs s_check_same_root) (defBody s_check_same_root) (defScope s_check_same_root) .none kV10 dc10 pm10 an10 cd10 ct10), sl10⟩) (c10 : PySem.W.codeIn K cd10 "check_same_root" = true) (k10 : PySem.W.keepIn K (.ref f10) = true)
    {od11 an11 : Option Addr} {sl11 : Array (Option Value)} {kV11 oc11 dc11 pm11 cd11 ct11 : Value} {f11 : Addr}
    (a11 : PySem.W.nsIn K mainGlobals "is_pair" = some (some (.ref f11))) (l11 : K.lookup f11 = some ⟨oc11, od11, .func (PySem.W.fnOf "is_pair" "is_pair" (defArgs s_is_pair) (defBody s_is_pair) (defScope s_is_pair) .none kV11 dc11 pm11 an11 cd11 ct11), sl11⟩) (c11 : PySem.W.codeIn K cd11 "is_pair" = true) (k11 : PySem.W.keepIn K (.ref f11) = true)
    {od12 an12 : Option Addr} {sl12 : Array (Option Value)} {kV12 oc12 dc12 pm12 cd12 ct12 : Value} {f12 : Addr}
    (a12 : PySem.W.nsIn K mainGlobals "is_two_pairs" = some (some (.ref f12))) (l12 : K.lookup f12 = some ⟨oc12, od12, .func (PySem.W.fnOf "is_two_pairs" "is_two_pairs" (defArgs s_is_two_pairs) (defBody s_is_two_pairs) (defScope s_is_two_pairs) .none kV12 dc12 pm12 an12 cd12 ct12), sl12⟩) (c12 : PySem.W.codeIn K cd12 "is_two_pairs" = true) (k12 : PySem.W.keepIn K (.ref f12) = true)
    {od13 an13 : Option Addr} {sl13 : Array (Option Value)} {kV13 oc13 dc13 pm13 cd13 ct13 : Value} {f13 : Addr}
    (a13 : PySem.W.nsIn K mainGlobals "fits" = some (some (.ref f13))) (l13 : K.lookup f13 = some ⟨oc13, od13, .func (PySem.W.fnOf "fits" "fits" (defArgs s_fits) (defBody s_fits) (defScope s_fits) .none kV13 dc13 pm13 an13 cd13 ct13), sl13⟩) (c13 : PySem.W.codeIn K cd13 "fits" = true) (k13 : PySem.W.keepIn K (.ref f13) = true)
    {od14 an14 : Option Addr} {sl14 : Array (Option Value)} {kV14 oc14 dc14 pm14 cd14 ct14 : Value} {f14 : Addr}
    (a14 : PySem.W.nsIn K mainGlobals "has_shape" = some (some (.ref f14))) (l14 : K.lookup f14 = some ⟨oc14, od14, .func (PySem.W.fnOf "has_shape" "has_shape" (defArgs s_has_shape) (defBody s_has_shape) (defScope s_has_shape) .none kV14 dc14 pm14 an14 cd14 ct14), sl14⟩) (c14 : PySem.W.codeIn K cd14 "has_shape" = true) (k14 : PySem.W.keepIn K (.ref f14) = true)
    {od15 an15 : Option Addr} {sl15 : Array (Option Value)} {kV15 oc15 dc15 pm15 cd15 ct15 : Value} {f15 : Addr}
    (a15 : PySem.W.nsIn K mainGlobals "side_of" = some (some (.ref f15))) (l15 : K.lookup f15 = some ⟨oc15, od15, .func (PySem.W.fnOf "side_of" "side_of" (defArgs s_side_of) (defBody s_side_of) (defScope s_side_of) .none kV15 dc15 pm15 an15 cd15 ct15), sl15⟩) (c15 : PySem.W.codeIn K cd15 "side_of" = true) (k15 : PySem.W.keepIn K (.ref f15) = true)
    {od16 an16 : Option Addr} {sl16 : Array (Option Value)} {kV16 oc16 dc16 pm16 cd16 ct16 : Value} {f16 : Addr}
    (a16 : PySem.W.nsIn K mainGlobals "is_even_split" = some (some (.ref f16))) (l16 : K.lookup f16 = some ⟨oc16, od16, .func (PySem.W.fnOf "is_even_split" "is_even_split" (defArgs s_is_even_split) (defBody s_is_even_split) (defScope s_is_even_split) .none kV16 dc16 pm16 an16 cd16 ct16), sl16⟩) (c16 : PySem.W.codeIn K cd16 "is_even_split" = true) (k16 : PySem.W.keepIn K (.ref f16) = true)
    {od17 an17 : Option Addr} {sl17 : Array (Option Value)} {kV17 oc17 dc17 pm17 cd17 ct17 : Value} {f17 : Addr}
    (a17 : PySem.W.nsIn K mainGlobals "is_even_glue" = some (some (.ref f17))) (l17 : K.lookup f17 = some ⟨oc17, od17, .func (PySem.W.fnOf "is_even_glue" "is_even_glue" (defArgs s_is_even_glue) (defBody s_is_even_glue) (defScope s_is_even_glue) .none kV17 dc17 pm17 an17 cd17 ct17), sl17⟩) (c17 : PySem.W.codeIn K cd17 "is_even_glue" = true) (k17 : PySem.W.keepIn K (.ref f17) = true)
    {od18 an18 : Option Addr} {sl18 : Array (Option Value)} {kV18 oc18 dc18 pm18 cd18 ct18 : Value} {f18 : Addr}
    (a18 : PySem.W.nsIn K mainGlobals "is_step" = some (some (.ref f18))) (l18 : K.lookup f18 = some ⟨oc18, od18, .func (PySem.W.fnOf "is_step" "is_step" (defArgs s_is_step) (defBody s_is_step) (defScope s_is_step) .none kV18 dc18 pm18 an18 cd18 ct18), sl18⟩) (c18 : PySem.W.codeIn K cd18 "is_step" = true) (k18 : PySem.W.keepIn K (.ref f18) = true)
    {od19 an19 : Option Addr} {sl19 : Array (Option Value)} {kV19 oc19 dc19 pm19 cd19 ct19 : Value} {f19 : Addr}
    (a19 : PySem.W.nsIn K mainGlobals "check_steps" = some (some (.ref f19))) (l19 : K.lookup f19 = some ⟨oc19, od19, .func (PySem.W.fnOf "check_steps" "check_steps" (defArgs s_check_steps) (defBody s_check_steps) (defScope s_check_steps) .none kV19 dc19 pm19 an19 cd19 ct19), sl19⟩) (c19 : PySem.W.codeIn K cd19 "check_steps" = true) (k19 : PySem.W.keepIn K (.ref f19) = true)
    {od20 an20 : Option Addr} {sl20 : Array (Option Value)} {kV20 oc20 dc20 pm20 cd20 ct20 : Value} {f20 : Addr}
    (a20 : PySem.W.nsIn K mainGlobals "pair_text" = some (some (.ref f20))) (l20 : K.lookup f20 = some ⟨oc20, od20, .func (PySem.W.fnOf "pair_text" "pair_text" (defArgs s_pair_text) (defBody s_pair_text) (defScope s_pair_text) .none kV20 dc20 pm20 an20 cd20 ct20), sl20⟩) (c20 : PySem.W.codeIn K cd20 "pair_text" = true) (k20 : PySem.W.keepIn K (.ref f20) = true)
    {od21 an21 : Option Addr} {sl21 : Array (Option Value)} {kV21 oc21 dc21 pm21 cd21 ct21 : Value} {f21 : Addr}
    (a21 : PySem.W.nsIn K mainGlobals "sheet_text" = some (some (.ref f21))) (l21 : K.lookup f21 = some ⟨oc21, od21, .func (PySem.W.fnOf "sheet_text" "sheet_text" (defArgs s_sheet_text) (defBody s_sheet_text) (defScope s_sheet_text) .none kV21 dc21 pm21 an21 cd21 ct21), sl21⟩) (c21 : PySem.W.codeIn K cd21 "sheet_text" = true) (k21 : PySem.W.keepIn K (.ref f21) = true)
    {od22 an22 : Option Addr} {sl22 : Array (Option Value)} {kV22 oc22 dc22 pm22 cd22 ct22 : Value} {f22 : Addr}
    (a22 : PySem.W.nsIn K mainGlobals "sawing_text" = some (some (.ref f22))) (l22 : K.lookup f22 = some ⟨oc22, od22, .func (PySem.W.fnOf "sawing_text" "sawing_text" (defArgs s_sawing_text) (defBody s_sawing_text) (defScope s_sawing_text) .none kV22 dc22 pm22 an22 cd22 ct22), sl22⟩) (c22 : PySem.W.codeIn K cd22 "sawing_text" = true) (k22 : PySem.W.keepIn K (.ref f22) = true)
    {od23 an23 : Option Addr} {sl23 : Array (Option Value)} {kV23 oc23 dc23 pm23 cd23 ct23 : Value} {f23 : Addr}
    (a23 : PySem.W.nsIn K mainGlobals "gluing_text" = some (some (.ref f23))) (l23 : K.lookup f23 = some ⟨oc23, od23, .func (PySem.W.fnOf "gluing_text" "gluing_text" (defArgs s_gluing_text) (defBody s_gluing_text) (defScope s_gluing_text) .none kV23 dc23 pm23 an23 cd23 ct23), sl23⟩) (c23 : PySem.W.codeIn K cd23 "gluing_text" = true) (k23 : PySem.W.keepIn K (.ref f23) = true)
    {od24 an24 : Option Addr} {sl24 : Array (Option Value)} {kV24 oc24 dc24 pm24 cd24 ct24 : Value} {f24 : Addr}
    (a24 : PySem.W.nsIn K mainGlobals "step_text" = some (some (.ref f24))) (l24 : K.lookup f24 = some ⟨oc24, od24, .func (PySem.W.fnOf "step_text" "step_text" (defArgs s_step_text) (defBody s_step_text) (defScope s_step_text) .none kV24 dc24 pm24 an24 cd24 ct24), sl24⟩) (c24 : PySem.W.codeIn K cd24 "step_text" = true) (k24 : PySem.W.keepIn K (.ref f24) = true)
    {od25 an25 : Option Addr} {sl25 : Array (Option Value)} {kV25 oc25 dc25 pm25 cd25 ct25 : Value} {f25 : Addr}
    (a25 : PySem.W.nsIn K mainGlobals "read_number" = some (some (.ref f25))) (l25 : K.lookup f25 = some ⟨oc25, od25, .func (PySem.W.fnOf "read_number" "read_number" (defArgs s_read_number) (defBody s_read_number) (defScope s_read_number) .none kV25 dc25 pm25 an25 cd25 ct25), sl25⟩) (c25 : PySem.W.codeIn K cd25 "read_number" = true) (k25 : PySem.W.keepIn K (.ref f25) = true)
    {od26 an26 : Option Addr} {sl26 : Array (Option Value)} {kV26 oc26 dc26 pm26 cd26 ct26 : Value} {f26 : Addr}
    (a26 : PySem.W.nsIn K mainGlobals "read_numbers" = some (some (.ref f26))) (l26 : K.lookup f26 = some ⟨oc26, od26, .func (PySem.W.fnOf "read_numbers" "read_numbers" (defArgs s_read_numbers) (defBody s_read_numbers) (defScope s_read_numbers) .none kV26 dc26 pm26 an26 cd26 ct26), sl26⟩) (c26 : PySem.W.codeIn K cd26 "read_numbers" = true) (k26 : PySem.W.keepIn K (.ref f26) = true)
    {od27 an27 : Option Addr} {sl27 : Array (Option Value)} {kV27 oc27 dc27 pm27 cd27 ct27 : Value} {f27 : Addr}
    (a27 : PySem.W.nsIn K mainGlobals "read_pair" = some (some (.ref f27))) (l27 : K.lookup f27 = some ⟨oc27, od27, .func (PySem.W.fnOf "read_pair" "read_pair" (defArgs s_read_pair) (defBody s_read_pair) (defScope s_read_pair) .none kV27 dc27 pm27 an27 cd27 ct27), sl27⟩) (c27 : PySem.W.codeIn K cd27 "read_pair" = true) (k27 : PySem.W.keepIn K (.ref f27) = true)
    {od28 an28 : Option Addr} {sl28 : Array (Option Value)} {kV28 oc28 dc28 pm28 cd28 ct28 : Value} {f28 : Addr}
    (a28 : PySem.W.nsIn K mainGlobals "read_sheet" = some (some (.ref f28))) (l28 : K.lookup f28 = some ⟨oc28, od28, .func (PySem.W.fnOf "read_sheet" "read_sheet" (defArgs s_read_sheet) (defBody s_read_sheet) (defScope s_read_sheet) .none kV28 dc28 pm28 an28 cd28 ct28), sl28⟩) (c28 : PySem.W.codeIn K cd28 "read_sheet" = true) (k28 : PySem.W.keepIn K (.ref f28) = true)
    {od29 an29 : Option Addr} {sl29 : Array (Option Value)} {kV29 oc29 dc29 pm29 cd29 ct29 : Value} {f29 : Addr}
    (a29 : PySem.W.nsIn K mainGlobals "items_of_step" = some (some (.ref f29))) (l29 : K.lookup f29 = some ⟨oc29, od29, .func (PySem.W.fnOf "items_of_step" "items_of_step" (defArgs s_items_of_step) (defBody s_items_of_step) (defScope s_items_of_step) .none kV29 dc29 pm29 an29 cd29 ct29), sl29⟩) (c29 : PySem.W.codeIn K cd29 "items_of_step" = true) (k29 : PySem.W.keepIn K (.ref f29) = true)
    {od30 an30 : Option Addr} {sl30 : Array (Option Value)} {kV30 oc30 dc30 pm30 cd30 ct30 : Value} {f30 : Addr}
    (a30 : PySem.W.nsIn K mainGlobals "read_step" = some (some (.ref f30))) (l30 : K.lookup f30 = some ⟨oc30, od30, .func (PySem.W.fnOf "read_step" "read_step" (defArgs s_read_step) (defBody s_read_step) (defScope s_read_step) .none kV30 dc30 pm30 an30 cd30 ct30), sl30⟩) (c30 : PySem.W.codeIn K cd30 "read_step" = true) (k30 : PySem.W.keepIn K (.ref f30) = true)
    {od31 an31 : Option Addr} {sl31 : Array (Option Value)} {kV31 oc31 dc31 pm31 cd31 ct31 : Value} {f31 : Addr}
    (a31 : PySem.W.nsIn K mainGlobals "found_in_text" = some (some (.ref f31))) (l31 : K.lookup f31 = some ⟨oc31, od31, .func (PySem.W.fnOf "found_in_text" "found_in_text" (defArgs s_found_in_text) (defBody s_found_in_text) (defScope s_found_in_text) .none kV31 dc31 pm31 an31 cd31 ct31), sl31⟩) (c31 : PySem.W.codeIn K cd31 "found_in_text" = true) (k31 : PySem.W.keepIn K (.ref f31) = true)
    {od32 an32 : Option Addr} {sl32 : Array (Option Value)} {kV32 oc32 dc32 pm32 cd32 ct32 : Value} {f32 : Addr}
    (a32 : PySem.W.nsIn K mainGlobals "parse_sheet" = some (some (.ref f32))) (l32 : K.lookup f32 = some ⟨oc32, od32, .func (PySem.W.fnOf "parse_sheet" "parse_sheet" (defArgs s_parse_sheet) (defBody s_parse_sheet) (defScope s_parse_sheet) .none kV32 dc32 pm32 an32 cd32 ct32), sl32⟩) (c32 : PySem.W.codeIn K cd32 "parse_sheet" = true) (k32 : PySem.W.keepIn K (.ref f32) = true)
    {od33 an33 : Option Addr} {sl33 : Array (Option Value)} {kV33 oc33 dc33 pm33 cd33 ct33 : Value} {f33 : Addr}
    (a33 : PySem.W.nsIn K mainGlobals "parse_step" = some (some (.ref f33))) (l33 : K.lookup f33 = some ⟨oc33, od33, .func (PySem.W.fnOf "parse_step" "parse_step" (defArgs s_parse_step) (defBody s_parse_step) (defScope s_parse_step) .none kV33 dc33 pm33 an33 cd33 ct33), sl33⟩) (c33 : PySem.W.codeIn K cd33 "parse_step" = true) (k33 : PySem.W.keepIn K (.ref f33) = true)
    {od34 an34 : Option Addr} {sl34 : Array (Option Value)} {kV34 oc34 dc34 pm34 cd34 ct34 : Value} {f34 : Addr}
    (a34 : PySem.W.nsIn K mainGlobals "_law_source" = some (some (.ref f34))) (l34 : K.lookup f34 = some ⟨oc34, od34, .func (PySem.W.fnOf "_law_source" "_law_source" (defArgs s_source) (defBody s_source) (defScope s_source) .none kV34 dc34 pm34 an34 cd34 ct34), sl34⟩) (c34 : PySem.W.codeIn K cd34 "_law_source" = true) (k34 : PySem.W.keepIn K (.ref f34) = true)
    {od35 an35 : Option Addr} {sl35 : Array (Option Value)} {kV35 oc35 dc35 pm35 cd35 ct35 : Value} {f35 : Addr}
    (a35 : PySem.W.nsIn K mainGlobals "_law_pull" = some (some (.ref f35))) (l35 : K.lookup f35 = some ⟨oc35, od35, .func (PySem.W.fnOf "_law_pull" "_law_pull" (defArgs s_pull) (defBody s_pull) (defScope s_pull) .none kV35 dc35 pm35 an35 cd35 ct35), sl35⟩) (c35 : PySem.W.codeIn K cd35 "_law_pull" = true) (k35 : PySem.W.keepIn K (.ref f35) = true)
    {od36 an36 : Option Addr} {sl36 : Array (Option Value)} {kV36 oc36 dc36 pm36 cd36 ct36 : Value} {f36 : Addr}
    (a36 : PySem.W.nsIn K mainGlobals "_law_of" = some (some (.ref f36))) (l36 : K.lookup f36 = some ⟨oc36, od36, .func (PySem.W.fnOf "_law_of" "_law_of" (defArgs s_of) (defBody s_of) (defScope s_of) .none kV36 dc36 pm36 an36 cd36 ct36), sl36⟩) (c36 : PySem.W.codeIn K cd36 "_law_of" = true) (k36 : PySem.W.keepIn K (.ref f36) = true)
    {od37 an37 : Option Addr} {sl37 : Array (Option Value)} {kV37 oc37 dc37 pm37 cd37 ct37 : Value} {f37 : Addr}
    (a37 : PySem.W.nsIn K mainGlobals "_law_roots" = some (some (.ref f37))) (l37 : K.lookup f37 = some ⟨oc37, od37, .func (PySem.W.fnOf "_law_roots" "_law_roots" (defArgs s_roots) (defBody s_roots) (defScope s_roots) .none kV37 dc37 pm37 an37 cd37 ct37), sl37⟩) (c37 : PySem.W.codeIn K cd37 "_law_roots" = true) (k37 : PySem.W.keepIn K (.ref f37) = true)
    {od38 an38 : Option Addr} {sl38 : Array (Option Value)} {kV38 oc38 dc38 pm38 cd38 ct38 : Value} {f38 : Addr}
    (a38 : PySem.W.nsIn K mainGlobals "_law_a_root" = some (some (.ref f38))) (l38 : K.lookup f38 = some ⟨oc38, od38, .func (PySem.W.fnOf "_law_a_root" "_law_a_root" (defArgs s_a_root) (defBody s_a_root) (defScope s_a_root) .none kV38 dc38 pm38 an38 cd38 ct38), sl38⟩) (c38 : PySem.W.codeIn K cd38 "_law_a_root" = true) (k38 : PySem.W.keepIn K (.ref f38) = true)
    {od39 an39 : Option Addr} {sl39 : Array (Option Value)} {kV39 oc39 dc39 pm39 cd39 ct39 : Value} {f39 : Addr}
    (a39 : PySem.W.nsIn K mainGlobals "_law_any_pair" = some (some (.ref f39))) (l39 : K.lookup f39 = some ⟨oc39, od39, .func (PySem.W.fnOf "_law_any_pair" "_law_any_pair" (defArgs s_any_pair) (defBody s_any_pair) (defScope s_any_pair) .none kV39 dc39 pm39 an39 cd39 ct39), sl39⟩) (c39 : PySem.W.codeIn K cd39 "_law_any_pair" = true) (k39 : PySem.W.keepIn K (.ref f39) = true)
    {od40 an40 : Option Addr} {sl40 : Array (Option Value)} {kV40 oc40 dc40 pm40 cd40 ct40 : Value} {f40 : Addr}
    (a40 : PySem.W.nsIn K mainGlobals "_law_a_number" = some (some (.ref f40))) (l40 : K.lookup f40 = some ⟨oc40, od40, .func (PySem.W.fnOf "_law_a_number" "_law_a_number" (defArgs s_a_number) (defBody s_a_number) (defScope s_a_number) .none kV40 dc40 pm40 an40 cd40 ct40), sl40⟩) (c40 : PySem.W.codeIn K cd40 "_law_a_number" = true) (k40 : PySem.W.keepIn K (.ref f40) = true)
    {od41 an41 : Option Addr} {sl41 : Array (Option Value)} {kV41 oc41 dc41 pm41 cd41 ct41 : Value} {f41 : Addr}
    (a41 : PySem.W.nsIn K mainGlobals "_law_sign" = some (some (.ref f41))) (l41 : K.lookup f41 = some ⟨oc41, od41, .func (PySem.W.fnOf "_law_sign" "_law_sign" (defArgs s_lsign) (defBody s_lsign) (defScope s_lsign) .none kV41 dc41 pm41 an41 cd41 ct41), sl41⟩) (c41 : PySem.W.codeIn K cd41 "_law_sign" = true) (k41 : PySem.W.keepIn K (.ref f41) = true)
    {od42 an42 : Option Addr} {sl42 : Array (Option Value)} {kV42 oc42 dc42 pm42 cd42 ct42 : Value} {f42 : Addr}
    (a42 : PySem.W.nsIn K mainGlobals "_law_a_length" = some (some (.ref f42))) (l42 : K.lookup f42 = some ⟨oc42, od42, .func (PySem.W.fnOf "_law_a_length" "_law_a_length" (defArgs s_a_length) (defBody s_a_length) (defScope s_a_length) .none kV42 dc42 pm42 an42 cd42 ct42), sl42⟩) (c42 : PySem.W.codeIn K cd42 "_law_a_length" = true) (k42 : PySem.W.keepIn K (.ref f42) = true)
    {od43 an43 : Option Addr} {sl43 : Array (Option Value)} {kV43 oc43 dc43 pm43 cd43 ct43 : Value} {f43 : Addr}
    (a43 : PySem.W.nsIn K mainGlobals "_law_a_sheet" = some (some (.ref f43))) (l43 : K.lookup f43 = some ⟨oc43, od43, .func (PySem.W.fnOf "_law_a_sheet" "_law_a_sheet" (defArgs s_a_sheet) (defBody s_a_sheet) (defScope s_a_sheet) .none kV43 dc43 pm43 an43 cd43 ct43), sl43⟩) (c43 : PySem.W.codeIn K cd43 "_law_a_sheet" = true) (k43 : PySem.W.keepIn K (.ref f43) = true)
    {od44 an44 : Option Addr} {sl44 : Array (Option Value)} {kV44 oc44 dc44 pm44 cd44 ct44 : Value} {f44 : Addr}
    (a44 : PySem.W.nsIn K mainGlobals "_law_scaled" = some (some (.ref f44))) (l44 : K.lookup f44 = some ⟨oc44, od44, .func (PySem.W.fnOf "_law_scaled" "_law_scaled" (defArgs s_lscaled) (defBody s_lscaled) (defScope s_lscaled) .none kV44 dc44 pm44 an44 cd44 ct44), sl44⟩) (c44 : PySem.W.codeIn K cd44 "_law_scaled" = true) (k44 : PySem.W.keepIn K (.ref f44) = true)
    {od45 an45 : Option Addr} {sl45 : Array (Option Value)} {kV45 oc45 dc45 pm45 cd45 ct45 : Value} {f45 : Addr}
    (a45 : PySem.W.nsIn K mainGlobals "_law_side_of" = some (some (.ref f45))) (l45 : K.lookup f45 = some ⟨oc45, od45, .func (PySem.W.fnOf "_law_side_of" "_law_side_of" (defArgs s_lside_of) (defBody s_lside_of) (defScope s_lside_of) .none kV45 dc45 pm45 an45 cd45 ct45), sl45⟩) (c45 : PySem.W.codeIn K cd45 "_law_side_of" = true) (k45 : PySem.W.keepIn K (.ref f45) = true)
    {od46 an46 : Option Addr} {sl46 : Array (Option Value)} {kV46 oc46 dc46 pm46 cd46 ct46 : Value} {f46 : Addr}
    (a46 : PySem.W.nsIn K mainGlobals "_law_with" = some (some (.ref f46))) (l46 : K.lookup f46 = some ⟨oc46, od46, .func (PySem.W.fnOf "_law_with" "_law_with" (defArgs s_with) (defBody s_with) (defScope s_with) .none kV46 dc46 pm46 an46 cd46 ct46), sl46⟩) (c46 : PySem.W.codeIn K cd46 "_law_with" = true) (k46 : PySem.W.keepIn K (.ref f46) = true)
    {od47 an47 : Option Addr} {sl47 : Array (Option Value)} {kV47 oc47 dc47 pm47 cd47 ct47 : Value} {f47 : Addr}
    (a47 : PySem.W.nsIn K mainGlobals "_law_any_step" = some (some (.ref f47))) (l47 : K.lookup f47 = some ⟨oc47, od47, .func (PySem.W.fnOf "_law_any_step" "_law_any_step" (defArgs s_any_step) (defBody s_any_step) (defScope s_any_step) .none kV47 dc47 pm47 an47 cd47 ct47), sl47⟩) (c47 : PySem.W.codeIn K cd47 "_law_any_step" = true) (k47 : PySem.W.keepIn K (.ref f47) = true)
    {od48 an48 : Option Addr} {sl48 : Array (Option Value)} {kV48 oc48 dc48 pm48 cd48 ct48 : Value} {f48 : Addr}
    (a48 : PySem.W.nsIn K mainGlobals "_law_like" = some (some (.ref f48))) (l48 : K.lookup f48 = some ⟨oc48, od48, .func (PySem.W.fnOf "_law_like" "_law_like" (defArgs s_like) (defBody s_like) (defScope s_like) .none kV48 dc48 pm48 an48 cd48 ct48), sl48⟩) (c48 : PySem.W.codeIn K cd48 "_law_like" = true) (k48 : PySem.W.keepIn K (.ref f48) = true)
    {od49 an49 : Option Addr} {sl49 : Array (Option Value)} {kV49 oc49 dc49 pm49 cd49 ct49 : Value} {f49 : Addr}
    (a49 : PySem.W.nsIn K mainGlobals "_law_pair_text" = some (some (.ref f49))) (l49 : K.lookup f49 = some ⟨oc49, od49, .func (PySem.W.fnOf "_law_pair_text" "_law_pair_text" (defArgs s_lpair_text) (defBody s_lpair_text) (defScope s_lpair_text) .none kV49 dc49 pm49 an49 cd49 ct49), sl49⟩) (c49 : PySem.W.codeIn K cd49 "_law_pair_text" = true) (k49 : PySem.W.keepIn K (.ref f49) = true)
    {od50 an50 : Option Addr} {sl50 : Array (Option Value)} {kV50 oc50 dc50 pm50 cd50 ct50 : Value} {f50 : Addr}
    (a50 : PySem.W.nsIn K mainGlobals "_law_sheet_text" = some (some (.ref f50))) (l50 : K.lookup f50 = some ⟨oc50, od50, .func (PySem.W.fnOf "_law_sheet_text" "_law_sheet_text" (defArgs s_lsheet_text) (defBody s_lsheet_text) (defScope s_lsheet_text) .none kV50 dc50 pm50 an50 cd50 ct50), sl50⟩) (c50 : PySem.W.codeIn K cd50 "_law_sheet_text" = true) (k50 : PySem.W.keepIn K (.ref f50) = true)
    {od51 an51 : Option Addr} {sl51 : Array (Option Value)} {kV51 oc51 dc51 pm51 cd51 ct51 : Value} {f51 : Addr}
    (a51 : PySem.W.nsIn K mainGlobals "_law_bent_text" = some (some (.ref f51))) (l51 : K.lookup f51 = some ⟨oc51, od51, .func (PySem.W.fnOf "_law_bent_text" "_law_bent_text" (defArgs s_bent_text) (defBody s_bent_text) (defScope s_bent_text) .none kV51 dc51 pm51 an51 cd51 ct51), sl51⟩) (c51 : PySem.W.codeIn K cd51 "_law_bent_text" = true) (k51 : PySem.W.keepIn K (.ref f51) = true)
    {od52 an52 : Option Addr} {sl52 : Array (Option Value)} {kV52 oc52 dc52 pm52 cd52 ct52 : Value} {f52 : Addr}
    (a52 : PySem.W.nsIn K mainGlobals "_law_number_read" = some (some (.ref f52))) (l52 : K.lookup f52 = some ⟨oc52, od52, .func (PySem.W.fnOf "_law_number_read" "_law_number_read" (defArgs s_number_read) (defBody s_number_read) (defScope s_number_read) .none kV52 dc52 pm52 an52 cd52 ct52), sl52⟩) (c52 : PySem.W.codeIn K cd52 "_law_number_read" = true) (k52 : PySem.W.keepIn K (.ref f52) = true)
    {od53 an53 : Option Addr} {sl53 : Array (Option Value)} {kV53 oc53 dc53 pm53 cd53 ct53 : Value} {f53 : Addr}
    (a53 : PySem.W.nsIn K mainGlobals "_law_pair_read" = some (some (.ref f53))) (l53 : K.lookup f53 = some ⟨oc53, od53, .func (PySem.W.fnOf "_law_pair_read" "_law_pair_read" (defArgs s_pair_read) (defBody s_pair_read) (defScope s_pair_read) .none kV53 dc53 pm53 an53 cd53 ct53), sl53⟩) (c53 : PySem.W.codeIn K cd53 "_law_pair_read" = true) (k53 : PySem.W.keepIn K (.ref f53) = true)
    {od54 an54 : Option Addr} {sl54 : Array (Option Value)} {kV54 oc54 dc54 pm54 cd54 ct54 : Value} {f54 : Addr}
    (a54 : PySem.W.nsIn K mainGlobals "_law_sheet_read" = some (some (.ref f54))) (l54 : K.lookup f54 = some ⟨oc54, od54, .func (PySem.W.fnOf "_law_sheet_read" "_law_sheet_read" (defArgs s_sheet_read) (defBody s_sheet_read) (defScope s_sheet_read) .none kV54 dc54 pm54 an54 cd54 ct54), sl54⟩) (c54 : PySem.W.codeIn K cd54 "_law_sheet_read" = true) (k54 : PySem.W.keepIn K (.ref f54) = true)
    {od55 an55 : Option Addr} {sl55 : Array (Option Value)} {kV55 oc55 dc55 pm55 cd55 ct55 : Value} {f55 : Addr}
    (a55 : PySem.W.nsIn K mainGlobals "_law_field_of" = some (some (.ref f55))) (l55 : K.lookup f55 = some ⟨oc55, od55, .func (PySem.W.fnOf "_law_field_of" "_law_field_of" (defArgs s_field_of) (defBody s_field_of) (defScope s_field_of) .none kV55 dc55 pm55 an55 cd55 ct55), sl55⟩) (c55 : PySem.W.codeIn K cd55 "_law_field_of" = true) (k55 : PySem.W.keepIn K (.ref f55) = true)
    {od56 an56 : Option Addr} {sl56 : Array (Option Value)} {kV56 oc56 dc56 pm56 cd56 ct56 : Value} {f56 : Addr}
    (a56 : PySem.W.nsIn K mainGlobals "_law_try" = some (some (.ref f56))) (l56 : K.lookup f56 = some ⟨oc56, od56, .func (PySem.W.fnOf "_law_try" "_law_try" (defArgs s_try) (defBody s_try) (defScope s_try) .none kV56 dc56 pm56 an56 cd56 ct56), sl56⟩) (c56 : PySem.W.codeIn K cd56 "_law_try" = true) (k56 : PySem.W.keepIn K (.ref f56) = true)
    {od57 an57 : Option Addr} {sl57 : Array (Option Value)} {kV57 oc57 dc57 pm57 cd57 ct57 : Value} {f57 : Addr}
    (a57 : PySem.W.nsIn K mainGlobals "_law_is_pair" = some (some (.ref f57))) (l57 : K.lookup f57 = some ⟨oc57, od57, .func (PySem.W.fnOf "_law_is_pair" "_law_is_pair" (defArgs s_lis_pair) (defBody s_lis_pair) (defScope s_lis_pair) .none kV57 dc57 pm57 an57 cd57 ct57), sl57⟩) (c57 : PySem.W.codeIn K cd57 "_law_is_pair" = true) (k57 : PySem.W.keepIn K (.ref f57) = true)
    {od58 an58 : Option Addr} {sl58 : Array (Option Value)} {kV58 oc58 dc58 pm58 cd58 ct58 : Value} {f58 : Addr}
    (a58 : PySem.W.nsIn K mainGlobals "_law_is_pairs" = some (some (.ref f58))) (l58 : K.lookup f58 = some ⟨oc58, od58, .func (PySem.W.fnOf "_law_is_pairs" "_law_is_pairs" (defArgs s_is_pairs) (defBody s_is_pairs) (defScope s_is_pairs) .none kV58 dc58 pm58 an58 cd58 ct58), sl58⟩) (c58 : PySem.W.codeIn K cd58 "_law_is_pairs" = true) (k58 : PySem.W.keepIn K (.ref f58) = true)
    {od59 an59 : Option Addr} {sl59 : Array (Option Value)} {kV59 oc59 dc59 pm59 cd59 ct59 : Value} {f59 : Addr}
    (a59 : PySem.W.nsIn K mainGlobals "_law_at_least" = some (some (.ref f59))) (l59 : K.lookup f59 = some ⟨oc59, od59, .func (PySem.W.fnOf "_law_at_least" "_law_at_least" (defArgs s_at_least) (defBody s_at_least) (defScope s_at_least) .none kV59 dc59 pm59 an59 cd59 ct59), sl59⟩) (c59 : PySem.W.codeIn K cd59 "_law_at_least" = true) (k59 : PySem.W.keepIn K (.ref f59) = true)
    {od60 an60 : Option Addr} {sl60 : Array (Option Value)} {kV60 oc60 dc60 pm60 cd60 ct60 : Value} {f60 : Addr}
    (a60 : PySem.W.nsIn K mainGlobals "_law_good_step" = some (some (.ref f60))) (l60 : K.lookup f60 = some ⟨oc60, od60, .func (PySem.W.fnOf "_law_good_step" "_law_good_step" (defArgs s_good_step) (defBody s_good_step) (defScope s_good_step) .none kV60 dc60 pm60 an60 cd60 ct60), sl60⟩) (c60 : PySem.W.codeIn K cd60 "_law_good_step" = true) (k60 : PySem.W.keepIn K (.ref f60) = true)
    {od61 an61 : Option Addr} {sl61 : Array (Option Value)} {kV61 oc61 dc61 pm61 cd61 ct61 : Value} {f61 : Addr}
    (a61 : PySem.W.nsIn K mainGlobals "_law_step_text" = some (some (.ref f61))) (l61 : K.lookup f61 = some ⟨oc61, od61, .func (PySem.W.fnOf "_law_step_text" "_law_step_text" (defArgs s_lstep_text) (defBody s_lstep_text) (defScope s_lstep_text) .none kV61 dc61 pm61 an61 cd61 ct61), sl61⟩) (c61 : PySem.W.codeIn K cd61 "_law_step_text" = true) (k61 : PySem.W.keepIn K (.ref f61) = true)
    {od62 an62 : Option Addr} {sl62 : Array (Option Value)} {kV62 oc62 dc62 pm62 cd62 ct62 : Value} {f62 : Addr}
    (a62 : PySem.W.nsIn K mainGlobals "_law_step_made" = some (some (.ref f62))) (l62 : K.lookup f62 = some ⟨oc62, od62, .func (PySem.W.fnOf "_law_step_made" "_law_step_made" (defArgs s_step_made) (defBody s_step_made) (defScope s_step_made) .none kV62 dc62 pm62 an62 cd62 ct62), sl62⟩) (c62 : PySem.W.codeIn K cd62 "_law_step_made" = true) (k62 : PySem.W.keepIn K (.ref f62) = true)
    {od63 an63 : Option Addr} {sl63 : Array (Option Value)} {kV63 oc63 dc63 pm63 cd63 ct63 : Value} {f63 : Addr}
    (a63 : PySem.W.nsIn K mainGlobals "_law_step_read" = some (some (.ref f63))) (l63 : K.lookup f63 = some ⟨oc63, od63, .func (PySem.W.fnOf "_law_step_read" "_law_step_read" (defArgs s_step_read) (defBody s_step_read) (defScope s_step_read) .none kV63 dc63 pm63 an63 cd63 ct63), sl63⟩) (c63 : PySem.W.codeIn K cd63 "_law_step_read" = true) (k63 : PySem.W.keepIn K (.ref f63) = true)
    {od64 an64 : Option Addr} {sl64 : Array (Option Value)} {kV64 oc64 dc64 pm64 ct64 : Value} {f64 : Addr}
    (a64 : PySem.W.nsIn K mainGlobals "law" = some (some (.ref f64))) (l64 : K.lookup f64 = some ⟨oc64, od64, .func (PySem.W.fnOf "law" "law" (defArgs s_law) (defBody s_law) (defScope s_law) .none kV64 dc64 pm64 an64 (.ref cL) ct64), sl64⟩) (c64 : PySem.W.codeIn K (.ref cL) "law" = true) (k64 : PySem.W.keepIn K (.ref f64) = true)
    (z0 : PySem.W.nsIn K mainGlobals "ValueError" = some none)
    (z1 : PySem.W.nsIn K mainGlobals "LookupError" = some none)
    (z2 : PySem.W.nsIn K mainGlobals "IndexError" = some none)
    (z3 : PySem.W.nsIn K mainGlobals "enumerate" = some none)
    (z4 : PySem.W.nsIn K mainGlobals "int" = some none)
    (z5 : PySem.W.nsIn K mainGlobals "tuple" = some none)
    (z6 : PySem.W.nsIn K mainGlobals "max" = some none)
    (z7 : PySem.W.nsIn K mainGlobals "isinstance" = some none)
    (z8 : PySem.W.nsIn K mainGlobals "range" = some none)
    (z9 : PySem.W.nsIn K mainGlobals "str" = some none)
    (z10 : PySem.W.nsIn K mainGlobals "sum" = some none)
    (z11 : PySem.W.nsIn K mainGlobals "list" = some none)
    (z12 : PySem.W.nsIn K mainGlobals "bool" = some none)
    (z13 : PySem.W.nsIn K mainGlobals "len" = some none)
    (z14 : PySem.W.nsIn K mainGlobals "all" = some none)
    (z15 : PySem.W.nsIn K mainGlobals "abs" = some none)
    (z16 : PySem.W.nsIn K mainGlobals "sorted" = some none)
    (z17 : PySem.W.nsIn K mainGlobals "zip" = some none)
    {t_GROUP : Tok} (a_GROUP : PySem.W.nsIn K mainGlobals "GROUP" = some (some (.int (10 ^ 64) t_GROUP)))
    {t_MOST_DIGITS : Tok} (a_MOST_DIGITS : PySem.W.nsIn K mainGlobals "MOST_DIGITS" = some (some (.int (20) t_MOST_DIGITS)))
    {u_STEP_SIZES : Addr} {es_STEP_SIZES : Array DictEntry} {n_STEP_SIZES : Nat} (a_STEP_SIZES : PySem.W.nsIn K mainGlobals "STEP_SIZES" = some (some (.ref u_STEP_SIZES))) (kat_STEP_SIZES : K.lookup u_STEP_SIZES = some ⟨.type "dict", none, .dict es_STEP_SIZES n_STEP_SIZES, #[]⟩) (kl_STEP_SIZES : PySem.W.KeysLit w.params es_STEP_SIZES.toList) (klow_STEP_SIZES : (u_STEP_SIZES == sysModules) = false) (li_STEP_SIZES : LitI es_STEP_SIZES.toList [("saw", 9), ("split", 9), ("glue", 11), ("stack", 9), ("turn", 6)])
    {u_SHAPES : Addr} {es_SHAPES : Array DictEntry} {n_SHAPES : Nat} (a_SHAPES : PySem.W.nsIn K mainGlobals "SHAPES" = some (some (.ref u_SHAPES))) (kat_SHAPES : K.lookup u_SHAPES = some ⟨.type "dict", none, .dict es_SHAPES n_SHAPES, #[]⟩) (kl_SHAPES : PySem.W.KeysLit w.params es_SHAPES.toList) (klow_SHAPES : (u_SHAPES == sysModules) = false)
    {p_SHAPES_saw : Addr} {d_SHAPES_saw : Option Addr} {n_SHAPES_saw : Nat} {o_SHAPES_saw : Array (Option Value)} {t0_SHAPES_saw t1_SHAPES_saw t2_SHAPES_saw t3_SHAPES_saw : Tok} (h_SHAPES_saw : PySem.W.nsIn K u_SHAPES "saw" = some (some (.ref p_SHAPES_saw))) (l_SHAPES_saw : K.lookup p_SHAPES_saw = some ⟨.type "tuple", d_SHAPES_saw, .seq #[.str "sheet" t0_SHAPES_saw, .str "side" t1_SHAPES_saw, .str "pair" t2_SHAPES_saw, .str "copies" t3_SHAPES_saw] n_SHAPES_saw, o_SHAPES_saw⟩)
    {p_SHAPES_split : Addr} {d_SHAPES_split : Option Addr} {n_SHAPES_split : Nat} {o_SHAPES_split : Array (Option Value)} {t0_SHAPES_split t1_SHAPES_split t2_SHAPES_split t3_SHAPES_split : Tok} (h_SHAPES_split : PySem.W.nsIn K u_SHAPES "split" = some (some (.ref p_SHAPES_split))) (l_SHAPES_split : K.lookup p_SHAPES_split = some ⟨.type "tuple", d_SHAPES_split, .seq #[.str "sheet" t0_SHAPES_split, .str "side" t1_SHAPES_split, .str "pieces" t2_SHAPES_split, .str "copies" t3_SHAPES_split] n_SHAPES_split, o_SHAPES_split⟩)
    {p_SHAPES_glue : Addr} {d_SHAPES_glue : Option Addr} {n_SHAPES_glue : Nat} {o_SHAPES_glue : Array (Option Value)} {t0_SHAPES_glue t1_SHAPES_glue t2_SHAPES_glue t3_SHAPES_glue : Tok} (h_SHAPES_glue : PySem.W.nsIn K u_SHAPES "glue" = some (some (.ref p_SHAPES_glue))) (l_SHAPES_glue : K.lookup p_SHAPES_glue = some ⟨.type "tuple", d_SHAPES_glue, .seq #[.str "sheet" t0_SHAPES_glue, .str "sheet" t1_SHAPES_glue, .str "side" t2_SHAPES_glue, .str "copies" t3_SHAPES_glue] n_SHAPES_glue, o_SHAPES_glue⟩)
    {p_SHAPES_stack : Addr} {d_SHAPES_stack : Option Addr} {n_SHAPES_stack : Nat} {o_SHAPES_stack : Array (Option Value)} {t0_SHAPES_stack t1_SHAPES_stack t2_SHAPES_stack t3_SHAPES_stack : Tok} (h_SHAPES_stack : PySem.W.nsIn K u_SHAPES "stack" = some (some (.ref p_SHAPES_stack))) (l_SHAPES_stack : K.lookup p_SHAPES_stack = some ⟨.type "tuple", d_SHAPES_stack, .seq #[.str "sheet" t0_SHAPES_stack, .str "side" t1_SHAPES_stack, .str "pieces" t2_SHAPES_stack, .str "copies" t3_SHAPES_stack] n_SHAPES_stack, o_SHAPES_stack⟩)
    {p_SHAPES_turn : Addr} {d_SHAPES_turn : Option Addr} {n_SHAPES_turn : Nat} {o_SHAPES_turn : Array (Option Value)} {t0_SHAPES_turn t1_SHAPES_turn : Tok} (h_SHAPES_turn : PySem.W.nsIn K u_SHAPES "turn" = some (some (.ref p_SHAPES_turn))) (l_SHAPES_turn : K.lookup p_SHAPES_turn = some ⟨.type "tuple", d_SHAPES_turn, .seq #[.str "sheet" t0_SHAPES_turn, .str "copies" t1_SHAPES_turn] n_SHAPES_turn, o_SHAPES_turn⟩)
    (m0_SHAPES : PySem.W.nsIn K u_SHAPES "Saw" = some none)
    {C_Heap : Addr} (aC_Heap : PySem.W.nsIn K mainGlobals "Heap" = some (some (.ref C_Heap))) (rd_Heap : PySem.W.readsIn K C_Heap (.type "type") = true) (gt_Heap : PySem.W.specialIn K (.ref C_Heap) "__getattribute__" = some (some (.builtin "type.__getattribute__")))
    {s_SIDES : Addr} {d_SIDES : Option Addr} {n_SIDES : Nat} {o_SIDES : Array (Option Value)} {t0_SIDES t1_SIDES : Tok} (a_SIDES : PySem.W.findCls K (.ref C_Heap) (.type "type") "SIDES" = some (.val (.ref s_SIDES))) (l_SIDES : K.lookup s_SIDES = some ⟨.type "tuple", d_SIDES, .seq #[.str "across" t0_SIDES, .str "along" t1_SIDES] n_SIDES, o_SIDES⟩)
    (hn : PySem.W.specialIn K (.builtin "object.__class__") "__get__" = some (some (.builtin "getset_descriptor.__get__"))) (ht : PySem.W.takesIn K (.builtin "object.__class__") = some true)
    {CGrainError : Addr} {DGrainError : ClassData} (aGrainError : PySem.W.nsIn K mainGlobals "GrainError" = some (some (.ref CGrainError))) (cGrainError : PySem.W.clsIn K CGrainError = some DGrainError) (nGrainError : DGrainError.name = "GrainError") (tGrainError : PySem.W.typeIn K (.ref CGrainError) = some (.type "type")) (sbGrainError : PySem.W.subIn K (.ref CGrainError) (.type "BaseException") = some true)
    {CGrainMissing : Addr} {DGrainMissing : ClassData} (aGrainMissing : PySem.W.nsIn K mainGlobals "GrainMissing" = some (some (.ref CGrainMissing))) (cGrainMissing : PySem.W.clsIn K CGrainMissing = some DGrainMissing) (nGrainMissing : DGrainMissing.name = "GrainMissing") (tGrainMissing : PySem.W.typeIn K (.ref CGrainMissing) = some (.type "type")) (sbGrainMissing : PySem.W.subIn K (.ref CGrainMissing) (.type "BaseException") = some true)
    (E_BadRoot : ErW PySem.Challenge.pw_grainyard_k64_texts_of_sheets_and_steps K mg "ValueError" "ValueError.__new__" "ValueError.__init__" [.type "ValueError", .type "Exception", .type "BaseException", .type "object"] [.ref CGrainError] i_BadRoot "BadRoot" "BadRoot.__init__" ["word", "number"])
    (E_BadCount : ErW PySem.Challenge.pw_grainyard_k64_texts_of_sheets_and_steps K mg "ValueError" "ValueError.__new__" "ValueError.__init__" [.type "ValueError", .type "Exception", .type "BaseException", .type "object"] [.ref CGrainError] i_BadCount "BadCount" "BadCount.__init__" ["word", "number"])
    (E_BadRow : ErW PySem.Challenge.pw_grainyard_k64_texts_of_sheets_and_steps K mg "ValueError" "ValueError.__new__" "ValueError.__init__" [.type "ValueError", .type "Exception", .type "BaseException", .type "object"] [.ref CGrainError] i_BadRow "BadRow" "BadRow.__init__" ["word", "at"])
    (E_OtherRoot : ErW PySem.Challenge.pw_grainyard_k64_texts_of_sheets_and_steps K mg "ValueError" "ValueError.__new__" "ValueError.__init__" [.type "ValueError", .type "Exception", .type "BaseException", .type "object"] [.ref CGrainError] i_OtherRoot "OtherRoot" "OtherRoot.__init__" ["word"])
    (E_BadStep : ErW PySem.Challenge.pw_grainyard_k64_texts_of_sheets_and_steps K mg "ValueError" "ValueError.__new__" "ValueError.__init__" [.type "ValueError", .type "Exception", .type "BaseException", .type "object"] [.ref CGrainError] i_BadStep "BadStep" "BadStep.__init__" ["word", "at"])
    (E_BadText : ErW PySem.Challenge.pw_grainyard_k64_texts_of_sheets_and_steps K mg "ValueError" "ValueError.__new__" "ValueError.__init__" [.type "ValueError", .type "Exception", .type "BaseException", .type "object"] [.ref CGrainError] i_BadText "BadText" "BadText.__init__" ["word", "at"])
    (E_NoSheet : ErW PySem.Challenge.pw_grainyard_k64_texts_of_sheets_and_steps K mg "LookupError" "LookupError.__new__" "LookupError.__init__" [.type "LookupError", .type "Exception", .type "BaseException", .type "object"] [.ref CGrainMissing] i_NoSheet "NoSheet" "NoSheet.__init__" ["word", "sheet"])
    (E_NothingLeft : ErW PySem.Challenge.pw_grainyard_k64_texts_of_sheets_and_steps K mg "IndexError" "IndexError.__new__" "IndexError.__init__" [.type "IndexError", .type "LookupError", .type "Exception", .type "BaseException", .type "object"] [] i_NothingLeft "NothingLeft" "NothingLeft.__init__" ["word"])
    (tabL : h.get? PL = some { cls := .none, data := .fields #[] }) (noL : K.lookup PL = none) (hdL : PySem.W.codeHdIn K cL PL = true) : LamX.LawAtS l w K CX0 18 63 "_law_script" mg fa h := by
  have e := hfa.symm.trans (PySem.W.mg_of X G a64)
  cases e
  have F0 := fun_mk (st := s_decimal_text) l0 c0 k0
  have b0 := F0.binds (ps := ["number"]) fun _ _ _ _ _ _ us hl => match us, hl with | [_], _ => rfl
  have F1 := fun_mk (st := s_whole_root) l1 c1 k1
  have b1 := F1.binds (ps := ["number"]) fun _ _ _ _ _ _ us hl => match us, hl with | [_], _ => rfl
  have F2 := fun_mk (st := s_is_root) l2 c2 k2
  have b2 := F2.binds (ps := ["number"]) fun _ _ _ _ _ _ us hl => match us, hl with | [_], _ => rfl
  have F3 := fun_mk (st := s_check_root) l3 c3 k3
  have b3 := F3.binds (ps := ["root"]) fun _ _ _ _ _ _ us hl => match us, hl with | [_], _ => rfl
  have F4 := fun_mk (st := s_sign) l4 c4 k4
  have b4 := F4.binds (ps := ["pair", "root"]) fun _ _ _ _ _ _ us hl => match us, hl with | [_, _], _ => rfl
  have F5 := fun_mk (st := s_is_length) l5 c5 k5
  have b5 := F5.binds (ps := ["pair", "root"]) fun _ _ _ _ _ _ us hl => match us, hl with | [_, _], _ => rfl
  have F6 := fun_mk (st := s_is_sheet) l6 c6 k6
  have b6 := F6.binds (ps := ["sheet", "root"]) fun _ _ _ _ _ _ us hl => match us, hl with | [_, _], _ => rfl
  have F7 := fun_mk (st := s_turned) l7 c7 k7
  have b7 := F7.binds (ps := ["sheet"]) fun _ _ _ _ _ _ us hl => match us, hl with | [_], _ => rfl
  have F8 := fun_mk (st := s_check_rows) l8 c8 k8
  have b8 := F8.binds (ps := ["rows", "root"]) fun _ _ _ _ _ _ us hl => match us, hl with | [_, _], _ => rfl
  have F9 := fun_mk (st := s_merged) l9 c9 k9
  have b9 := F9.binds (ps := ["rows"]) fun _ _ _ _ _ _ us hl => match us, hl with | [_], _ => rfl
  have F10 := fun_mk (st := s_check_same_root) l10 c10 k10
  have b10 := F10.binds (ps := ["one", "other"]) fun _ _ _ _ _ _ us hl => match us, hl with | [_, _], _ => rfl
  have F11 := fun_mk (st := s_is_pair) l11 c11 k11
  have b11 := F11.binds (ps := ["item"]) fun _ _ _ _ _ _ us hl => match us, hl with | [_], _ => rfl
  have F12 := fun_mk (st := s_is_two_pairs) l12 c12 k12
  have b12 := F12.binds (ps := ["item"]) fun _ _ _ _ _ _ us hl => match us, hl with | [_], _ => rfl
  have F13 := fun_mk (st := s_fits) l13 c13 k13
  have b13 := F13.binds (ps := ["item", "kind"]) fun _ _ _ _ _ _ us hl => match us, hl with | [_, _], _ => rfl
  have F14 := fun_mk (st := s_has_shape) l14 c14 k14
  have b14 := F14.binds (ps := ["step"]) fun _ _ _ _ _ _ us hl => match us, hl with | [_], _ => rfl
  have F15 := fun_mk (st := s_side_of) l15 c15 k15
  have b15 := F15.binds (ps := ["sheet", "side"]) fun _ _ _ _ _ _ us hl => match us, hl with | [_, _], _ => rfl
  have F16 := fun_mk (st := s_is_even_split) l16 c16 k16
  have b16 := F16.binds (ps := ["step"]) fun _ _ _ _ _ _ us hl => match us, hl with | [_], _ => rfl
  have F17 := fun_mk (st := s_is_even_glue) l17 c17 k17
  have b17 := F17.binds (ps := ["step"]) fun _ _ _ _ _ _ us hl => match us, hl with | [_], _ => rfl
  have F18 := fun_mk (st := s_is_step) l18 c18 k18
  have b18 := F18.binds (ps := ["step"]) fun _ _ _ _ _ _ us hl => match us, hl with | [_], _ => rfl
  have F19 := fun_mk (st := s_check_steps) l19 c19 k19
  have b19 := F19.binds (ps := ["steps"]) fun _ _ _ _ _ _ us hl => match us, hl with | [_], _ => rfl
  have F20 := fun_mk (st := s_pair_text) l20 c20 k20
  have b20 := F20.binds (ps := ["pair"]) fun _ _ _ _ _ _ us hl => match us, hl with | [_], _ => rfl
  have F21 := fun_mk (st := s_sheet_text) l21 c21 k21
  have b21 := F21.binds (ps := ["sheet"]) fun _ _ _ _ _ _ us hl => match us, hl with | [_], _ => rfl
  have F22 := fun_mk (st := s_sawing_text) l22 c22 k22
  have b22 := F22.binds (ps := ["step"]) fun _ _ _ _ _ _ us hl => match us, hl with | [_], _ => rfl
  have F23 := fun_mk (st := s_gluing_text) l23 c23 k23
  have b23 := F23.binds (ps := ["step"]) fun _ _ _ _ _ _ us hl => match us, hl with | [_], _ => rfl
  have F24 := fun_mk (st := s_step_text) l24 c24 k24
  have b24 := F24.binds (ps := ["step"]) fun _ _ _ _ _ _ us hl => match us, hl with | [_], _ => rfl
  have F25 := fun_mk (st := s_read_number) l25 c25 k25
  have b25 := F25.binds (ps := ["text"]) fun _ _ _ _ _ _ us hl => match us, hl with | [_], _ => rfl
  have F26 := fun_mk (st := s_read_numbers) l26 c26 k26
  have b26 := F26.binds (ps := ["texts"]) fun _ _ _ _ _ _ us hl => match us, hl with | [_], _ => rfl
  have F27 := fun_mk (st := s_read_pair) l27 c27 k27
  have b27 := F27.binds (ps := ["text"]) fun _ _ _ _ _ _ us hl => match us, hl with | [_], _ => rfl
  have F28 := fun_mk (st := s_read_sheet) l28 c28 k28
  have b28 := F28.binds (ps := ["text"]) fun _ _ _ _ _ _ us hl => match us, hl with | [_], _ => rfl
  have F29 := fun_mk (st := s_items_of_step) l29 c29 k29
  have b29 := F29.binds (ps := ["words"]) fun _ _ _ _ _ _ us hl => match us, hl with | [_], _ => rfl
  have F30 := fun_mk (st := s_read_step) l30 c30 k30
  have b30 := F30.binds (ps := ["text"]) fun _ _ _ _ _ _ us hl => match us, hl with | [_], _ => rfl
  have F31 := fun_mk (st := s_found_in_text) l31 c31 k31
  have b31 := F31.binds (ps := ["item"]) fun _ _ _ _ _ _ us hl => match us, hl with | [_], _ => rfl
  have F32 := fun_mk (st := s_parse_sheet) l32 c32 k32
  have b32 := F32.binds (ps := ["text"]) fun _ _ _ _ _ _ us hl => match us, hl with | [_], _ => rfl
  have F33 := fun_mk (st := s_parse_step) l33 c33 k33
  have b33 := F33.binds (ps := ["text"]) fun _ _ _ _ _ _ us hl => match us, hl with | [_], _ => rfl
  have F34 := fun_mk (st := s_source) l34 c34 k34
  have b34 := F34.binds (ps := ["_law_script"]) fun _ _ _ _ _ _ us hl => match us, hl with | [_], _ => rfl
  have F35 := fun_mk (st := s_pull) l35 c35 k35
  have b35 := F35.binds (ps := ["_law_bag", "_law_size"]) fun _ _ _ _ _ _ us hl => match us, hl with | [_, _], _ => rfl
  have F36 := fun_mk (st := s_of) l36 c36 k36
  have b36 := F36.binds (ps := ["_law_bag", "_law_some"]) fun _ _ _ _ _ _ us hl => match us, hl with | [_, _], _ => rfl
  have F37 := fun_mk (st := s_roots) l37 c37 k37
  have b37 := F37.binds (ps := []) fun _ _ _ _ _ _ us hl => match us, hl with | [], _ => rfl
  have F38 := fun_mk (st := s_a_root) l38 c38 k38
  have b38 := F38.binds (ps := ["_law_bag"]) fun _ _ _ _ _ _ us hl => match us, hl with | [_], _ => rfl
  have F39 := fun_mk (st := s_any_pair) l39 c39 k39
  have b39 := F39.binds (ps := ["_law_bag"]) fun _ _ _ _ _ _ us hl => match us, hl with | [_], _ => rfl
  have F40 := fun_mk (st := s_a_number) l40 c40 k40
  have b40 := F40.binds (ps := ["_law_bag"]) fun _ _ _ _ _ _ us hl => match us, hl with | [_], _ => rfl
  have F41 := fun_mk (st := s_lsign) l41 c41 k41
  have b41 := F41.binds (ps := ["_law_pair", "_law_root"]) fun _ _ _ _ _ _ us hl => match us, hl with | [_, _], _ => rfl
  have F42 := fun_mk (st := s_a_length) l42 c42 k42
  have b42 := F42.binds (ps := ["_law_bag", "_law_root"]) fun _ _ _ _ _ _ us hl => match us, hl with | [_, _], _ => rfl
  have F43 := fun_mk (st := s_a_sheet) l43 c43 k43
  have b43 := F43.binds (ps := ["_law_bag", "_law_root"]) fun _ _ _ _ _ _ us hl => match us, hl with | [_, _], _ => rfl
  have F44 := fun_mk (st := s_lscaled) l44 c44 k44
  have b44 := F44.binds (ps := ["_law_pair", "_law_number"]) fun _ _ _ _ _ _ us hl => match us, hl with | [_, _], _ => rfl
  have F45 := fun_mk (st := s_lside_of) l45 c45 k45
  have b45 := F45.binds (ps := ["_law_sheet", "_law_side"]) fun _ _ _ _ _ _ us hl => match us, hl with | [_, _], _ => rfl
  have F46 := fun_mk (st := s_with) l46 c46 k46
  have b46 := F46.binds (ps := ["_law_sheet", "_law_side", "_law_pair"]) fun _ _ _ _ _ _ us hl => match us, hl with | [_, _, _], _ => rfl
  have F47 := fun_mk (st := s_any_step) l47 c47 k47
  have b47 := F47.binds (ps := ["_law_bag", "_law_root"]) fun _ _ _ _ _ _ us hl => match us, hl with | [_, _], _ => rfl
  have F48 := fun_mk (st := s_like) l48 c48 k48
  have b48 := F48.binds (ps := ["_law_found", "_law_due"]) fun _ _ _ _ _ _ us hl => match us, hl with | [_, _], _ => rfl
  have F49 := fun_mk (st := s_lpair_text) l49 c49 k49
  have b49 := F49.binds (ps := ["_law_pair"]) fun _ _ _ _ _ _ us hl => match us, hl with | [_], _ => rfl
  have F50 := fun_mk (st := s_lsheet_text) l50 c50 k50
  have b50 := F50.binds (ps := ["_law_sheet"]) fun _ _ _ _ _ _ us hl => match us, hl with | [_], _ => rfl
  have F51 := fun_mk (st := s_bent_text) l51 c51 k51
  have b51 := F51.binds (ps := ["_law_bag", "_law_text_z", "_law_signs"]) fun _ _ _ _ _ _ us hl => match us, hl with | [_, _, _], _ => rfl
  have F52 := fun_mk (st := s_number_read) l52 c52 k52
  have b52 := F52.binds (ps := ["_law_word"]) fun _ _ _ _ _ _ us hl => match us, hl with | [_], _ => rfl
  have F53 := fun_mk (st := s_pair_read) l53 c53 k53
  have b53 := F53.binds (ps := ["_law_text_z"]) fun _ _ _ _ _ _ us hl => match us, hl with | [_], _ => rfl
  have F54 := fun_mk (st := s_sheet_read) l54 c54 k54
  have b54 := F54.binds (ps := ["_law_text_z"]) fun _ _ _ _ _ _ us hl => match us, hl with | [_], _ => rfl
  have F55 := fun_mk (st := s_field_of) l55 c55 k55
  have b55 := F55.binds (ps := ["_law_e"]) fun _ _ _ _ _ _ us hl => match us, hl with | [_], _ => rfl
  have F56 := fun_mk (st := s_try) l56 c56 k56
  have b56 := F56.binds (ps := ["_law_ask"]) fun _ _ _ _ _ _ us hl => match us, hl with | [_], _ => rfl
  have F57 := fun_mk (st := s_lis_pair) l57 c57 k57
  have b57 := F57.binds (ps := ["_law_x"]) fun _ _ _ _ _ _ us hl => match us, hl with | [_], _ => rfl
  have F58 := fun_mk (st := s_is_pairs) l58 c58 k58
  have b58 := F58.binds (ps := ["_law_x"]) fun _ _ _ _ _ _ us hl => match us, hl with | [_], _ => rfl
  have F59 := fun_mk (st := s_at_least) l59 c59 k59
  have b59 := F59.binds (ps := ["_law_x", "_law_least"]) fun _ _ _ _ _ _ us hl => match us, hl with | [_, _], _ => rfl
  have F60 := fun_mk (st := s_good_step) l60 c60 k60
  have b60 := F60.binds (ps := ["_law_step_z"]) fun _ _ _ _ _ _ us hl => match us, hl with | [_], _ => rfl
  have F61 := fun_mk (st := s_lstep_text) l61 c61 k61
  have b61 := F61.binds (ps := ["_law_step_z"]) fun _ _ _ _ _ _ us hl => match us, hl with | [_], _ => rfl
  have F62 := fun_mk (st := s_step_made) l62 c62 k62
  have b62 := F62.binds (ps := ["_law_word", "_law_found"]) fun _ _ _ _ _ _ us hl => match us, hl with | [_, _], _ => rfl
  have F63 := fun_mk (st := s_step_read) l63 c63 k63
  have b63 := F63.binds (ps := ["_law_text_z"]) fun _ _ _ _ _ _ us hl => match us, hl with | [_], _ => rfl
  have F64 := fun_mk (st := s_law) l64 c64 k64
  obtain ⟨T, eSHAPES, eSTEP_SIZES⟩ : ∃ T : Txt K mg, T.u_SHAPES = u_SHAPES ∧ T.u_STEP_SIZES = u_STEP_SIZES := ⟨{
    f_decimal_text := f0
    d_decimal_text := _
    F_decimal_text := F0
    g_decimal_text := PySem.W.mg_of X G a0
    b_decimal_text := b0
    f_whole_root := f1
    d_whole_root := _
    F_whole_root := F1
    g_whole_root := PySem.W.mg_of X G a1
    b_whole_root := b1
    f_is_root := f2
    d_is_root := _
    F_is_root := F2
    g_is_root := PySem.W.mg_of X G a2
    b_is_root := b2
    f_check_root := f3
    d_check_root := _
    F_check_root := F3
    g_check_root := PySem.W.mg_of X G a3
    b_check_root := b3
    f_sign := f4
    d_sign := _
    F_sign := F4
    g_sign := PySem.W.mg_of X G a4
    b_sign := b4
    f_is_length := f5
    d_is_length := _
    F_is_length := F5
    g_is_length := PySem.W.mg_of X G a5
    b_is_length := b5
    f_is_sheet := f6
    d_is_sheet := _
    F_is_sheet := F6
    g_is_sheet := PySem.W.mg_of X G a6
    b_is_sheet := b6
    f_turned := f7
    d_turned := _
    F_turned := F7
    g_turned := PySem.W.mg_of X G a7
    b_turned := b7
    f_check_rows := f8
    d_check_rows := _
    F_check_rows := F8
    g_check_rows := PySem.W.mg_of X G a8
    b_check_rows := b8
    f_merged := f9
    d_merged := _
    F_merged := F9
    g_merged := PySem.W.mg_of X G a9
    b_merged := b9
    f_check_same_root := f10
    d_check_same_root := _
    F_check_same_root := F10
    g_check_same_root := PySem.W.mg_of X G a10
    b_check_same_root := b10
    f_is_pair := f11
    d_is_pair := _
    F_is_pair := F11
    g_is_pair := PySem.W.mg_of X G a11
    b_is_pair := b11
    f_is_two_pairs := f12
    d_is_two_pairs := _
    F_is_two_pairs := F12
    g_is_two_pairs := PySem.W.mg_of X G a12
    b_is_two_pairs := b12
    f_fits := f13
    d_fits := _
    F_fits := F13
    g_fits := PySem.W.mg_of X G a13
    b_fits := b13
    f_has_shape := f14
    d_has_shape := _
    F_has_shape := F14
    g_has_shape := PySem.W.mg_of X G a14
    b_has_shape := b14
    f_side_of := f15
    d_side_of := _
    F_side_of := F15
    g_side_of := PySem.W.mg_of X G a15
    b_side_of := b15
    f_is_even_split := f16
    d_is_even_split := _
    F_is_even_split := F16
    g_is_even_split := PySem.W.mg_of X G a16
    b_is_even_split := b16
    f_is_even_glue := f17
    d_is_even_glue := _
    F_is_even_glue := F17
    g_is_even_glue := PySem.W.mg_of X G a17
    b_is_even_glue := b17
    f_is_step := f18
    d_is_step := _
    F_is_step := F18
    g_is_step := PySem.W.mg_of X G a18
    b_is_step := b18
    f_check_steps := f19
    d_check_steps := _
    F_check_steps := F19
    g_check_steps := PySem.W.mg_of X G a19
    b_check_steps := b19
    f_pair_text := f20
    d_pair_text := _
    F_pair_text := F20
    g_pair_text := PySem.W.mg_of X G a20
    b_pair_text := b20
    f_sheet_text := f21
    d_sheet_text := _
    F_sheet_text := F21
    g_sheet_text := PySem.W.mg_of X G a21
    b_sheet_text := b21
    f_sawing_text := f22
    d_sawing_text := _
    F_sawing_text := F22
    g_sawing_text := PySem.W.mg_of X G a22
    b_sawing_text := b22
    f_gluing_text := f23
    d_gluing_text := _
    F_gluing_text := F23
    g_gluing_text := PySem.W.mg_of X G a23
    b_gluing_text := b23
    f_step_text := f24
    d_step_text := _
    F_step_text := F24
    g_step_text := PySem.W.mg_of X G a24
    b_step_text := b24
    f_read_number := f25
    d_read_number := _
    F_read_number := F25
    g_read_number := PySem.W.mg_of X G a25
    b_read_number := b25
    f_read_numbers := f26
    d_read_numbers := _
    F_read_numbers := F26
    g_read_numbers := PySem.W.mg_of X G a26
    b_read_numbers := b26
    f_read_pair := f27
    d_read_pair := _
    F_read_pair := F27
    g_read_pair := PySem.W.mg_of X G a27
    b_read_pair := b27
    f_read_sheet := f28
    d_read_sheet := _
    F_read_sheet := F28
    g_read_sheet := PySem.W.mg_of X G a28
    b_read_sheet := b28
    f_items_of_step := f29
    d_items_of_step := _
    F_items_of_step := F29
    g_items_of_step := PySem.W.mg_of X G a29
    b_items_of_step := b29
    f_read_step := f30
    d_read_step := _
    F_read_step := F30
    g_read_step := PySem.W.mg_of X G a30
    b_read_step := b30
    f_found_in_text := f31
    d_found_in_text := _
    F_found_in_text := F31
    g_found_in_text := PySem.W.mg_of X G a31
    b_found_in_text := b31
    f_parse_sheet := f32
    d_parse_sheet := _
    F_parse_sheet := F32
    g_parse_sheet := PySem.W.mg_of X G a32
    b_parse_sheet := b32
    f_parse_step := f33
    d_parse_step := _
    F_parse_step := F33
    g_parse_step := PySem.W.mg_of X G a33
    b_parse_step := b33
    f_source := f34
    d_source := _
    F_source := F34
    g_source := PySem.W.mg_of X G a34
    b_source := b34
    f_pull := f35
    d_pull := _
    F_pull := F35
    g_pull := PySem.W.mg_of X G a35
    b_pull := b35
    f_of := f36
    d_of := _
    F_of := F36
    g_of := PySem.W.mg_of X G a36
    b_of := b36
    f_roots := f37
    d_roots := _
    F_roots := F37
    g_roots := PySem.W.mg_of X G a37
    b_roots := b37
    f_a_root := f38
    d_a_root := _
    F_a_root := F38
    g_a_root := PySem.W.mg_of X G a38
    b_a_root := b38
    f_any_pair := f39
    d_any_pair := _
    F_any_pair := F39
    g_any_pair := PySem.W.mg_of X G a39
    b_any_pair := b39
    f_a_number := f40
    d_a_number := _
    F_a_number := F40
    g_a_number := PySem.W.mg_of X G a40
    b_a_number := b40
    f_lsign := f41
    d_lsign := _
    F_lsign := F41
    g_lsign := PySem.W.mg_of X G a41
    b_lsign := b41
    f_a_length := f42
    d_a_length := _
    F_a_length := F42
    g_a_length := PySem.W.mg_of X G a42
    b_a_length := b42
    f_a_sheet := f43
    d_a_sheet := _
    F_a_sheet := F43
    g_a_sheet := PySem.W.mg_of X G a43
    b_a_sheet := b43
    f_lscaled := f44
    d_lscaled := _
    F_lscaled := F44
    g_lscaled := PySem.W.mg_of X G a44
    b_lscaled := b44
    f_lside_of := f45
    d_lside_of := _
    F_lside_of := F45
    g_lside_of := PySem.W.mg_of X G a45
    b_lside_of := b45
    f_with := f46
    d_with := _
    F_with := F46
    g_with := PySem.W.mg_of X G a46
    b_with := b46
    f_any_step := f47
    d_any_step := _
    F_any_step := F47
    g_any_step := PySem.W.mg_of X G a47
    b_any_step := b47
    f_like := f48
    d_like := _
    F_like := F48
    g_like := PySem.W.mg_of X G a48
    b_like := b48
    f_lpair_text := f49
    d_lpair_text := _
    F_lpair_text := F49
    g_lpair_text := PySem.W.mg_of X G a49
    b_lpair_text := b49
    f_lsheet_text := f50
    d_lsheet_text := _
    F_lsheet_text := F50
    g_lsheet_text := PySem.W.mg_of X G a50
    b_lsheet_text := b50
    f_bent_text := f51
    d_bent_text := _
    F_bent_text := F51
    g_bent_text := PySem.W.mg_of X G a51
    b_bent_text := b51
    f_number_read := f52
    d_number_read := _
    F_number_read := F52
    g_number_read := PySem.W.mg_of X G a52
    b_number_read := b52
    f_pair_read := f53
    d_pair_read := _
    F_pair_read := F53
    g_pair_read := PySem.W.mg_of X G a53
    b_pair_read := b53
    f_sheet_read := f54
    d_sheet_read := _
    F_sheet_read := F54
    g_sheet_read := PySem.W.mg_of X G a54
    b_sheet_read := b54
    f_field_of := f55
    d_field_of := _
    F_field_of := F55
    g_field_of := PySem.W.mg_of X G a55
    b_field_of := b55
    f_try := f56
    d_try := _
    F_try := F56
    g_try := PySem.W.mg_of X G a56
    b_try := b56
    f_lis_pair := f57
    d_lis_pair := _
    F_lis_pair := F57
    g_lis_pair := PySem.W.mg_of X G a57
    b_lis_pair := b57
    f_is_pairs := f58
    d_is_pairs := _
    F_is_pairs := F58
    g_is_pairs := PySem.W.mg_of X G a58
    b_is_pairs := b58
    f_at_least := f59
    d_at_least := _
    F_at_least := F59
    g_at_least := PySem.W.mg_of X G a59
    b_at_least := b59
    f_good_step := f60
    d_good_step := _
    F_good_step := F60
    g_good_step := PySem.W.mg_of X G a60
    b_good_step := b60
    f_lstep_text := f61
    d_lstep_text := _
    F_lstep_text := F61
    g_lstep_text := PySem.W.mg_of X G a61
    b_lstep_text := b61
    f_step_made := f62
    d_step_made := _
    F_step_made := F62
    g_step_made := PySem.W.mg_of X G a62
    b_step_made := b62
    f_step_read := f63
    d_step_read := _
    F_step_read := F63
    g_step_read := PySem.W.mg_of X G a63
    b_step_read := b63
    n_ValueError := PySem.W.mg_none_of X G z0
    n_LookupError := PySem.W.mg_none_of X G z1
    n_IndexError := PySem.W.mg_none_of X G z2
    n_enumerate := PySem.W.mg_none_of X G z3
    n_int := PySem.W.mg_none_of X G z4
    n_tuple := PySem.W.mg_none_of X G z5
    n_max := PySem.W.mg_none_of X G z6
    n_isinstance := PySem.W.mg_none_of X G z7
    n_range := PySem.W.mg_none_of X G z8
    n_str := PySem.W.mg_none_of X G z9
    n_sum := PySem.W.mg_none_of X G z10
    n_list := PySem.W.mg_none_of X G z11
    n_bool := PySem.W.mg_none_of X G z12
    n_len := PySem.W.mg_none_of X G z13
    n_all := PySem.W.mg_none_of X G z14
    n_abs := PySem.W.mg_none_of X G z15
    n_sorted := PySem.W.mg_none_of X G z16
    n_zip := PySem.W.mg_none_of X G z17
    kb_step_text_step := kbn_step_text_step F24
    kb_parse_sheet_text := kbn_parse_sheet_text F32
    r_GrainError := CGrainError
    g_GrainError := PySem.W.mg_of X G aGrainError
    c_GrainError := .intro _ ⟨cGrainError,nGrainError⟩
    t_GrainError := tGrainError
    sb_GrainError := sbGrainError
    r_GrainMissing := CGrainMissing
    g_GrainMissing := PySem.W.mg_of X G aGrainMissing
    c_GrainMissing := .intro _ ⟨cGrainMissing,nGrainMissing⟩
    t_GrainMissing := tGrainMissing
    sb_GrainMissing := sbGrainMissing
    e_BadRoot := E_BadRoot.e
    x_BadRoot_word := E_BadRoot.no _ (by simp)
    x_BadRoot_number := E_BadRoot.no _ (by simp)
    e_BadCount := E_BadCount.e
    x_BadCount_word := E_BadCount.no _ (by simp)
    x_BadCount_number := E_BadCount.no _ (by simp)
    e_BadRow := E_BadRow.e
    x_BadRow_word := E_BadRow.no _ (by simp)
    x_BadRow_at := E_BadRow.no _ (by simp)
    e_OtherRoot := E_OtherRoot.e
    x_OtherRoot_word := E_OtherRoot.no _ (by simp)
    e_BadStep := E_BadStep.e
    x_BadStep_word := E_BadStep.no _ (by simp)
    x_BadStep_at := E_BadStep.no _ (by simp)
    e_BadText := E_BadText.e
    x_BadText_word := E_BadText.no _ (by simp)
    x_BadText_at := E_BadText.no _ (by simp)
    e_NoSheet := E_NoSheet.e
    x_NoSheet_word := E_NoSheet.no _ (by simp)
    x_NoSheet_sheet := E_NoSheet.no _ (by simp)
    e_NothingLeft := E_NothingLeft.e
    x_NothingLeft_word := E_NothingLeft.no _ (by simp)
    hn := hn
    ht := ht
    u_GROUP := _
    g_GROUP := PySem.W.mg_of X G a_GROUP
    rv_GROUP := ⟨t_GROUP, rfl⟩
    u_MOST_DIGITS := _
    g_MOST_DIGITS := PySem.W.mg_of X G a_MOST_DIGITS
    rv_MOST_DIGITS := ⟨t_MOST_DIGITS, rfl⟩
    u_STEP_SIZES := u_STEP_SIZES
    g_STEP_SIZES := PySem.W.mg_of X G a_STEP_SIZES
    z_STEP_SIZES := nsI_of kat_STEP_SIZES li_STEP_SIZES
    u_SHAPES := u_SHAPES
    g_SHAPES := PySem.W.mg_of X G a_SHAPES
    p_SHAPES_saw := p_SHAPES_saw
    h_SHAPES_saw := h_SHAPES_saw
    q_SHAPES_saw := fun _ => .inr ⟨_, _, _, l_SHAPES_saw, rfl, rfl, Nat.le_of_lt (small1000 (show 4 ≤ 1000 from of_decide_eq_true rfl)), (.cons ⟨_, rfl⟩ (.cons ⟨_, rfl⟩ (.cons ⟨_, rfl⟩ (.cons ⟨_, rfl⟩ .nil))))⟩
    p_SHAPES_split := p_SHAPES_split
    h_SHAPES_split := h_SHAPES_split
    q_SHAPES_split := fun _ => .inr ⟨_, _, _, l_SHAPES_split, rfl, rfl, Nat.le_of_lt (small1000 (show 4 ≤ 1000 from of_decide_eq_true rfl)), (.cons ⟨_, rfl⟩ (.cons ⟨_, rfl⟩ (.cons ⟨_, rfl⟩ (.cons ⟨_, rfl⟩ .nil))))⟩
    p_SHAPES_glue := p_SHAPES_glue
    h_SHAPES_glue := h_SHAPES_glue
    q_SHAPES_glue := fun _ => .inr ⟨_, _, _, l_SHAPES_glue, rfl, rfl, Nat.le_of_lt (small1000 (show 4 ≤ 1000 from of_decide_eq_true rfl)), (.cons ⟨_, rfl⟩ (.cons ⟨_, rfl⟩ (.cons ⟨_, rfl⟩ (.cons ⟨_, rfl⟩ .nil))))⟩
    p_SHAPES_stack := p_SHAPES_stack
    h_SHAPES_stack := h_SHAPES_stack
    q_SHAPES_stack := fun _ => .inr ⟨_, _, _, l_SHAPES_stack, rfl, rfl, Nat.le_of_lt (small1000 (show 4 ≤ 1000 from of_decide_eq_true rfl)), (.cons ⟨_, rfl⟩ (.cons ⟨_, rfl⟩ (.cons ⟨_, rfl⟩ (.cons ⟨_, rfl⟩ .nil))))⟩
    p_SHAPES_turn := p_SHAPES_turn
    h_SHAPES_turn := h_SHAPES_turn
    q_SHAPES_turn := fun _ => .inr ⟨_, _, _, l_SHAPES_turn, rfl, rfl, Nat.le_of_lt (small1000 (show 2 ≤ 1000 from of_decide_eq_true rfl)), (.cons ⟨_, rfl⟩ (.cons ⟨_, rfl⟩ .nil))⟩
    m0_SHAPES := m0_SHAPES
    C_Heap := C_Heap
    g_Heap := PySem.W.mg_of X G aC_Heap
    cr_Heap := .mk rd_Heap gt_Heap
    s_SIDES := s_SIDES
    cv_SIDES := .mk a_SIDES rfl
    sq_SIDES := fun _ => .inr ⟨_, _, _, l_SIDES, rfl, rfl, Nat.le_of_lt (small1000 (show 2 ≤ 1000 from of_decide_eq_true rfl)), (.cons ⟨_, rfl⟩ (.cons ⟨_, rfl⟩ .nil))⟩ }, rfl, rfl⟩
  refine ⟨PySem.W.fnOf "law" "law" (defArgs s_law) (defBody s_law) (defScope s_law) .none kV64 dc64 pm64 an64 (.ref cL) ct64, [(cL, PL)], spLaw K PL, fun p hp => ?_, fun p hp => ?_, fun p hp => ?_, fun s v => .of_eq rfl, fun H a ns hl _ hP hS => ⟨a, ns, rfl, hS, hl, hP _ (List.mem_singleton.mpr rfl), fun _ => rfl⟩, fun base _ _ TB => ?_⟩
  · rw [List.mem_singleton.mp hp]
    exact tabL
  · rw [List.mem_singleton.mp hp]
    exact noL
  · rw [List.mem_singleton.mp hp]
    exact PySem.W.codeHd_of_K X hdL
  · rw [hprog]
    exact ok_law l64 c64 (TB _ (List.mem_singleton.mpr rfl)) T (by rw [eSHAPES]; exact ⟨_, _, kat_SHAPES, kl_SHAPES, klow_SHAPES⟩) (by rw [eSTEP_SIZES]; exact ⟨_, _, kat_STEP_SIZES, kl_STEP_SIZES, klow_STEP_SIZES⟩)
end Gy
open PySem PySem.W PyProof.Rows
set_option maxRecDepth 100000 in
set_option maxHeartbeats 0 in
theorem PySem.Challenge.cw_grainyard_k64_texts_of_sheets_and_steps_holds : PySem.Challenge.rw_grainyard_k64_texts_of_sheets_and_steps.Holds := by
  w_on; o_law; k_head; (case hw => w_witness2)
  k_fill
  refine LamX.walk_ofTs (l := PySem.Challenge.rw_grainyard_k64_texts_of_sheets_and_steps) (n := 63) (k := 18) (x := "_law_script") (CX := fun _ => L2.CX0) rfl (by decide) rfl ⟨rfl, by decide, by decide⟩ (fun w h Y => PySem.W.km_in_of Y) ?F (fun _ _ _ _ _ h => h)
  case F =>
    intro w mg fa h Y KX G hmg
    have hT := PySem.W.km_tabs_of Y
    refine' Gy.all_mk KX G hmg rfl ?a0 ?l0 ?c0 ?k0 ?a1 ?l1 ?c1 ?k1 ?a2 ?l2 ?c2 ?k2 ?a3 ?l3 ?c3 ?k3 ?a4 ?l4 ?c4 ?k4 ?a5 ?l5 ?c5 ?k5 ?a6 ?l6 ?c6 ?k6 ?a7 ?l7 ?c7 ?k7 ?a8 ?l8 ?c8 ?k8 ?a9 ?l9 ?c9 ?k9 ?a10 ?l10 ?c10 ?k10 ?a11 ?l11 ?c11 ?k11 ?a12 ?l12 ?c12 ?k12 ?a13 ?l13 ?c13 ?k13 ?a14 ?l14 ?c14 ?k14 ?a15 ?l15 ?c15 ?k15 ?a16 ?l16 ?c16 ?k16 ?a17 ?l17 ?c17 ?k17 ?a18 ?l18 ?c18 ?k18 ?a19 ?l19 ?c19 ?k19 ?a20 ?l20 ?c20 ?k20 ?a21 ?l21 ?c21 ?k21 ?a22 ?l22 ?c22 ?k22 ?a23 ?l23 ?c23 ?k23 ?a24 ?l24 ?c24 ?k24 ?a25 ?l25 ?c25 ?k25 ?a26 ?l26 ?c26 ?k26 ?a27 ?l27 ?c27 ?k27 ?a28 ?l28 ?c28 ?k28 ?a29 ?l29 ?c29 ?k29 ?a30 ?l30 ?c30 ?k30 ?a31 ?l31 ?c31 ?k31 ?a32 ?l32 ?c32 ?k32 ?a33 ?l33 ?c33 ?k33 ?a34 ?l34 ?c34 ?k34 ?a35 ?l35 ?c35 ?k35 ?a36 ?l36 ?c36 ?k36 ?a37 ?l37 ?c37 ?k37 ?a38 ?l38 ?c38 ?k38 ?a39 ?l39 ?c39 ?k39 ?a40 ?l40 ?c40 ?k40 ?a41 ?l41 ?c41 ?k41 ?a42 ?l42 ?c42 ?k42 ?a43 ?l43 ?c43 ?k43 ?a44 ?l44 ?c44 ?k44 ?a45 ?l45 ?c45 ?k45 ?a46 ?l46 ?c46 ?k46 ?a47 ?l47 ?c47 ?k47 ?a48 ?l48 ?c48 ?k48 ?a49 ?l49 ?c49 ?k49 ?a50 ?l50 ?c50 ?k50 ?a51 ?l51 ?c51 ?k51 ?a52 ?l52 ?c52 ?k52 ?a53 ?l53 ?c53 ?k53 ?a54 ?l54 ?c54 ?k54 ?a55 ?l55 ?c55 ?k55 ?a56 ?l56 ?c56 ?k56 ?a57 ?l57 ?c57 ?k57 ?a58 ?l58 ?c58 ?k58 ?a59 ?l59 ?c59 ?k59 ?a60 ?l60 ?c60 ?k60 ?a61 ?l61 ?c61 ?k61 ?a62 ?l62 ?c62 ?k62 ?a63 ?l63 ?c63 ?k63 ?a64 ?l64 ?c64 ?k64 ?z0 ?z1 ?z2 ?z3 ?z4 ?z5 ?z6 ?z7 ?z8 ?z9 ?z10 ?z11 ?z12 ?z13 ?z14 ?z15 ?z16 ?z17 ?a_GROUP ?a_MOST_DIGITS ?a_STEP_SIZES ?kat_STEP_SIZES ?kl_STEP_SIZES ?klow_STEP_SIZES ?li_STEP_SIZES ?a_SHAPES ?kat_SHAPES ?kl_SHAPES ?klow_SHAPES ?h_SHAPES_saw ?l_SHAPES_saw ?h_SHAPES_split ?l_SHAPES_split ?h_SHAPES_glue ?l_SHAPES_glue ?h_SHAPES_stack ?l_SHAPES_stack ?h_SHAPES_turn ?l_SHAPES_turn ?m0_SHAPES ?aC_Heap ?rd_Heap ?gt_Heap ?a_SIDES ?l_SIDES ?hn ?ht ?aGrainError ?cGrainError ?nGrainError ?tGrainError ?sbGrainError ?aGrainMissing ?cGrainMissing ?nGrainMissing ?tGrainMissing ?sbGrainMissing ?E_BadRoot ?E_BadCount ?E_BadRow ?E_OtherRoot ?E_BadStep ?E_BadText ?E_NoSheet ?E_NothingLeft ?tabL ?noL ?hdL
    (case a0 => k_is); (case l0 => k_is); (case c0 => k_is); (case k0 => k_is); (case a1 => k_is); (case l1 => k_is); (case c1 => k_is); (case k1 => k_is); (case a2 => k_is); (case l2 => k_is); (case c2 => k_is); (case k2 => k_is); (case a3 => k_is); (case l3 => k_is); (case c3 => k_is); (case k3 => k_is); (case a4 => k_is); (case l4 => k_is); (case c4 => k_is); (case k4 => k_is); (case a5 => k_is); (case l5 => k_is); (case c5 => k_is); (case k5 => k_is); (case a6 => k_is); (case l6 => k_is); (case c6 => k_is); (case k6 => k_is); (case a7 => k_is); (case l7 => k_is); (case c7 => k_is); (case k7 => k_is); (case a8 => k_is); (case l8 => k_is); (case c8 => k_is); (case k8 => k_is); (case a9 => k_is); (case l9 => k_is); (case c9 => k_is); (case k9 => k_is); (case a10 => k_is); (case l10 => k_is); (case c10 => k_is); (case k10 => k_is); (case a11 => k_is); (case l11 => k_is); (case c11 => k_is); (case k11 => k_is); (case a12 => k_is); (case l12 => k_is); (case c12 => k_is); (case k12 => k_is); (case a13 => k_is); (case l13 => k_is); (case c13 => k_is); (case k13 => k_is); (case a14 => k_is); (case l14 => k_is); (case c14 => k_is); (case k14 => k_is); (case a15 => k_is); (case l15 => k_is); (case c15 => k_is); (case k15 => k_is); (case a16 => k_is); (case l16 => k_is); (case c16 => k_is); (case k16 => k_is); (case a17 => k_is); (case l17 => k_is); (case c17 => k_is); (case k17 => k_is); (case a18 => k_is); (case l18 => k_is); (case c18 => k_is); (case k18 => k_is); (case a19 => k_is); (case l19 => k_is); (case c19 => k_is); (case k19 => k_is); (case a20 => k_is); (case l20 => k_is); (case c20 => k_is); (case k20 => k_is); (case a21 => k_is); (case l21 => k_is); (case c21 => k_is); (case k21 => k_is); (case a22 => k_is); (case l22 => k_is); (case c22 => k_is); (case k22 => k_is); (case a23 => k_is); (case l23 => k_is); (case c23 => k_is); (case k23 => k_is); (case a24 => k_is); (case l24 => k_is); (case c24 => k_is); (case k24 => k_is); (case a25 => k_is); (case l25 => k_is); (case c25 => k_is); (case k25 => k_is); (case a26 => k_is); (case l26 => k_is); (case c26 => k_is); (case k26 => k_is); (case a27 => k_is); (case l27 => k_is); (case c27 => k_is); (case k27 => k_is); (case a28 => k_is); (case l28 => k_is); (case c28 => k_is); (case k28 => k_is); (case a29 => k_is); (case l29 => k_is); (case c29 => k_is); (case k29 => k_is); (case a30 => k_is); (case l30 => k_is); (case c30 => k_is); (case k30 => k_is); (case a31 => k_is); (case l31 => k_is); (case c31 => k_is); (case k31 => k_is); (case a32 => k_is); (case l32 => k_is); (case c32 => k_is); (case k32 => k_is); (case a33 => k_is); (case l33 => k_is); (case c33 => k_is); (case k33 => k_is); (case a34 => k_is); (case l34 => k_is); (case c34 => k_is); (case k34 => k_is); (case a35 => k_is); (case l35 => k_is); (case c35 => k_is); (case k35 => k_is); (case a36 => k_is); (case l36 => k_is); (case c36 => k_is); (case k36 => k_is); (case a37 => k_is); (case l37 => k_is); (case c37 => k_is); (case k37 => k_is); (case a38 => k_is); (case l38 => k_is); (case c38 => k_is); (case k38 => k_is); (case a39 => k_is); (case l39 => k_is); (case c39 => k_is); (case k39 => k_is); (case a40 => k_is); (case l40 => k_is); (case c40 => k_is); (case k40 => k_is); (case a41 => k_is); (case l41 => k_is); (case c41 => k_is); (case k41 => k_is); (case a42 => k_is); (case l42 => k_is); (case c42 => k_is); (case k42 => k_is); (case a43 => k_is); (case l43 => k_is); (case c43 => k_is); (case k43 => k_is); (case a44 => k_is); (case l44 => k_is); (case c44 => k_is); (case k44 => k_is); (case a45 => k_is); (case l45 => k_is); (case c45 => k_is); (case k45 => k_is); (case a46 => k_is); (case l46 => k_is); (case c46 => k_is); (case k46 => k_is); (case a47 => k_is); (case l47 => k_is); (case c47 => k_is); (case k47 => k_is); (case a48 => k_is); (case l48 => k_is); (case c48 => k_is); (case k48 => k_is); (case a49 => k_is); (case l49 => k_is); (case c49 => k_is); (case k49 => k_is); (case a50 => k_is); (case l50 => k_is); (case c50 => k_is); (case k50 => k_is); (case a51 => k_is); (case l51 => k_is); (case c51 => k_is); (case k51 => k_is); (case a52 => k_is); (case l52 => k_is); (case c52 => k_is); (case k52 => k_is); (case a53 => k_is); (case l53 => k_is); (case c53 => k_is); (case k53 => k_is); (case a54 => k_is); (case l54 => k_is); (case c54 => k_is); (case k54 => k_is); (case a55 => k_is); (case l55 => k_is); (case c55 => k_is); (case k55 => k_is); (case a56 => k_is); (case l56 => k_is); (case c56 => k_is); (case k56 => k_is); (case a57 => k_is); (case l57 => k_is); (case c57 => k_is); (case k57 => k_is); (case a58 => k_is); (case l58 => k_is); (case c58 => k_is); (case k58 => k_is); (case a59 => k_is); (case l59 => k_is); (case c59 => k_is); (case k59 => k_is); (case a60 => k_is); (case l60 => k_is); (case c60 => k_is); (case k60 => k_is); (case a61 => k_is); (case l61 => k_is); (case c61 => k_is); (case k61 => k_is); (case a62 => k_is); (case l62 => k_is); (case c62 => k_is); (case k62 => k_is); (case a63 => k_is); (case l63 => k_is); (case c63 => k_is); (case k63 => k_is); (case a64 => k_is); (case l64 => k_is); (case c64 => k_is); (case k64 => k_is); (case z0 => k_is); (case z1 => k_is); (case z2 => k_is); (case z3 => k_is); (case z4 => k_is); (case z5 => k_is); (case z6 => k_is); (case z7 => k_is); (case z8 => k_is); (case z9 => k_is); (case z10 => k_is); (case z11 => k_is); (case z12 => k_is); (case z13 => k_is); (case z14 => k_is); (case z15 => k_is); (case z16 => k_is); (case z17 => k_is); (case a_GROUP => k_is); (case a_MOST_DIGITS => k_is); (case a_STEP_SIZES => k_is); (case kat_STEP_SIZES => k_is); (case kl_STEP_SIZES => exact ⟨⟨_, _, rfl, rfl⟩, ⟨⟨_, _, rfl, rfl⟩, ⟨⟨_, _, rfl, rfl⟩, ⟨⟨_, _, rfl, rfl⟩, ⟨⟨_, _, rfl, rfl⟩, trivial⟩⟩⟩⟩⟩); (case klow_STEP_SIZES => first | rfl | decide); (case li_STEP_SIZES => exact ⟨⟨_, rfl⟩, ⟨_, rfl⟩, rfl, ⟨⟨_, rfl⟩, ⟨_, rfl⟩, rfl, ⟨⟨_, rfl⟩, ⟨_, rfl⟩, rfl, ⟨⟨_, rfl⟩, ⟨_, rfl⟩, rfl, ⟨⟨_, rfl⟩, ⟨_, rfl⟩, rfl, trivial⟩⟩⟩⟩⟩); (case a_SHAPES => k_is); (case kat_SHAPES => k_is); (case kl_SHAPES => exact ⟨⟨_, _, rfl, rfl⟩, ⟨⟨_, _, rfl, rfl⟩, ⟨⟨_, _, rfl, rfl⟩, ⟨⟨_, _, rfl, rfl⟩, ⟨⟨_, _, rfl, rfl⟩, trivial⟩⟩⟩⟩⟩); (case klow_SHAPES => first | rfl | decide); (case h_SHAPES_saw => k_is); (case l_SHAPES_saw => k_is); (case h_SHAPES_split => k_is); (case l_SHAPES_split => k_is); (case h_SHAPES_glue => k_is); (case l_SHAPES_glue => k_is); (case h_SHAPES_stack => k_is); (case l_SHAPES_stack => k_is); (case h_SHAPES_turn => k_is); (case l_SHAPES_turn => k_is); (case m0_SHAPES => k_is); (case aC_Heap => k_is); (case rd_Heap => k_is); (case gt_Heap => k_is); (case a_SIDES => k_is); (case l_SIDES => k_is); (case hn => k_is); (case ht => k_is); (case aGrainError => k_is); (case cGrainError => k_is); (case nGrainError => rfl); (case tGrainError => k_is); (case sbGrainError => k_is); (case aGrainMissing => k_is); (case cGrainMissing => k_is); (case nGrainMissing => rfl); (case tGrainMissing => k_is); (case sbGrainMissing => k_is); (case E_BadRoot => refine' Gy.erw2 (P := PySem.Challenge.pw_grainyard_k64_texts_of_sheets_and_steps) KX G ?op ?nsu (by decide +kernel) (by decide +kernel) (by decide +kernel) ?ht rfl rfl (by decide +kernel) (by decide +kernel) (by decide +kernel) (by decide +kernel) ?aC ?lC ?aI ?lI ?cI ?lc ?lco ?sa ?ga ?gt ?kp ?cl ?su ?hvs ?hfi ?x0 ?x1; (case op => k_is); (case nsu => k_is); (case aC => k_is); (case lC => k_is); (case ht => decide +kernel); (case aI => k_is); (case lI => k_is); (case cI => k_is); (case lc => k_is); (case lco => k_is); (case sa => k_is); (case ga => k_is); (case gt => k_is); (case kp => k_is); (case cl => k_is); (case su => first | k_is | ks_is); (case hvs => rfl); (case hfi => decide +kernel); (case x0 => k_is); (case x1 => k_is)); (case E_BadCount => refine' Gy.erw2 (P := PySem.Challenge.pw_grainyard_k64_texts_of_sheets_and_steps) KX G ?op ?nsu (by decide +kernel) (by decide +kernel) (by decide +kernel) ?ht rfl rfl (by decide +kernel) (by decide +kernel) (by decide +kernel) (by decide +kernel) ?aC ?lC ?aI ?lI ?cI ?lc ?lco ?sa ?ga ?gt ?kp ?cl ?su ?hvs ?hfi ?x0 ?x1; (case op => k_is); (case nsu => k_is); (case aC => k_is); (case lC => k_is); (case ht => decide +kernel); (case aI => k_is); (case lI => k_is); (case cI => k_is); (case lc => k_is); (case lco => k_is); (case sa => k_is); (case ga => k_is); (case gt => k_is); (case kp => k_is); (case cl => k_is); (case su => first | k_is | ks_is); (case hvs => rfl); (case hfi => decide +kernel); (case x0 => k_is); (case x1 => k_is)); (case E_BadRow => refine' Gy.erw2 (P := PySem.Challenge.pw_grainyard_k64_texts_of_sheets_and_steps) KX G ?op ?nsu (by decide +kernel) (by decide +kernel) (by decide +kernel) ?ht rfl rfl (by decide +kernel) (by decide +kernel) (by decide +kernel) (by decide +kernel) ?aC ?lC ?aI ?lI ?cI ?lc ?lco ?sa ?ga ?gt ?kp ?cl ?su ?hvs ?hfi ?x0 ?x1; (case op => k_is); (case nsu => k_is); (case aC => k_is); (case lC => k_is); (case ht => decide +kernel); (case aI => k_is); (case lI => k_is); (case cI => k_is); (case lc => k_is); (case lco => k_is); (case sa => k_is); (case ga => k_is); (case gt => k_is); (case kp => k_is); (case cl => k_is); (case su => first | k_is | ks_is); (case hvs => rfl); (case hfi => decide +kernel); (case x0 => k_is); (case x1 => k_is)); (case E_OtherRoot => refine' Gy.erw1 (P := PySem.Challenge.pw_grainyard_k64_texts_of_sheets_and_steps) KX G ?op ?nsu (by decide +kernel) (by decide +kernel) (by decide +kernel) ?ht rfl rfl (by decide +kernel) (by decide +kernel) (by decide +kernel) (by decide +kernel) ?aC ?lC ?aI ?lI ?cI ?lc ?lco ?sa ?ga ?gt ?kp ?cl ?su ?hvs ?hfi ?x0; (case op => k_is); (case nsu => k_is); (case aC => k_is); (case lC => k_is); (case ht => decide +kernel); (case aI => k_is); (case lI => k_is); (case cI => k_is); (case lc => k_is); (case lco => k_is); (case sa => k_is); (case ga => k_is); (case gt => k_is); (case kp => k_is); (case cl => k_is); (case su => first | k_is | ks_is); (case hvs => rfl); (case hfi => decide +kernel); (case x0 => k_is)); (case E_BadStep => refine' Gy.erw2 (P := PySem.Challenge.pw_grainyard_k64_texts_of_sheets_and_steps) KX G ?op ?nsu (by decide +kernel) (by decide +kernel) (by decide +kernel) ?ht rfl rfl (by decide +kernel) (by decide +kernel) (by decide +kernel) (by decide +kernel) ?aC ?lC ?aI ?lI ?cI ?lc ?lco ?sa ?ga ?gt ?kp ?cl ?su ?hvs ?hfi ?x0 ?x1; (case op => k_is); (case nsu => k_is); (case aC => k_is); (case lC => k_is); (case ht => decide +kernel); (case aI => k_is); (case lI => k_is); (case cI => k_is); (case lc => k_is); (case lco => k_is); (case sa => k_is); (case ga => k_is); (case gt => k_is); (case kp => k_is); (case cl => k_is); (case su => first | k_is | ks_is); (case hvs => rfl); (case hfi => decide +kernel); (case x0 => k_is); (case x1 => k_is)); (case E_BadText => refine' Gy.erw2 (P := PySem.Challenge.pw_grainyard_k64_texts_of_sheets_and_steps) KX G ?op ?nsu (by decide +kernel) (by decide +kernel) (by decide +kernel) ?ht rfl rfl (by decide +kernel) (by decide +kernel) (by decide +kernel) (by decide +kernel) ?aC ?lC ?aI ?lI ?cI ?lc ?lco ?sa ?ga ?gt ?kp ?cl ?su ?hvs ?hfi ?x0 ?x1; (case op => k_is); (case nsu => k_is); (case aC => k_is); (case lC => k_is); (case ht => decide +kernel); (case aI => k_is); (case lI => k_is); (case cI => k_is); (case lc => k_is); (case lco => k_is); (case sa => k_is); (case ga => k_is); (case gt => k_is); (case kp => k_is); (case cl => k_is); (case su => first | k_is | ks_is); (case hvs => rfl); (case hfi => decide +kernel); (case x0 => k_is); (case x1 => k_is)); (case E_NoSheet => refine' Gy.erw2 (P := PySem.Challenge.pw_grainyard_k64_texts_of_sheets_and_steps) KX G ?op ?nsu (by decide +kernel) (by decide +kernel) (by decide +kernel) ?ht rfl rfl (by decide +kernel) (by decide +kernel) (by decide +kernel) (by decide +kernel) ?aC ?lC ?aI ?lI ?cI ?lc ?lco ?sa ?ga ?gt ?kp ?cl ?su ?hvs ?hfi ?x0 ?x1; (case op => k_is); (case nsu => k_is); (case aC => k_is); (case lC => k_is); (case ht => decide +kernel); (case aI => k_is); (case lI => k_is); (case cI => k_is); (case lc => k_is); (case lco => k_is); (case sa => k_is); (case ga => k_is); (case gt => k_is); (case kp => k_is); (case cl => k_is); (case su => first | k_is | ks_is); (case hvs => rfl); (case hfi => decide +kernel); (case x0 => k_is); (case x1 => k_is)); (case E_NothingLeft => refine' Gy.erw1 (P := PySem.Challenge.pw_grainyard_k64_texts_of_sheets_and_steps) KX G ?op ?nsu (by decide +kernel) (by decide +kernel) (by decide +kernel) ?ht rfl rfl (by decide +kernel) (by decide +kernel) (by decide +kernel) (by decide +kernel) ?aC ?lC ?aI ?lI ?cI ?lc ?lco ?sa ?ga ?gt ?kp ?cl ?su ?hvs ?hfi ?x0; (case op => k_is); (case nsu => k_is); (case aC => k_is); (case lC => k_is); (case ht => decide +kernel); (case aI => k_is); (case lI => k_is); (case cI => k_is); (case lc => k_is); (case lco => k_is); (case sa => k_is); (case ga => k_is); (case gt => k_is); (case kp => k_is); (case cl => k_is); (case su => first | k_is | ks_is); (case hvs => rfl); (case hfi => decide +kernel); (case x0 => k_is)); (case tabL => exact hT _ List.mem_cons_self); (case noL => kernel_rfl); (case hdL => kernel_rfl)

