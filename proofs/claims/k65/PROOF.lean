import PyProof.Rows.All
import Wide.All
import OpenK.AllK
import Wide.FinOn
import HandS.ForMost
import HandS.Wide
import HandS.WideBits
import HandS.IsInst
import HandS.Defaults
import HandS.Star
import HandS.Evl
import HandS.NoneIn
import HandS.Style
import HandS.SlotsOwn
import HandS.MakeKwOnly
import HandS.ForExc
import HandS.ExcInit
import HandS.MapJoin
import HandS.NestedK
import HandS.Lambda
import HandS.EndTab
import HandS.TryMany
import HandS.HotCalls
import HandS.ExcField
import HandS.ClsMeth
import KE.KExcSuper
import KE.KExcIs
import KE.KOpsOwn
import KE.KNestM
import HandS.Property
import KE.DataEq
import HandS.Deep
import HandS.TupAny
import HandS.Zip
import HandS.Dict
import HandS.More
import HandS.FStr
import HandS.Text
import HandS.RaiseMore
import HandS.DictComp
import HandS.DictTup
import HandS.Conv
import HandS.Comp
import KE.KDictKeyed
import KE.KeyNested
import KE.SortData
import KE.KDictItemsList
import KE.GoesMore
import HandS.Walk
import HandS.StrMore
import HandS.Sort
import HandS.Text
import KE.IntTextText
import KE.GoesEnumKw
import KE.DataCmp
import PySem.Challenge.RW_grainyard_k65_texts_of_heaps
set_option Elab.async false
set_option linter.all false
set_option maxRecDepth 100000
set_option maxHeartbeats 4000000
namespace Gy
open PySem PySem.Spec PyProof.Rows L2
/-! ### an error's fields, wherever its object is pinned -/
section
variable {X : Cx} {a : Addr} {oe : Obj} {cls : Value} {d : Option Addr} {e : Expr} {te : TE} {pos : Pos} {n : Str}
/-- a.f of the error at a whose class is cls and whose dict stands at d -/
def tXfA (K : PySem.W.Frag) (a : Addr) (cls : Value) (d : Option Addr) (f : Str) (te : TE) : TE := fun σ H Q => te σ H fun x H1 => x = .ref a ∧
  ∃ (C dd : Addr) (fs : List (Str × V)) (v : V), cls = .ref C ∧ d = some dd ∧ XfC K C ∧ PySem.W.findIn K (.ref C) f = some none ∧ H1 dd = some (.xd fs) ∧ fs.lookup f = some v ∧ Q v H1
theorem pe_xfG (hp : (a, oe) ∈ X.pn) (hz : Zc cls d oe) (hf : ∃ vs, oe.data = .fields vs) (he : PE X e te) (hb : attributeBase e n X.env (eval e X.env) = eval e X.env := by rfl) : PE X (.Attribute e n pos) (tXfA X.K a cls d n te) := by
  constructor
  intro pins s σ H Q I h
  apply attr_of hb
  refine thn (he.run pins s σ H _ I h) ?_
  rintro u s1 ⟨x, H1, I1, rx, rfl, C, dd, fs, v, rfl, rfl, XC, no, hd, hl, q⟩
  cases (show u = Value.ref a from rx)
  have at_a := (I1.pin (a, oe) (List.mem_append_left _ hp)).1
  obtain ⟨ws, dat⟩ := hf
  obtain ⟨mA, nsA, rel⟩ := (show ObjOk X.prog X.w H1 s1.heap dd (.xd fs) from I1.hok dd _ hd)
  obtain ⟨od, at_d, look⟩ := lookIn_ns nsA
  have rn := rel n
  rw [hl] at rn
  obtain ⟨u', hu', ru'⟩ := RelO.some_of rn
  have inst : PySem.W.InstAt s1.heap a oe C (some od) := by
    refine ⟨at_a, hz.1, ?_, ?_⟩
    · unfold PySem.W.notCls
      rw [dat] <;> rfl
    · rw [hz.2]
      exact at_d
  have found : PySem.W.lookIn n od = some (some u') := by rw [look, hu']
  exact HandSPX.exc_get I1.kIn inst XC.ga XC.gg XC.exC (PySem.W.findObj_own XC.hdC no rfl found) (handed_of ru') ⟨v, H1, I1.tok _, ru', q⟩
end
/-! ### try: .. except x as n: .., several clauses, one of which takes -/
/-- behind a suite its name is gone -/
def Dn (D : Ends) (i : Nat) : Ends := { nx := fun σ H => D.nx (σ.set i none) H, rt := D.rt, bk := fun σ H => D.bk (σ.set i none) H, ct := fun σ H => D.ct (σ.set i none) H }
def wAll (K : PySem.W.Frag) (D : Ends) (i : Nat) : List (Value × (Addr → Value → Option Addr → TS)) → WX
  | [] => fun _ _ _ _ => False
  | (c, ts) :: r => fun cls d σ H => ∃ b, PySem.W.exmOne K cls c = some b ∧ (b = true → ∀ a, H a = none → i < σ.length → ts a cls d (Dn D i) (σ.set i (some (.ref a))) H) ∧ (b = false → wAll K D i r cls d σ H)
inductive AsOk (X : Cx) (n : Str) : List ExceptHandler → List (Value × (Addr → Value → Option Addr → TS)) → Prop
  | nil : AsOk X n [] []
  | cons {x : Str} {c : Value} {ts : Addr → Value → Option Addr → TS} {b0 : Stmt} {su : List Stmt} {np p' : Pos} {hds : List ExceptHandler} {l : List (Value × (Addr → Value → Option Addr → TS))} (nm : Names X x c)
      (ok : ∀ (a : Addr) (oe : Obj) (cls : Value) (d : Option Addr) (pn : List (Addr × Obj)), Zc cls d oe → (∃ vs, oe.data = .fields vs) → PSs (X.suite a ((a, oe) :: pn)) (b0 :: su) (ts a cls d)) (r : AsOk X n hds l) :
      AsOk X n (.ExceptHandler (some (.Name x np)) (some n) (b0 :: su) p' :: hds) ((c, ts) :: l)
theorem not_frame {B h : Heap} {l : List Env} {a : Addr} {o : Obj} {vs : Array Value} (F : h.FunFrames B l) (at_a : h.get? a = some o) (dat : o.data = .fields vs) : a ∉ frs l := by
  intro m
  obtain ⟨_, o2, at2, nf⟩ := F.mem m
  cases at_a.symm.trans at2
  exact nf _ dat
section
variable {X : Cx} {n : Str} {i : Nat} {body : List Stmt} {h0 : ExceptHandler} {hds : List ExceptHandler} {l : List (Value × (Addr → Value → Option Addr → TS))} {pos : Pos} {tb : WX → TS}
theorem ps_tryAs (hs : X.stack = X.env :: X.outer) (hf : X.env.frame = some X.env.locals) (hN : X.N.Nodup) (hi : X.N[i]? = some n) (hln : X.env.kindOf n = some .local)
    (hb : ∀ (W : WX) (pn : List (Addr × Obj)) (xe : Value → Shared → Prop), Takes (X.tr pn xe) W → PassesOwn (model X.prog X.w) X.A X.env xe → PSs (X.tr pn xe) body (tb W))
    (hh : AsOk X n (h0 :: hds) l) : PS X (.Try body (h0 :: hds) [] [] pos) (fun D σ H => tb (wAll X.K D i l) D σ H) := by
  constructor
  intro pins s σ H D I h
  have ok := I.ok
  have frs_ : X.A.frames = some (X.env :: X.outer) := hs ▸ ok.frames
  have run := hb (wAll X.K D i l) (X.pn ++ pins) (fun e t1 => wpAny (model X.prog X.w) X.A (noteFrame e X.env) (fun _ t2 => wpAny (model X.prog X.w) X.A (setFlight e none) (fun _ t3 =>
    wpAny (model X.prog X.w) X.A (handleBy e X.env (h0 :: hds)) (SP X pins D) X.xe t3) X.xe t2) X.xe t1) ?air PassesOwn.looking
  case air =>
    rintro u t ⟨a, B, t0, pins0, σ1, H1, cls, d, rfl, I0, gr, up, sky, na, hos, bare, wish⟩
    have I1 : Inv X pins σ1 H1 t0 := I0.ofTry ok
    rw [show (X.tr (X.pn ++ pins) _).stack = X.env :: X.outer from hs] at sky
    show wpAny (model X.prog X.w) X.A (noteFrame (.ref a) X.env) _ _ _
    apply Sky.land Zc.steady frs_ hf sky
    intro g fly upg
    have Ig : Inv X pins σ1 H1 { t with heap := g } := I1.landed gr fly.1 (up.trans upg) hos bare
    obtain ⟨og, vg, at_g, zg, dg⟩ := fly.there
    have away := not_frame fly.2.2.1 at_g dg
    have awL : a ≠ X.env.locals := by
      intro z
      exact away (List.mem_filterMap.mpr ⟨X.env, List.mem_cons_self, by rw [hf, z]⟩)
    have awF : a ∉ X.fs := by
      intro m
      obtain ⟨en, men, q⟩ := List.mem_filterMap.mp m
      exact away (List.mem_filterMap.mpr ⟨en, List.mem_cons_of_mem _ men, q⟩)
    have Sg := Ig.suite at_g dg na awL awF
    have types : PySem.W.Looks (model X.prog X.w) g (typeOf (.ref a)) cls := by
      intro A' Q' E' t' k q
      apply wpAny_typeOf_ref (k _ _ at_g)
      rw [zg.1]
      exact q
    clear h
    have inside : i < σ1.length := by
      rw [I1.len]
      exact (List.getElem?_eq_some_iff.mp hi).1
    have clauses : ∀ {hs' : List ExceptHandler} {l' : List (Value × (Addr → Value → Option Addr → TS))}, AsOk X n hs' l' → wAll X.K D i l' cls d σ1 H1 → wpAny (model X.prog X.w) X.A (handleBy (.ref a) X.env hs') (SP X pins D) X.xe { t with heap := g } := by
      intro hs' l' A
      induction A with
      | nil => exact fun z => z.elim
      | @cons x c ts b0 su np p' hs2 l2 nm okS rest ih =>
        rintro ⟨b, mt, yes, no⟩
        refine wpAny_handleBy_cons (codeAny_handlers_test ?_) (by intro z; cases z)
        have meets := PySem.W.exm_one (M := model X.prog X.w) Ig.kIn types mt
        have name_ : ∀ {Q' : Value → Shared → Prop} {E' : Value → Shared → Prop}, Q' c { t with heap := g } → wpAny (model X.prog X.w) (X.A.mark (some (.ref a))) (eval (.Name x np) X.env) Q' E' { t with heap := g } := by
          intro Q' E' q
          rcases nm with ⟨gl, ndb, hm | ⟨hm, hv, nn⟩⟩
          · exact ld_glob (X := X.suite a ((a, og) :: (X.pn ++ pins))) Sg gl hm q ndb
          · exact ld_blt (X := X.suite a ((a, og) :: (X.pn ++ pins))) Sg gl hm hv q nn ndb
        apply name_
        apply meets.here
        cases b with
        | false => exact ih (no rfl)
        | true =>
          apply codeAny_handlers_suite_as
          apply HandSPX.lands_againZ fly
          intro k flk upk
          have Ik : Inv X pins σ1 H1 { t with heap := k } := I1.landed gr flk.1 ((up.trans upg).trans upk) hos bare
          obtain ⟨ok_, vk, at_k, zk, dk⟩ := flk.there
          have Sk := Ik.suite at_k dk na awL awF
          apply store_ok (X := X.suite a ((a, ok_) :: (X.pn ++ pins))) (v := .ref a) Sk hN hi (.inl hln) rfl _ (.inr hln)
          intro t5 S5
          have suite := (okS a ok_ cls d (X.pn ++ pins) zk ⟨_, dk⟩).run [] t5 _ H1 _ S5 (yes rfl a na inside)
          refine wpAny_mono suite (fun f t6 out => ?_) (fun _ _ z => z.elim)
          have away_ : ∀ {σ6 : L2.St} {H6 : Hp} {Q' : Shared → Prop}, Inv (X.suite a ((a, ok_) :: (X.pn ++ pins))) [] σ6 H6 t6 → (∀ t7, Inv X pins (σ6.set i none) H6 t7 → Q' t7) →
              wpAny (model X.prog X.w) X.A (do bindName X.env n .none; unbindBehindTheSuite X.env n p') (fun _ t7 => Q' t7) X.xe t6 := by
            intro σ6 H6 Q' S6 q
            exact gone_ok (S6.unsuite ok) hN hi hln q
          cases f with
          | next => obtain ⟨_, _, S6, q6⟩ := out; exact away_ S6 fun _ I7 => ⟨_, _, I7, q6⟩
          | brk => obtain ⟨_, _, S6, q6⟩ := out; exact away_ S6 fun _ I7 => ⟨_, _, I7, q6⟩
          | cont => obtain ⟨_, _, S6, q6⟩ := out; exact away_ S6 fun _ I7 => ⟨_, _, I7, q6⟩
          | ret u => obtain ⟨_, _, _, S6, r6, q6⟩ := out; exact away_ S6 fun _ I7 => ⟨_, _, _, I7, r6, q6⟩
    exact clauses hh wish
  apply wpAny_Try_except
  refine wpAny_mono (run.run [] s σ H D (I.toTry _) h) (fun f t1 out => ?_) (fun _ _ z => z)
  cases f with
  | next => obtain ⟨_, _, I1, q⟩ := out; exact wpAny_execs_nil ⟨_, _, I1.ofTry ok, q⟩
  | brk => obtain ⟨_, _, I1, q⟩ := out; exact ⟨_, _, I1.ofTry ok, q⟩
  | cont => obtain ⟨_, _, I1, q⟩ := out; exact ⟨_, _, I1.ofTry ok, q⟩
  | ret u => obtain ⟨_, _, _, I1, r, q⟩ := out; exact ⟨_, _, _, I1.ofTry ok, r, q⟩
end
/-! ### a def that is called while an error is handled: it raises nothing -/
structure FnP (P : Program) (w : World) (K : PySem.W.Frag) (mg : Str → Option Value) (base : Heap) (k : Nat) (f : Addr) (fd : FuncData) (ps : List Str) (sp : Addr → Value → Option Addr → Sp) : Prop where
  len : ∀ a cls d vs H Q E, sp a cls d vs H Q E → vs.length = ps.length
  run : ∀ (A : Around) (outer : List Env) (s : Shared) (H : Hp) (args : Args) (us : List Value) (vs : List V) (Q : VK) (E : XK) (p : Addr × Obj) (cls : Value) (d : Option Addr), L2H.RoomH k A → L2H.PinOk outer H s p → Zc cls d p.2 → (∃ vs, p.2.data = .fields vs) →
    Env0 P w K mg base A outer s H → BindsTo s fd args (ps.zip us) → Vals vs us → sp p.1 cls d vs H Q E → codeAny (model P w) A (.call (.ref f) args) (CR CX0 outer P w H s Q E) s
theorem fn_ofP {P : Program} {w : World} {K : PySem.W.Frag} {mg : Str → Option Value} {base : Heap} {k : Nat} {f : Addr} {x qual : Str} {st : Stmt} {fd : FuncData} {N ps : List Str} {sp : Addr → Value → Option Addr → Sp} (F : Fun K x qual st f fd) (S : FnScope N ps (defScope st))
    (len : ∀ a cls d vs H Q E, sp a cls d vs H Q E → vs.length = ps.length)
    (body : ∀ (cdv : Value) (A : Around) (outer : List Env) (s : Shared) (H : Hp) (vs : List V) (Q : VK) (E : XK) (p : Addr × Obj) (cls : Value) (d : Option Addr), Zc cls d p.2 → (∃ vs, p.2.data = .fields vs) → L2H.RoomH k (A.deeper (envOfC qual (defScope st) s.heap.objs.size f cdv)) → sp p.1 cls d vs H Q E →
      ∃ t, PSs (L2H.cxH CX0 P w K mg base N qual (defScope st) f cdv A outer s H E p) (defBody st) t ∧ t { nx := fun _ H' => Q .non H', rt := Q } (L2.start N vs) H) : FnP P w K mg base (k + 1) f fd ps sp := by
  obtain ⟨oc, od, kV, doc, pm, an, cdv, ct, osl, rfl, lk, hcd⟩ := F.ex
  constructor
  · exact len
  intro A outer s H args us vs Q E p cls d room pin zc dat e0 bd rv hsp
  have inK : K.In s.heap := e0.mod.kin.keeps fun b o z => (e0.bs b o z).1
  have free_ : s.heap.NoLimit := e0.mod.nolimit.keeps fun b o z => (e0.bs b o z).1
  have kinds : ∀ y ∈ ps.zip us, (defScope st).names.lookup y.1 = some .local ∨ ((defScope st).names.lookup y.1 = some .cell ∧ ((cellsFrom (s.heap.objs.size + 1) (defScope st).names []).lookup y.1).isSome = true) := by
    rintro ⟨y, v⟩ hy
    rcases S.par y (List.of_mem_zip hy).1 with z | z
    · exact .inl z
    · exact .inr ⟨z, PySem.W.cellsFrom_some _ _ _ (.inl z)⟩
  apply codeAny_call_function room.depth (inK _ _ lk) rfl S.co S.gen rfl (PySem.W.codeRec_of inK hcd)
  apply bd
  apply wpAny_newFunctionEnv_cells S.kind kinds
  rintro env rfl s1 inside
  refine ⟨free_.keeps inside.toInCall.keep, codeAny_func ?_⟩
  obtain ⟨t, term, reading⟩ := body cdv A outer s H vs Q E p cls d zc dat (room.deeper _) hsp
  have I := L2H.inv_startH (CX := CX0) (E := E) S pin e0 (len _ _ _ _ _ _ _ hsp) rv inside
  refine wpAny_mono (term.run [] s1 (L2.start N vs) H _ I reading) (fun fl s' out => ?_) fun _ _ z => z
  cases fl with
  | ret u => obtain ⟨v, _, H', J, r, q⟩ := out; exact ⟨v, H', J.os, J.bare, J.base, J.hok, r, q⟩
  | next => obtain ⟨_, H', J, q⟩ := out; exact ⟨.non, H', J.os, J.bare, J.base, J.hok, rfl, q⟩
  | brk => obtain ⟨_, _, _, q⟩ := out; exact q.elim
  | cont => obtain ⟨_, _, _, q⟩ := out; exact q.elim
section
variable {X : Cx} {k : Nat} {f a : Addr} {oe : Obj} {cls : Value} {d : Option Addr} {fd : FuncData} {ps : List Str} {sp : Addr → Value → Option Addr → Sp} {x : Str} {q pos : Pos} {e : Expr} {es : List Expr} {t : TA}
theorem pe_callP (hp : (a, oe) ∈ X.pn) (hz : Zc cls d oe) (hf : ∃ vs, oe.data = .fields vs) (F : FnP X.prog X.w X.K X.mg X.base k f fd ps sp) (hr : L2H.RoomH k X.A) (hg : Gl X x) (hm : X.mg x = some (.ref f)) (hk : PySem.W.keepIn X.K (.ref f) = true) (hb : Binds X.K fd ps [])
    (ha : PA X (e :: es) t) (hdb : (x == ("__debug__" : Str)) = false := by decide) (he : starEach (e :: es) X.env = (false, eval e X.env) :: starEach es X.env := by rfl) (hpl : (backTo pos (starEach es X.env)).any (·.1) = false := by rfl) :
    PE X (.Call (.Name x q) (e :: es) [] pos) (fun σ H Q => t σ H fun vs H1 => sp a cls d vs H1 Q E0) := by
  constructor
  intro pins s σ H Q I h
  apply wpAny_Call_Name_kw
  refine ld_glob I hg hm ?_ hdb
  refine PySem.W.callWith_K (h₀ := X.base) I.ok.mod.kin hk (thn (ha.run pos pins s σ H _ I h) ?_) he hpl
  rintro us s1 ⟨vs, H1, I1, r1, q1⟩
  refine ⟨I1.kIn, ?_⟩
  have ln : (us ++ ([] : List Value)).length = ps.length := by
    rw [List.append_nil, ← r1.length]
    exact F.len _ _ _ _ _ _ _ q1
  have bd := hb s1 us I1.kIn ln
  rw [List.append_nil] at bd
  have P1 := I1.pin (a, oe) (List.mem_append_left _ hp)
  have pin : L2H.PinOk X.stack H1 s1 (a, oe) := by
    refine ⟨P1.1, P1.2.1, fun m => ?_, P1.2.2.2.2⟩
    rcases List.mem_cons.mp (I1.stkSub a m) with z | z
    · exact P1.2.2.1 z
    · exact P1.2.2.2.1 z
  refine wpAny_call (codeAny_mono (F.run X.A X.stack s1 H1 ⟨us, []⟩ us vs Q E0 (a, oe) cls d hr pin hz hf I1.env0 bd r1 q1) fun r s' out => ?_)
  cases r with
  | error z => exact (show False from out).elim
  | ok fl =>
    cases fl with
    | ret u => exact I1.after out
    | next => exact False.elim out
    | brk => exact False.elim out
    | cont => exact False.elim out
end
open NdefX
/-! ### own error classes over a built-in one -/
/-- the built-in base B, its __new__, its __init__, its mro -/
structure ErB (B newId initId : String) (bmB : List Value) : Prop where
  fb : ExcBaseFacts B newId initId bmB
  kx : PySem.W.KxsFacts B initId
  sf : StoreFacts B bmB "object.__setattr__" "object"
theorem erb_VE : ErB "ValueError" "ValueError.__new__" "ValueError.__init__" [.type "ValueError", .type "Exception", .type "BaseException", .type "object"] := ⟨PySem.F.excBase_ValueError, PySem.W.kxs_ValueError, PySem.F.store_ValueError⟩
theorem erb_LE : ErB "LookupError" "LookupError.__new__" "LookupError.__init__" [.type "LookupError", .type "Exception", .type "BaseException", .type "object"] := ⟨PySem.F.excBase_LookupError, PySem.W.kxs_LookupError, PySem.F.store_LookupError⟩
theorem erb_IE : ErB "IndexError" "IndexError.__new__" "IndexError.__init__" [.type "IndexError", .type "LookupError", .type "Exception", .type "BaseException", .type "object"] := ⟨PySem.F.excBase_IndexError, PySem.W.kxs_IndexError, PySem.F.store_IndexError⟩
/-- what stands written of an own error class at C -/
structure ErC (K : PySem.W.Frag) (C : Addr) (newId : String) (bmB : List Value) : Prop where
  cls : ∃ nm q N bs bm sn sub ab col dd k0 k1 k2 k3 k5, K.lookup C = some (excClassObj nm q C N bs bm true sn sub ab col dd k0 k1 k2 k3 k5 newId) ∧ PySem.W.excTail bmB bm = true
  ov : PySem.W.excOver K C bmB = true
  sa : PySem.W.findIn K (.ref C) "__setattr__" = some (some (.builtin "object.__setattr__"))
  ga : PySem.W.findIn K (.ref C) "__getattribute__" = some (some (.builtin "BaseException.__getattribute__"))
  gt : PySem.W.findIn K (.ref C) "__getattr__" = some none
  ex : PySem.W.subIn K (.ref C) (.type "BaseException") = some true
  ty : PySem.W.typeIn K (.ref C) = some (.type "type")
  kp : PySem.W.keepIn K (.ref C) = true
  cl : PySem.W.findIn K (.ref C) "__class__" = some (some (.builtin "object.__class__"))
  ob : PySem.W.mroIn K C (.type "object") = some true
section
variable {pr : Program} {wo : World} {A : Around} {Ex : Value → Shared → Prop} {hh : Heap} {gg : Array GenState} {dr : Drawn} {tt : Nat} {oo : OsState}
variable {nm qn : Str} {C N : Addr} {bs bm bmB : List Value} {hdct : Bool} {sn : List Str} {sub : List Value} {ab : Bool} {col : Option Bool} {dd : Option Addr} {k0 k1 k2 k3 k5 : Option Value} {B newId initId : String}
theorem mw_call (FB : ExcBaseFacts B newId initId bmB) {u e t0 : Addr} {rest : List Value} {Qv : Value → Shared → Prop}
    (hC : hh.get? C = some (excClassObj nm qn C N bs bm hdct sn sub ab col dd k0 k1 k2 k3 k5 newId)) (he : hh.get? e = some (PySem.HandSPX.excO C t0)) (hu : hh.get? u = some (PySem.W.kxs_mw initId e)) (hrest : rest.length ≤ sizeLine)
    (hq : ∀ h' t1, (∀ b o, b ≠ e → hh.get? b = some o → h'.get? b = some o) → h'.get? e = some (PySem.HandSPX.excO C t1) → Qv .none ⟨h', gg, dr, tt, oo⟩) :
    wpAny (model pr wo) A (call (.ref u) rest) Qv Ex ⟨hh, gg, dr, tt, oo⟩ := by
  refine wpAny_call (codeAny_of_tree ?_)
  show wpAny _ A.in1 (callAny (.ref u) ⟨rest, []⟩) _ _ _
  simp only [callAny]
  refine wpAny_bind (wpAny_load hu ?_)
  refine PySem.W.KFB.if_so (show ((Value.type "method-wrapper" == .type "method") || (Value.type "method-wrapper" == .type "builtin_function_or_method") || (Value.type "method-wrapper" == .type "method-wrapper")) = true by decide) ?_
  refine wpAny_bind (PySem.W.check_bound_init FB.toExcCallFacts hC he rfl ?_)
  refine wpAny_bind (wpAny_pure (wpAny_pure ⟨plainId_quiet FB.init.plain _, codeAny_builtin FB.initEntry ?_⟩))
  refine PySem.W.exc_init_tree (cls := .ref C) (t0 := t0) (dv := none) (c2 := .none) (c3 := .none) (b4 := .bool false) he hrest fun h' k e' _ => hq h' _ k e'
end
section
variable {X : Cx} {pins : List (Addr × Obj)} {σ : L2.St} {H : Hp} {s : Shared} {B newId initId : String} {bmB : List Value}
/-! ### self.f = y -/
theorem taker0 {K : PySem.W.Frag} {C : Addr} {f : Str} (h : PySem.W.findIn K (.ref C) f = some none) : PySem.W.takerIn K C f = some none := by
  unfold PySem.W.takerIn
  rw [h]
  rfl
theorem gst_new {a C : Addr} {f : Str} {y : V} {u : Value} {Qu : Unit → Shared → Prop} {Ex : Value → Shared → Prop} {A : Around} (E : ErB B newId initId bmB) (T : ErC X.K C newId bmB) (I : Inv X pins σ H s) (e : H a = some (exo a C none)) (hno : PySem.W.findIn X.K (.ref C) f = some none) (ry : RelV y u)
    (h : ∀ dx s', H dx = none → dx ≠ a → Inv X pins σ (upd (upd H dx (exd dx [(f, y)])) a (exo a C (some dx))) s' → Qu () s') : wpAny (model X.prog X.w) A (setAttr (.ref a) f u) Qu Ex s := by
  obtain ⟨nm, q, N, bs, bm, sn, sub, ab, col, dd, k0, k1, k2, k3, k5, hC, hbm⟩ := T.cls
  have hcl : PySem.W.clsIn X.K C = some { name := nm, bases := bs, mro := .ref C :: bm, ns := N, qualname := q, hasDict := true, slotNames := sn, subclasses := sub, abstract := ab, collection := col, hasDel := false } := by unfold PySem.W.clsIn; rw [hC] <;> rfl
  obtain ⟨t1, ho⟩ := exo_at I.hok e
  obtain ⟨hp, g, d, t, os⟩ := s
  have IA : PySem.W.InstAt hp a (PySem.HandSPX.excO C t1) C none := ⟨ho, rfl, rfl, trivial⟩
  refine PySem.W.set_plain I.kIn IA T.sa ?_
  refine PySem.W.osa_openX E.sf (s := ⟨hp, g, d, _, os⟩) I.kIn IA T.ov (taker0 hno) fun b => ?_
  have hcls : PySem.W.Looks (model X.prog X.w) hp (classData C) _ := PySem.W.looks_clsIn I.kIn hcl
  have hxs : a ≠ hp.objs.size := Nat.ne_of_lt (Heap.lt_size ho)
  show wpAny _ _ (Builtin.ObjectAttr.storeInOwnDict (.ref a) (.ref C) (.str f _) f u b) _ _ _
  unfold Builtin.ObjectAttr.storeInOwnDict Builtin.ObjectAttr.ownDictForStores
  repeat (first | with_reducible refine PySem.HandSPX.store_in_new ?_ ?_ | with_reducible refine wpAny_loadPart_at ho ?_ | with_reducible refine hcls.at ?_ | wp_step)
  · exact ⟨_, #[], _, (Heap.get?_update_ne _ _ _ _ hxs.symm).trans (Heap.get?_push_at rfl rfl), rfl, fun e he => absurd he (by simp), fun _ => rfl⟩
  · intro h' tk' hn' hs
    have hx1 : (hp.push { cls := .type "dict", data := .dict #[] }).get? a = some (PySem.HandSPX.excO C t1) := Heap.get?_push_of_some _ ho
    have k : ∀ b o, b ≠ a → hp.get? b = some o → h'.get? b = some o := fun b o hb ho' => (hs.2 b (Nat.ne_of_lt (Heap.lt_size ho'))).trans ((Heap.get?_update_ne _ _ _ _ hb).trans (Heap.get?_push_of_some _ ho'))
    have hx := (hs.2 a hxs).trans (Heap.get?_update_self _ hx1 rfl)
    have dn := Nat.le_refl hp.objs.size
    have hnd : H hp.objs.size = none := I.hok.fresh dn
    have nd : ∀ {b : Addr} {o : Obj}, hp.get? b = some o → b ≠ hp.objs.size := fun q => Nat.ne_of_lt (Heap.lt_size q)
    have na : ∀ {b : Addr}, H b = none → b ≠ a := fun {b} n z => by
      rw [z, e] at n
      cases n
    have U1 : Un X.fs [] H (upd (upd H hp.objs.size (exd hp.objs.size [(f, y)])) a (exo a C (some hp.objs.size))) hp h' := {
      keep := fun b o q n _ _ => k b o (na n) q
      slot := fun b o q n _ _ => ⟨o.slots, k b o (na n) q⟩
      free := fun b o q n _ => (upd_ne (na n)).trans ((upd_ne (nd q)).trans n)
      there := fun b o q _ => by
        by_cases hb : b = a
        · exact ⟨_, hb ▸ hx⟩
        · exact ⟨o, k b o hb q⟩
      tups := fun b xs q => (upd_ne (at_ne e q exo_tup)).trans ((upd_ne (ne_of_none q hnd)).trans q)
      frzs := fun b o v q => (upd_ne (at_ne e q exo_frz)).trans ((upd_ne (ne_of_none q hnd)).trans q)
      tbls := fun b ps q => ⟨#[], by rw [upd_ne (at_ne e q exo_tbl), upd_ne (ne_of_none q hnd), q]; simp⟩ }
    refine h hp.objs.size _ hnd hxs.symm (I.un (t' := tk') U1 fun b o q => ?_)
    by_cases hb : b = a
    · subst hb
      rw [upd_same] at q
      cases q
      exact exo_ok hx
    · rw [upd_ne hb] at q
      by_cases hd : b = hp.objs.size
      · subst hd
        rw [upd_same] at q
        cases q
        exact exd_ok hn' (relO_put (fs := []) ry fun g => True.intro)
      · rw [upd_ne hd] at q
        refine (I.hok b o q).stay (fun c v hc z => k c v ?_ z) (fun c hc => (upd_ne (at_ne e hc exo_own)).trans ((upd_ne (ne_of_none hc hnd)).trans hc)) fun c xs hc => (upd_ne (at_ne e hc exo_tup)).trans ((upd_ne (ne_of_none hc hnd)).trans hc)
        rcases hc with hc | hc
        · rw [hc]
          exact hb
        · exact at_ne e hc exo_own
theorem gst_old {a C dx : Addr} {f : Str} {y : V} {u : Value} {fs : List (Str × V)} {Qu : Unit → Shared → Prop} {Ex : Value → Shared → Prop} {A : Around} (E : ErB B newId initId bmB) (T : ErC X.K C newId bmB) (I : Inv X pins σ H s) (e : H a = some (exo a C (some dx))) (ed : H dx = some (exd dx fs)) (hl : fs.length ≤ 900)
    (hno : PySem.W.findIn X.K (.ref C) f = some none) (ry : RelV y u) (h : ∀ s', Inv X pins σ (upd H dx (exd dx ((f, y) :: fs))) s' → Qu () s') : wpAny (model X.prog X.w) A (setAttr (.ref a) f u) Qu Ex s := by
  obtain ⟨nm, q, N, bs, bm, sn, sub, ab, col, dd, k0, k1, k2, k3, k5, hC, hbm⟩ := T.cls
  have hcl : PySem.W.clsIn X.K C = some { name := nm, bases := bs, mro := .ref C :: bm, ns := N, qualname := q, hasDict := true, slotNames := sn, subclasses := sub, abstract := ab, collection := col, hasDel := false } := by unfold PySem.W.clsIn; rw [hC] <;> rfl
  obtain ⟨t1, ho⟩ := exo_at I.hok e
  obtain ⟨mA, hns, rel⟩ := exd_at I.hok ed
  have hw := within_of rel
  obtain ⟨hp, g, d, t, os⟩ := s
  obtain ⟨oD, _, _, hoD, _, _⟩ := hns.count hw
  have IA : PySem.W.InstAt hp a { cls := .ref C, dict := some dx, data := .fields #[.ref t1, .none, .none, .none, .bool false, .none] } C (some oD) := ⟨ho, rfl, rfl, hoD⟩
  refine PySem.W.set_plain I.kIn IA T.sa ?_
  refine PySem.W.osa_openX E.sf (s := ⟨hp, g, d, _, os⟩) I.kIn IA T.ov (taker0 hno) fun b => ?_
  have hcls : PySem.W.Looks (model X.prog X.w) hp (classData C) _ := PySem.W.looks_clsIn I.kIn hcl
  show wpAny _ _ (Builtin.ObjectAttr.storeInOwnDict (.ref a) (.ref C) (.str f _) f u b) _ _ _
  unfold Builtin.ObjectAttr.storeInOwnDict Builtin.ObjectAttr.ownDictForStores
  repeat (first | with_reducible refine PySem.OEX.store_in_old hns hw (by rw [List.length_map]; omega) ?_ | with_reducible refine wpAny_loadPart_at ho ?_ | with_reducible refine hcls.at ?_ | wp_step)
  intro h' tk' hn hs
  have k : ∀ b o, b ≠ dx → hp.get? b = some o → h'.get? b = some o := fun b o hb ho' => (hs.2 b hb).trans ho'
  have hd : ∃ o, h'.get? dx = some o := by
    obtain ⟨o, _, _, e', _⟩ := hn
    exact ⟨o, e'⟩
  exact h _ (I.write (t' := tk') (x := dx) (e := dx) (o := exd dx ((f, y) :: fs)) (by rw [ed]; exact True.intro) (.inl rfl) k hd (exd_ok hn (relO_put ry rel)))
def tGst (K : PySem.W.Frag) (newId : String) (bmB : List Value) (f : Str) (to te : TE) : TS := fun D σ H => te σ H fun y H1 => to σ H1 fun x H2 => ∃ a C : Addr, x = .ref a ∧ ErC K C newId bmB ∧ PySem.W.findIn K (.ref C) f = some none ∧
  ((H2 a = some (exo a C none) ∧ ∀ dx, H2 dx = none → dx ≠ a → D.nx σ (upd (upd H2 dx (exd dx [(f, y)])) a (exo a C (some dx)))) ∨
    ∃ (dx : Addr) (fs : List (Str × V)), H2 a = some (exo a C (some dx)) ∧ H2 dx = some (exd dx fs) ∧ fs.length ≤ 900 ∧ D.nx σ (upd H2 dx (exd dx ((f, y) :: fs))))
theorem ps_gst {o e : Expr} {to te : TE} {f : Str} {p' pos : Pos} (E : ErB B newId initId bmB) (ho : PE X o to) (he : PE X e te) (hs : swapsWith e (some (.Attribute o f p')) pos.line X.env = pure false := by rfl) : PS X (.Assign [.Attribute o f p'] e pos) (tGst X.K newId bmB f to te) := by
  refine ⟨fun pins s σ H D I h => ?_⟩
  refine plainObj_wpAny_Assign_Attribute (thn (he.run pins s σ H _ I h) fun v s1 ⟨y, H1, I1, r1, q1⟩ => thn (ho.run pins s1 σ H1 _ I1 q1) fun u s2 ⟨x, H2, I2, r2, a, C, ex, T, hno, q⟩ => ?_) hs
  subst ex
  obtain rfl : u = Value.ref a := r2
  rcases q with ⟨ea, q⟩ | ⟨dx, fs, ea, ed, hl, q⟩
  · exact gst_new E T I2 ea hno r1 fun dx s' n ne J => ⟨σ, _, J, q dx n ne⟩
  · exact gst_old E T I2 ea ed hl hno r1 fun s' J => ⟨σ, _, J, q⟩
end
section
variable {X : Cx} {pins : List (Addr × Obj)} {σ : L2.St} {H : Hp} {s : Shared} {B newId initId : String} {bmB : List Value}
/-! ### super().__init__(text), the first statement of an own error's __init__ -/
/-- a method with super(): its def at f, its code object at c -/
structure SupM (X : Cx) (f c : Addr) (ar : Arg) : Prop where
  fu : X.env.func = some f
  co : X.env.code = .ref c
  fd : ∃ (o : Obj) (fd : FuncData), X.K.lookup f = some o ∧ o.data = .func fd ∧ (fd.params.posonlyargs ++ fd.params.args).head? = some ar
  cd : ∃ (o : Obj) (vs : Array Value) (file : Str) (tk : Tok), X.K.lookup c = some o ∧ o.data = .fields vs ∧ vs[2]? = some (.str file tk) ∧ ((X.prog.main.file : Str) == file) = true
  ks : X.env.kindOf "super" = some .globalImplicit
  kc : X.env.kindOf "__class__" = some .free
  ka : X.env.kindOf ar.arg = some .local
  top : (X.prog.main.scope.names.lookup ("super" : Str)).isSome = false
  no : X.mg "super" = none
  op : PySem.W.nsIn X.K cStatics "thirdparty.any" = some none
theorem sup_stmt {f c a C : Addr} {ar : Arg} {i j : Nat} {body : List Stmt} {m : Str} {n : Nat} {pl : Sem Bool} {p0 p1 p2 p3 p4 p5 : Pos} (E : ErB B newId initId bmB) (T : SupM X f c ar) (O : ErC X.K C newId bmB) (I : Inv X pins σ H s)
    (hi : X.N[i]? = some ar.arg) (hs : σ[i]? = some (some (.ref a))) (hj : X.N[j]? = some ("__class__" : Str)) (hsj : σ[j]? = some (some (.ref C))) (ha : H a = some (exo a C none))
    (hsup : PySem.W.ks_superIn X.K C C "__init__" = some (some (.builtin initId))) (hB : PySem.W.subIn X.K (.ref C) (.type B) = some true) (hDD : PySem.W.mroIn X.K C (.ref C) = some true)
    (he : eval (.Call (.Attribute (.Call (.Name "super" p0) [] [] p1) "__init__" p2) [.Constant (.str m) n p3] [] p4) X.env = (do
      let ov ← attributeBase (.Call (.Name "super" p0) [] [] p1) "__init__" X.env (eval (.Call (.Name "super" p0) [] [] p1) X.env)
      standAt p2.atName
      let (g, first) ← holding [ov] (getMethod ov "__init__" pl)
      callWith p4 g first (backTo p4 (starEach [.Constant (.str m) n p3] X.env)) []))
    (hint : interactive X.env = false) (hsw : swapsWith (.Call (.Attribute (.Call (.Name "super" p0) [] [] p1) "__init__" p2) [.Constant (.str m) n p3] [] p4) none p5.line X.env = pure false) :
    _root_.PySem.wpAt (model X.prog X.w) X.A (.func body X.env) (exec (.Expr (.Call (.Attribute (.Call (.Name "super" p0) [] [] p1) "__init__" p2) [.Constant (.str m) n p3] [] p4) p5) X.env) (fun fl s' => fl = .next ∧ Inv X pins σ H s') X.xe s := by
  refine ks_wpAt_Expr_any ?_ hint hsw
  refine ks_wpAt_MethodCall (pl := pl) ?_ he
  have KX : X.K.In s.heap := I.kIn
  obtain ⟨of, fd, hf, hfd, hp⟩ := T.fd
  obtain ⟨oc, vs, file, tk, hc, hoc, hvs, hfile⟩ := T.cd
  obtain ⟨nm, q, N, bs, bm, sn, sub, ab, col, dd, k0, k1, k2, k3, k5, hC, hbm⟩ := O.cls
  have hcl : PySem.W.clsIn X.K C = some { name := nm, bases := bs, mro := .ref C :: bm, ns := N, qualname := q, hasDict := true, slotNames := sn, subclasses := sub, abstract := ab, collection := col, hasDel := false } := by unfold PySem.W.clsIn; rw [hC] <;> rfl
  obtain ⟨t1, ho⟩ := exo_at I.hok ha
  refine ks_wpAt_super_base (env := X.env) T.ks T.kc (by decide) T.fu (KX _ _ hf) hfd hp T.co (KX _ _ hc) hoc hvs hfile T.top ?_
  obtain ⟨mb, h1, h2⟩ := I.mod.blt
  refine PySem.W.ks_loadName_global I.ok.kind T.ks (Calls.loadGlobal_builtin (by rw [I.ok.glob]; exact I.mod.glob.keeps I.bk) T.no (by rw [I.ok.blt]; exact h1.keeps I.bk) ((h2 "super" (by decide)).trans (by decide +kernel)) ⟨rfl, ?_⟩)
  obtain ⟨mm, hn, hl⟩ := I.loc
  obtain ⟨uc, rc, lc⟩ := hl j _ _ hj hsj (.inr (.inr T.kc))
  obtain ⟨ua, ra, la⟩ := hl i _ _ hi hs (.inl T.ka)
  obtain rfl : uc = Value.ref C := rc
  obtain rfl : ua = Value.ref a := ra
  obtain ⟨cc, hcc, hcell⟩ : ∃ cc, X.env.cells.lookup ("__class__" : Str) = some cc ∧ s.heap.IsCell cc (some (Value.ref C)) := by
    rcases lc with ⟨z, _⟩ | ⟨_, z⟩
    · rw [T.kc] at z
      cases z
    · exact z
  have hma : mm ar.arg = some (Value.ref a) := by
    rcases la with ⟨_, z⟩ | ⟨z, _⟩
    · exact z
    · rw [T.ka] at z
      rcases z with z | z <;> cases z
  refine wpAny_loadName_free I.ok.kind T.kc hcc hcell ?_
  refine wpAny_loadName_local I.ok.kind T.ka hn hma ?_
  have hCh := KX _ _ hC
  refine ks_wpAny_isType_cls hCh rfl ⟨rfl, ?_⟩
  obtain ⟨hp', g, d, t, os⟩ := s
  refine ks_wpAny_call_super hCh rfl ho rfl (fun z e => by cases e) (PySem.W.looks_mroIn KX hDD) fun h1 so kk => ?_
  have I1 : Inv X pins σ H ⟨h1, g, d, t, os⟩ := I.kept (t' := t) kk
  have hin : PySem.W.Looks (model X.prog X.w) h1 (isInstance (.ref a) (.type B)) true := (show PySem.W.InstAt h1 a (PySem.HandSPX.excO C t1) C none from ⟨kk _ _ ho, rfl, rfl, trivial⟩).type.andThen (PySem.W.looks_subIn I1.kIn hB)
  have hsup' := hsup
  unfold PySem.W.ks_superIn at hsup'
  rw [hcl] at hsup'
  refine PySem.W.kxs_getMethod E.kx so (PySem.W.looks_opaque I1.kIn T.op) (l₀ := .ref C :: bm) (fun A Q E s k q => wpAny_bind ((PySem.W.looks_clsIn I1.kIn hcl) A _ E s k (wpAny_pure q))) rfl I1.kIn hsup' hin (fun z => ?_) (by decide) ?_
  · subst z
    rw [show hp'.get? a = _ from hCh] at ho
    cases ho
  have kk2 : ∀ b o, h1.get? b = some o → (h1.push (PySem.W.kxs_mw initId a)).get? b = some o := fun b o e => Heap.get?_push_of_some _ e
  have I2 : Inv X pins σ H ⟨h1.push (PySem.W.kxs_mw initId a), g, d, t + 1, os⟩ := I1.kept (t' := t + 1) kk2
  have hmw : (h1.push (PySem.W.kxs_mw initId a)).get? h1.objs.size = some (PySem.W.kxs_mw initId a) := Heap.get?_push_at rfl rfl
  show wpAny _ _ (callWith p4 (.ref h1.objs.size) [] ((false, eval (.Constant (.str m) n p3) X.env) :: backTo p4 (starEach [] X.env)) []) _ _ _
  refine PySem.W.kxs_callWith (i := initId) (x := a) rfl (PySem.Calls.evalArgs_plain (PySem.Calls.spliced_cons (PySem.Calls.Constant_str (PySem.Calls.spliced_nil ⟨hmw, ?_⟩))))
  show wpAny _ _ (call (.ref h1.objs.size) [.str m (t + 1)]) _ _ _
  refine mw_call E.fb (kk2 _ _ (kk _ _ hCh)) (kk2 _ _ (kk _ _ ho)) hmw (by show 1 ≤ sizeLine; decide) fun h3 t3 k3 e3 => ⟨rfl, ?_⟩
  have J := (I2.tok (t + 1 + 1)).write (h' := h3) (t' := t + 1 + 1) (x := a) (e := a) (o := exo a C none) (by rw [ha]; exact True.intro) (.inl rfl) k3 ⟨_, e3⟩ (exo_ok e3)
  rw [show upd H a (exo a C none) = H from funext fun z => by
    by_cases hz : z = a
    · rw [hz, upd_same, ha]
    · rw [upd_ne hz]] at J
  exact J
end
section
variable {P : Program} {w : World} {K : PySem.W.Frag} {mg : Str → Option Value} {base : Heap} {B newId initId : String} {bmB : List Value}
/-- what stands written of an own error's __init__: its words F, the def at f, its class at C -/
structure IniM (P : Program) (K : PySem.W.Frag) (mg : Str → Option Value) (B newId initId : String) (bmB : List Value) (f C : Addr) (F : NF) (ar : Arg) (doc pm ctv : Value) : Prop where
  lk : ∃ (od : Option Addr) (sl : Array (Option Value)), K.lookup f = some ⟨.type "function", od, .func (F.fd doc pm ctv), sl⟩
  cd : PySem.W.codeIn K (.ref F.c) F.qual = true
  cl : ∃ (cc : Addr) (o : Obj), F.cl = [(("__class__" : Str), cc)] ∧ K.lookup cc = some o ∧ o.data = .cell (some (.ref C))
  hd : (F.params.posonlyargs ++ F.params.args).head? = some ar
  fl : ∃ (o : Obj) (vs : Array Value) (file : Str) (tk : Tok), K.lookup F.c = some o ∧ o.data = .fields vs ∧ vs[2]? = some (.str file tk) ∧ ((P.main.file : Str) == file) = true
  ks : F.scope.names.lookup ("super" : Str) = some .globalImplicit
  kc : F.scope.names.lookup ("__class__" : Str) = some .free
  ka : F.scope.names.lookup ar.arg = some .local
  top : (P.main.scope.names.lookup ("super" : Str)).isSome = false
  no : mg "super" = none
  op : PySem.W.nsIn K cStatics "thirdparty.any" = some none
  ox : ErC K C newId bmB
  su : PySem.W.ks_superIn K C C "__init__" = some (some (.builtin initId))
  sb : PySem.W.subIn K (.ref C) (.type B) = some true
  mr : PySem.W.mroIn K C (.ref C) = some true
theorem init_fn {f C : Addr} {F : NF} {ar : Arg} {doc pm ctv : Value} {N ps : List Str} {k i j n : Nat} {sp : Sp} {m : Str} {p0 p1 p2 p3 p4 p5 : Pos} {rest : List Stmt} {pl : Addr → Sem Bool} (EB : ErB B newId initId bmB) (T : IniM P K mg B newId initId bmB f C F ar doc pm ctv)
    (S : NScope N ps ["__class__"] F.scope) (len : ∀ vs H Q E, sp vs H Q E → vs.length = ps.length) (hi : N[i]? = some ar.arg) (hj : N[j]? = some ("__class__" : Str))
    (hbd : F.body = .Expr (.Call (.Attribute (.Call (.Name "super" p0) [] [] p1) "__init__" p2) [.Constant (.str m) n p3] [] p4) p5 :: rest)
    (hst : ∀ vs H Q E, sp vs H Q E → ∃ a, (startF N vs [some (.ref C)])[i]? = some (some (.ref a)) ∧ (startF N vs [some (.ref C)])[j]? = some (some (.ref C)) ∧ H a = some (exo a C none))
    (hbody : ∀ (A : Around) (outer : List Env) (s : Shared) (H : Hp) (vs : List V) (Q : VK) (E : XK), Room k (A.deeper (envF F f s.heap.objs.size)) → sp vs H Q E →
      ∃ t, PSs (ncx CX0 P w K mg base N F f A outer s H E) rest t ∧ t { nx := fun _ H' => Q .non H', rt := Q } (startF N vs [some (.ref C)]) H)
    (he : ∀ L, eval (.Call (.Attribute (.Call (.Name "super" p0) [] [] p1) "__init__" p2) [.Constant (.str m) n p3] [] p4) (envF F f L) = (do
      let ov ← attributeBase (.Call (.Name "super" p0) [] [] p1) "__init__" (envF F f L) (eval (.Call (.Name "super" p0) [] [] p1) (envF F f L))
      standAt p2.atName
      let (g, first) ← holding [ov] (getMethod ov "__init__" (pl L))
      callWith p4 g first (backTo p4 (starEach [.Constant (.str m) n p3] (envF F f L))) []) := by intro _; rfl)
    (hint : ∀ L, interactive (envF F f L) = false := by intro _; rfl)
    (hsw : ∀ L, swapsWith (.Call (.Attribute (.Call (.Name "super" p0) [] [] p1) "__init__" p2) [.Constant (.str m) n p3] [] p4) none p5.line (envF F f L) = pure false := by intro _; rfl) :
    FnOk P w K mg base CX0 (k + 1) f (F.fd doc pm ctv) ps sp := by
  refine ⟨len, fun A outer s H args us vs Q E hr e0 hb r hsp => ?_⟩
  have KX : K.In s.heap := e0.mod.kin.keeps fun b o e => (e0.bs b o e).1
  have hl := len _ _ _ _ hsp
  have lim : s.heap.NoLimit := e0.mod.nolimit.keeps fun b o e => (e0.bs b o e).1
  obtain ⟨od, sl, lk⟩ := T.lk
  obtain ⟨cc, oc, ecl, lcc, dcc⟩ := T.cl
  refine codeAny_call_function hr.depth (KX _ _ lk) rfl S.co S.gen rfl (PySem.W.codeRec_of KX T.cd) (hb _ _ _ _ ?_)
  refine wpAny_newFunctionEnv S.nocell (fun ⟨x, _⟩ hy => S.par x (List.of_mem_zip hy).1) (fun h1 hns hsb => ⟨lim.fresh _ hsb, ?_⟩) S.kind
  have kp : ∀ b o, s.heap.get? b = some o → h1.get? b = some o := fun b o e => hsb.extBut b o (Nat.ne_of_lt (Heap.lt_size e)) (Heap.get?_push_of_some _ e)
  have CA : CellsAt F.cl ["__class__"] [some (.ref C)] s.heap H := by
    rw [ecl]
    have hc : ∀ (y : Str) (c : Addr), ([(("__class__" : Str), cc)] : List (Str × Addr)).lookup y = some c → c = cc ∧ y = "__class__" := fun y c e => by
      rw [List.lookup_cons] at e
      split at e
      · rename_i z
        exact ⟨(Option.some.inj e).symm, eq_of_beq z⟩
      · cases e
    refine ⟨rfl, fun y c e => ?_, fun x y c e1 e2 => (hc x c e1).2.trans (hc y c e2).2.symm, fun i y e => ?_⟩
    · rw [(hc y c e).1]
      exact ⟨(e0.bs _ _ (e0.mod.kin _ _ lcc)).2, _, oc, KX _ _ lcc, dcc⟩
    · match i, e with
      | 0, e =>
        cases e
        exact ⟨cc, by simp, fun v e => by cases e; exact ⟨_, rfl, oc, KX _ _ lcc, dcc⟩⟩
  have I : Inv (ncx CX0 P w K mg base N F f A outer s H E) [] (startF N vs [some (.ref C)]) H { s with heap := h1, toks := s.toks + (ps.zip us).length } := inv_startN S hr.hd e0 hl r CA hns kp
  obtain ⟨a, s1, s2, ha⟩ := hst _ _ _ _ hsp
  have TM : SupM (ncx CX0 P w K mg base N F f A outer s H E) f F.c ar := ⟨rfl, rfl, ⟨_, _, lk, rfl, T.hd⟩, T.fl, T.ks, T.kc, T.ka, T.top, T.no, T.op⟩
  have fin : ∀ {τ : L2.St} {G : Hp} {v : V} {u : Value} {z : Shared}, Inv (ncx CX0 P w K mg base N F f A outer s H E) [] τ G z → L2.RelV v u → Q v G → CE outer P w H s Q u z :=
    fun J rv q => ⟨_, _, J.os, J.bare, J.base, J.hok, rv, q⟩
  obtain ⟨t, ht, hq⟩ := hbody A outer s H vs Q E (hr.deeper _) hsp
  refine ks_codeAny_funcAt (body := F.body) (env := envF F f s.heap.objs.size) ?_
  rw [hbd]
  refine ks_wpAt_execs_cons (ks_wpAt_mono (sup_stmt (X := ncx CX0 P w K mg base N F f A outer s H E) (i := i) (j := j) EB TM T.ox I hi s1 hj s2 ha T.su T.sb T.mr (he _) (hint _) (hsw _)) (fun fl s' hs => ?_) fun e s' hx => hx)
  obtain ⟨rfl, J⟩ := hs
  refine _root_.PySem.wpAt_of_wpAny (wpAny_mono (ht.run [] s' _ H _ J hq) (fun fl z hz => ?_) fun e s' hx => hx)
  cases fl with
  | ret u =>
    obtain ⟨v5, τ5, G5, J5, r5, q5⟩ := hz
    exact fin J5 r5 q5
  | next =>
    obtain ⟨τ5, G5, J5, q5⟩ := hz
    exact fin (v := V.non) (u := Value.none) J5 rfl q5
  | brk =>
    obtain ⟨_, _, _, q5⟩ := hz
    exact q5.elim
  | cont =>
    obtain ⟨_, _, _, q5⟩ := hz
    exact q5.elim
end
section
variable {X : Cx} {B newId initId : String} {bmB : List Value}
theorem ErC.has {K : PySem.W.Frag} {C : Addr} (T : ErC K C newId bmB) : PySem.W.hasDictIn K C = true ∧ (PySem.W.clsIn K C).isSome = true := by
  obtain ⟨nm, q, N, bs, bm, sn, sub, ab, col, dd, k0, k1, k2, k3, k5, hC, hbm⟩ := T.cls
  have hcl : PySem.W.clsIn K C = some { name := nm, bases := bs, mro := .ref C :: bm, ns := N, qualname := q, hasDict := true, slotNames := sn, subclasses := sub, abstract := ab, collection := col, hasDel := false } := by unfold PySem.W.clsIn; rw [hC] <;> rfl
  exact ⟨by unfold PySem.W.hasDictIn; rw [hcl] <;> rfl, by rw [hcl] <;> rfl⟩
/-! ### C(..): an own error as a value -/
def tMkV (C : Addr) (sp : Sp) (dvs : List V) (ta : TA) : TE := fun σ H Q => ta σ H fun vs H1 => vs.length ≤ 1000 ∧ ∀ a, H1 a = none → sp (.ref a :: (vs ++ dvs)) (upd H1 a (exo a C none)) (fun v H2 => v = .non ∧ Q (.ref a) H2) (fun _ _ _ => False)
theorem run_mkE {CX : CXT} {C fI : Addr} {k : Nat} {fd : FuncData} {ps : List Str} {sp : Sp} {ds : List Value} {dvs vs : List V} {us : List Value} {pins : List (Addr × Obj)} {σ : L2.St} {H1 : Hp} {s1 : Shared} {Q : VK} (E : ErB B newId initId bmB) (T : ErC X.K C newId bmB)
    (iC : PySem.W.findIn X.K (.ref C) "__init__" = some (some (.ref fI))) (tI : PySem.W.typeIn X.K (.ref fI) = some (.type "function")) (F1 : FnOk X.prog X.w X.K X.mg X.base CX k fI fd ps sp) (hr : Room (k + 1) X.A) (hb : Binds X.K fd ps ds) (hd : Vals dvs ds)
    (hx : Passes CX X (fun _ _ _ => False)) (I1 : Inv X pins σ H1 s1) (r1 : Vals vs us) (hz : vs.length ≤ 1000) (q1 : ∀ a, H1 a = none → sp (.ref a :: (vs ++ dvs)) (upd H1 a (exo a C none)) (fun v H2 => v = .non ∧ Q (.ref a) H2) (fun _ _ _ => False)) :
    wpAny (model X.prog X.w) X.A (call (.ref C) us) (EP X pins σ Q) X.xe s1 := by
  obtain ⟨nm, q, N, bs, bm, sn, sub, ab, col, dd, k0, k1, k2, k3, k5, hC, hbm⟩ := T.cls
  obtain ⟨hp, g, dr, tk, os⟩ := s1
  have hsz : hp.objs.size ≤ hp.objs.size + 1 := Nat.le_succ _
  have hq := q1 (hp.objs.size + 1) (I1.hok.fresh hsz)
  have kk : ∀ b o, hp.get? b = some o → ((hp.push (PySem.W.kdv_tup us)).push (PySem.HandSPX.excO C hp.objs.size)).get? b = some o := fun b o e => Heap.get?_push_of_some _ (Heap.get?_push_of_some _ e)
  have hget : ((hp.push (PySem.W.kdv_tup us)).push (PySem.HandSPX.excO C hp.objs.size)).get? (hp.objs.size + 1) = some (PySem.HandSPX.excO C hp.objs.size) := by heap_get
  have I2 : Inv X pins σ (upd H1 (hp.objs.size + 1) (exo (hp.objs.size + 1) C none)) ⟨(hp.push (PySem.W.kdv_tup us)).push (PySem.HandSPX.excO C hp.objs.size), g, dr, tk, os⟩ :=
    I1.laid (t' := tk) kk hsz (exo_ok hget)
  have r2 : Vals (V.ref (hp.objs.size + 1) :: (vs ++ dvs)) (Value.ref (hp.objs.size + 1) :: (us ++ ds)) := .cons rfl (r1.append hd)
  have hl : (Value.ref (hp.objs.size + 1) :: us ++ ds).length = ps.length := r2.length.symm.trans (F1.len _ _ _ _ hq)
  have hus : us.length ≤ sizeLine := by
    rw [← Paired.length r1, sizeLine_eq]
    omega
  refine wpAny_call (PySem.HandSPX.call_own E.fb (fun Y => PySem.W.excTail_contains Y bm hbm) (I1.kIn _ _ hC) (PySem.W.looks_findIn I1.kIn iC) (fun self => PySem.W.bind_fn I1.kIn self tI) hus
    (codeAny_mono (F1.run _ X.stack _ _ ⟨Value.ref (hp.objs.size + 1) :: us, []⟩ (Value.ref (hp.objs.size + 1) :: (us ++ ds)) _ _ (fun _ _ _ => False) (hr.make C us []) (I2.env0.make C us []) (hb _ (Value.ref (hp.objs.size + 1) :: us) I2.kIn hl) r2 hq) fun r s' hq' => ?_))
  match r, hq' with
  | .error er, hq' => exact hx pins σ _ _ er s' I2 hq'
  | .ok (.ret u), hq' =>
    obtain ⟨v, H2, J, rv, ev, q2⟩ := I2.after hq'
    subst ev
    exact ⟨rv, .ref (hp.objs.size + 1), H2, J, rfl, q2⟩
  | .ok .next, hq' => exact False.elim hq'
  | .ok .brk, hq' => exact False.elim hq'
  | .ok .cont, hq' => exact False.elim hq'
variable {CX : CXT} {x : Str} {C fI : Addr} {k : Nat} {fd : FuncData} {ps : List Str} {sp : Sp} {ds : List Value} {dvs : List V} {e : Expr} {es : List Expr} {ta : TA} {te : TE} {p pos : Pos}
theorem pe_mkE (E : ErB B newId initId bmB) (T : ErC X.K C newId bmB) (iC : PySem.W.findIn X.K (.ref C) "__init__" = some (some (.ref fI))) (tI : PySem.W.typeIn X.K (.ref fI) = some (.type "function"))
    (F1 : FnOk X.prog X.w X.K X.mg X.base CX k fI fd ps sp) (hr : Room (k + 1) X.A) (hb : Binds X.K fd ps ds) (hd : Vals dvs ds) (hx : Passes CX X (fun _ _ _ => False)) (hg : Gl X x) (hm : X.mg x = some (.ref C)) (ha : PA X (e :: es) ta)
    (hdb : (x == ("__debug__" : Str)) = false := by decide) (he : starEach (e :: es) X.env = (false, eval e X.env) :: starEach es X.env := by rfl) (hpl : (backTo pos (starEach es X.env)).any (·.1) = false := by rfl) :
    PE X (.Call (.Name x p) (e :: es) [] pos) (tMkV C sp dvs ta) := by
  refine ⟨fun pins s σ H Q I h => ?_⟩
  refine wpAny_Call_Name_kw (ld_glob I hg hm ?_ hdb)
  refine PySem.W.callWith_K (h₀ := X.base) I.ok.mod.kin T.kp (thn (ha.run pos pins s σ H _ I h) fun us s1 ⟨vs, H1, I1, r1, hz, q1⟩ => ⟨I1.kIn, ?_⟩) he hpl
  exact run_mkE E T iC tI F1 hr hb hd hx I1 r1 hz q1
theorem pe_mkE0 (E : ErB B newId initId bmB) (T : ErC X.K C newId bmB) (iC : PySem.W.findIn X.K (.ref C) "__init__" = some (some (.ref fI))) (tI : PySem.W.typeIn X.K (.ref fI) = some (.type "function"))
    (F1 : FnOk X.prog X.w X.K X.mg X.base CX k fI fd ps sp) (hr : Room (k + 1) X.A) (hb : Binds X.K fd ps ds) (hd : Vals dvs ds) (hx : Passes CX X (fun _ _ _ => False)) (hg : Gl X x) (hm : X.mg x = some (.ref C))
    (hdb : (x == ("__debug__" : Str)) = false := by decide) : PE X (.Call (.Name x p) [] [] pos) (tMkV C sp dvs tNil) := by
  refine ⟨fun pins s σ H Q I h => ?_⟩
  refine wpAny_Call_Name_kw (ld_glob I hg hm ?_ hdb)
  exact PySem.W.callWith_K0 I.kIn T.kp (run_mkE (us := []) E T iC tI F1 hr hb hd hx I .nil h.1 h.2)
/-! ### e.f of such a value -/
def tXo (K : PySem.W.Frag) (f : Str) (te : TE) : TE := fun σ H Q => te σ H fun x H1 => ∃ (a C d : Addr) (nw : String) (bm : List Value) (fs : List (Str × V)) (v : V), x = .ref a ∧ H1 a = some (exo a C (some d)) ∧ H1 d = some (exd d fs) ∧ fs.lookup f = some v ∧
  PySem.W.findIn K (.ref C) f = some none ∧ ErC K C nw bm ∧ Q v H1
theorem inst_exo {pins : List (Addr × Obj)} {σ : L2.St} {H : Hp} {s : Shared} {a C d : Addr} {fs : List (Str × V)} (I : Inv X pins σ H s) (ea : H a = some (exo a C (some d))) (ed : H d = some (exd d fs)) :
    ∃ (ox od : Obj) (mA : Str → Option Value), PySem.W.InstAt s.heap a ox C (some od) ∧ (∀ n, PySem.W.lookIn n od = some (mA n)) ∧ ∀ f, RelO (fs.lookup f) (mA f) := by
  obtain ⟨t1, ho⟩ := exo_at I.hok ea
  obtain ⟨mA, hns, rel⟩ := exd_at I.hok ed
  obtain ⟨od, hod, hl⟩ := lookIn_ns hns
  exact ⟨_, od, mA, ⟨ho, rfl, rfl, hod⟩, hl, rel⟩
theorem pe_xo {n : Str} (he : PE X e te) (hb : attributeBase e n X.env (eval e X.env) = eval e X.env := by rfl) : PE X (.Attribute e n pos) (tXo X.K n te) := by
  refine ⟨fun pins s σ H Q I h => ?_⟩
  refine attr_of hb (thn (he.run pins s σ H _ I h) fun u s1 hh => ?_)
  obtain ⟨x, H1, I1, rx, a, C, d, nw, bm, fs, v, ex, ea, ed, l, hno, T, q⟩ := hh
  subst ex
  obtain rfl : u = Value.ref a := rx
  obtain ⟨ox, od, mA, J, hl, rel⟩ := inst_exo I1 ea ed
  obtain ⟨u, hu, ru⟩ := RelO.some_of (v := v) (o := mA n) (l ▸ rel n)
  exact HandSPX.exc_get I1.kIn J T.ga T.gt T.ex (PySem.W.findObj_own T.has.1 hno rfl ((hl n).trans (congrArg some hu))) (handed_of ru) ⟨v, H1, I1.tok _, ru, q⟩
/-! ### isinstance of such a value -/
def rIsO (K : PySem.W.Frag) : List V → Hp → VK → Prop := fun xs H Q => ∃ (a C d : Addr) (nw : String) (bm : List Value) (fs : List (Str × V)) (c : V) (cv : Value) (b : Bool), xs = [.ref a, c] ∧ H a = some (exo a C (some d)) ∧ H d = some (exd d fs) ∧ ErC K C nw bm ∧ ClsV c cv ∧
  PySem.W.kitOne K (.ref C) cv = some b ∧ Q (.bl b) H
theorem call_isO (hn : PySem.W.specialIn X.K (.builtin "object.__class__") "__get__" = some (some (.builtin "getset_descriptor.__get__"))) (ht : PySem.W.takesIn X.K (.builtin "object.__class__") = some true) : CallR X (.builtin "isinstance") (rIsO X.K) := by
  intro pins s σ H xs us Q I r h
  obtain ⟨a, C, d, nw, bm, fs, c, cv, b, rfl, ea, ed, T, hc, e, q⟩ := h
  obtain ⟨u1, u2, rfl, r1, r2⟩ := vals2 r
  have e2 := hc.eq r2
  subst e2
  cases (show u1 = Value.ref a from r1)
  obtain ⟨ox, od, mA, J, _, _⟩ := inst_exo I ea ed
  exact PySem.W.kia_one (PySem.W.kitx_exc T.has.2 T.ga T.gt T.ex T.cl hn ht T.ob) I.kIn J e (fun z => nomatch z) fun tk => ⟨.bl b, H, I.tok tk, rfl, q⟩
end
/-! ### an own error made -/
/-- what __init__ leaves: the object at a with its dict at d -/
def Made (H H' : Hp) (a C d : Addr) (fs : List (Str × V)) : Prop := H d = none ∧ d ≠ a ∧ H' a = some (exo a C (some d)) ∧ H' d = some (exd d fs) ∧ ∀ b o, b ≠ a → H b = some o → H' b = some o
def spIni (C : Addr) (n : Nat) (fs : List V → List (Str × V)) : Sp := fun vs H Q _ => ∃ (a : Addr) (ws : List V), vs = .ref a :: ws ∧ ws.length = n ∧ H a = some (exo a C none) ∧ ∀ d H', Made H H' a C d (fs ws) → Q .non H'
abbrev NFI (st : Stmt) (qual : Str) (cc c : Addr) : NF := ⟨"__init__", qual, defArgs st, defBody st, defScope st, [(("__class__" : Str), cc)], c⟩
theorem made1 {H : Hp} {a C d : Addr} {f : Str} {y : V} (ha : H a = some (exo a C none)) (hd : H d = none) (ne : d ≠ a) : Made H (upd (upd H d (exd d [(f, y)])) a (exo a C (some d))) a C d [(f, y)] :=
  ⟨hd, ne, upd_same, (upd_ne ne).trans upd_same, fun b o hb e => (upd_ne hb).trans ((upd_ne (ne_of_none e hd)).trans e)⟩
theorem made2 {H H' : Hp} {a C d : Addr} {f : Str} {y : V} {fs : List (Str × V)} (m : Made H H' a C d fs) : Made H (upd H' d (exd d ((f, y) :: fs))) a C d ((f, y) :: fs) :=
  ⟨m.1, m.2.1, (upd_ne m.2.1.symm).trans m.2.2.1, upd_same, fun b o hb e => (upd_ne (ne_of_none e m.1)).trans (m.2.2.2.2 b o hb e)⟩
/-- the value x is an error of the class at C with the fields fs -/
def IsE (H : Hp) (C : Addr) (fs : List (Str × V)) (x : V) : Prop := ∃ a d : Addr, x = .ref a ∧ H a = some (exo a C (some d)) ∧ H d = some (exd d fs)
theorem IsE.same {H H' : Hp} {C : Addr} {fs : List (Str × V)} {x : V} (h : IsE H C fs x) (s : Same H H') : IsE H' C fs x := by
  obtain ⟨a, d, rfl, ea, ed⟩ := h
  exact ⟨a, d, rfl, s _ _ ea, s _ _ ed⟩
theorem mkv_use {H1 : Hp} {Q : VK} {C : Addr} {n : Nat} {fs : List V → List (Str × V)} {vs : List V} (hn : vs.length = n) (h0 : n ≤ 1000) (h : ∀ x H', Same H1 H' → IsE H' C (fs vs) x → Q x H') :
    vs.length ≤ 1000 ∧ ∀ a, H1 a = none → spIni C n fs (.ref a :: (vs ++ [])) (upd H1 a (exo a C none)) (fun v H2 => v = .non ∧ Q (.ref a) H2) (fun _ _ _ => False) := by
  refine ⟨by omega, fun a ha => ?_⟩
  rw [List.append_nil]
  refine ⟨a, vs, rfl, hn, upd_same, fun d H2 m => ⟨rfl, h _ _ (fun b o e => ?_) ⟨a, d, rfl, m.2.2.1, m.2.2.2.1⟩⟩⟩
  exact m.2.2.2.2 b o (ne_of_none e ha) ((upd_ne (ne_of_none e ha)).trans e)
/-- the class nm, an own error over B: its mro behind itself is pre and then bmB -/
structure Er (P : Program) (K : PySem.W.Frag) (mg : Str → Option Value) (B newId initId : String) (bmB pre : List Value) (st : Stmt) (nm qual : Str) where
  C : Addr
  f : Addr
  cc : Addr
  c : Addr
  ar : Arg
  doc : Value
  pm : Value
  ctv : Value
  T : IniM P K mg B newId initId bmB f C (NFI st qual cc c) ar doc pm ctv
  iC : PySem.W.findIn K (.ref C) "__init__" = some (some (.ref f))
  tI : PySem.W.typeIn K (.ref f) = some (.type "function")
  g : mg nm = some (.ref C)
  har : ar.arg = "self"
  lk : ∃ q N bs sn sub ab col dd k0 k1 k2 k3 k5, K.lookup C = some (excClassObj nm q C N bs (pre ++ bmB) true sn sub ab col dd k0 k1 k2 k3 k5 newId)
section
variable {base : Heap} {K : PySem.W.Frag} {mg : Str → Option Value} {P : Program} {w : World} {B newId initId : String} {bmB pre : List Value} {st : Stmt} {nm qual : Str}
theorem ok_ini1 {fl pn wd m : Str} {p0 p1 p2 p3 p4 p5 q0 q1 q2 q3 r0 r1 r2 r3 : Pos} {n1 n2 : Nat} {pl : Addr → Sem Bool} (EB : ErB B newId initId bmB) (T : Er P K mg B newId initId bmB pre st nm qual) (S : NScope ["self", pn, "__class__"] ["self", pn] ["__class__"] (defScope st))
    (hbd : defBody st = [.Expr (.Call (.Attribute (.Call (.Name "super" p0) [] [] p1) "__init__" p2) [.Constant (.str m) n1 p3] [] p4) p5, .Assign [.Attribute (.Name "self" q0) "word" q1] (.Constant (.str wd) n2 q2) q3, .Assign [.Attribute (.Name "self" r0) fl r1] (.Name pn r2) r3])
    (e1 : PySem.W.findIn K (.ref T.C) "word" = some none) (e2 : PySem.W.findIn K (.ref T.C) fl = some none) (hn1 : (pn == ("__debug__" : Str)) = false := by decide) (hn2 : (pn == ("__classdict__" : Str)) = false := by decide)
    (he : ∀ L, eval (.Call (.Attribute (.Call (.Name "super" p0) [] [] p1) "__init__" p2) [.Constant (.str m) n1 p3] [] p4) (envF (NFI st qual T.cc T.c) T.f L) = (do
      let ov ← attributeBase (.Call (.Name "super" p0) [] [] p1) "__init__" (envF (NFI st qual T.cc T.c) T.f L) (eval (.Call (.Name "super" p0) [] [] p1) (envF (NFI st qual T.cc T.c) T.f L))
      standAt p2.atName
      let (g, first) ← holding [ov] (getMethod ov "__init__" (pl L))
      callWith p4 g first (backTo p4 (starEach [.Constant (.str m) n1 p3] (envF (NFI st qual T.cc T.c) T.f L))) []) := by intro _; rfl)
    (hint : ∀ L, interactive (envF (NFI st qual T.cc T.c) T.f L) = false := by intro _; rfl)
    (hsw : ∀ L, swapsWith (.Call (.Attribute (.Call (.Name "super" p0) [] [] p1) "__init__" p2) [.Constant (.str m) n1 p3] [] p4) none p5.line (envF (NFI st qual T.cc T.c) T.f L) = pure false := by intro _; rfl)
    (hs1 : ∀ L, swapsWith (.Constant (.str wd) n2 q2) (some (.Attribute (.Name "self" q0) "word" q1)) q3.line (envF (NFI st qual T.cc T.c) T.f L) = pure false := by intro _; rfl)
    (hs2 : ∀ L, swapsWith (.Name pn r2) (some (.Attribute (.Name "self" r0) fl r1)) r3.line (envF (NFI st qual T.cc T.c) T.f L) = pure false := by intro _; rfl) :
    FnOk P w K mg base CX0 1 T.f ((NFI st qual T.cc T.c).fd T.doc T.pm T.ctv) ["self", pn] (spIni T.C 1 fun ws => [(fl, ws.getD 0 .non), ("word", .str wd)]) := by
  refine init_fn (i := 0) (j := 2) (N := ["self", pn, "__class__"]) EB T.T S (fun vs H Q E h => ?_) (by rw [T.har]; rfl) rfl hbd (fun vs H Q E h => ?_) (fun A outer s H vs Q E hr h => ?_) he hint hsw
  · obtain ⟨a, ws, rfl, hn, _⟩ := h
    show ws.length + 1 = 2
    omega
  · obtain ⟨a, ws, rfl, hn, ha, _⟩ := h
    match ws, hn with
    | [v], _ => exact ⟨a, rfl, rfl, ha⟩
  · obtain ⟨a, ws, rfl, hn, ha, q⟩ := h
    match ws, hn, q with
    | [v], _, q =>
      refine ⟨_, pss_cons (ps_gst EB (pe_var (i := 0) rfl (Or.inl (S.par _ (by simp)))) pe_str (hs1 _)) (pss_one (ps_gst EB (pe_var (i := 0) rfl (Or.inl (S.par _ (by simp)))) (pe_var (i := 1) rfl (Or.inl (S.par _ (by simp))) hn1 hn2) (hs2 _))), ?_⟩
      refine ⟨_, rfl, a, T.C, rfl, T.T.ox, e1, .inl ⟨ha, fun d hd ne => ?_⟩⟩
      have m1 := made1 (f := "word") (y := .str wd) ha hd ne
      exact ⟨_, rfl, _, rfl, a, T.C, rfl, T.T.ox, e2, .inr ⟨d, _, m1.2.2.1, m1.2.2.2.1, by simp, q d _ (made2 m1)⟩⟩
theorem ok_ini0 {wd m : Str} {p0 p1 p2 p3 p4 p5 q0 q1 q2 q3 : Pos} {n1 n2 : Nat} {pl : Addr → Sem Bool} (EB : ErB B newId initId bmB) (T : Er P K mg B newId initId bmB pre st nm qual) (S : NScope ["self", "__class__"] ["self"] ["__class__"] (defScope st))
    (hbd : defBody st = [.Expr (.Call (.Attribute (.Call (.Name "super" p0) [] [] p1) "__init__" p2) [.Constant (.str m) n1 p3] [] p4) p5, .Assign [.Attribute (.Name "self" q0) "word" q1] (.Constant (.str wd) n2 q2) q3])
    (e1 : PySem.W.findIn K (.ref T.C) "word" = some none)
    (he : ∀ L, eval (.Call (.Attribute (.Call (.Name "super" p0) [] [] p1) "__init__" p2) [.Constant (.str m) n1 p3] [] p4) (envF (NFI st qual T.cc T.c) T.f L) = (do
      let ov ← attributeBase (.Call (.Name "super" p0) [] [] p1) "__init__" (envF (NFI st qual T.cc T.c) T.f L) (eval (.Call (.Name "super" p0) [] [] p1) (envF (NFI st qual T.cc T.c) T.f L))
      standAt p2.atName
      let (g, first) ← holding [ov] (getMethod ov "__init__" (pl L))
      callWith p4 g first (backTo p4 (starEach [.Constant (.str m) n1 p3] (envF (NFI st qual T.cc T.c) T.f L))) []) := by intro _; rfl)
    (hint : ∀ L, interactive (envF (NFI st qual T.cc T.c) T.f L) = false := by intro _; rfl)
    (hsw : ∀ L, swapsWith (.Call (.Attribute (.Call (.Name "super" p0) [] [] p1) "__init__" p2) [.Constant (.str m) n1 p3] [] p4) none p5.line (envF (NFI st qual T.cc T.c) T.f L) = pure false := by intro _; rfl)
    (hs1 : ∀ L, swapsWith (.Constant (.str wd) n2 q2) (some (.Attribute (.Name "self" q0) "word" q1)) q3.line (envF (NFI st qual T.cc T.c) T.f L) = pure false := by intro _; rfl) :
    FnOk P w K mg base CX0 1 T.f ((NFI st qual T.cc T.c).fd T.doc T.pm T.ctv) ["self"] (spIni T.C 0 fun _ => [("word", .str wd)]) := by
  refine init_fn (i := 0) (j := 1) (N := ["self", "__class__"]) EB T.T S (fun vs H Q E h => ?_) (by rw [T.har]; rfl) rfl hbd (fun vs H Q E h => ?_) (fun A outer s H vs Q E hr h => ?_) he hint hsw
  · obtain ⟨a, ws, rfl, hn, _⟩ := h
    show ws.length + 1 = 1
    omega
  · obtain ⟨a, ws, rfl, hn, ha, _⟩ := h
    match ws, hn with
    | [], _ => exact ⟨a, rfl, rfl, ha⟩
  · obtain ⟨a, ws, rfl, hn, ha, q⟩ := h
    match ws, hn, q with
    | [], _, q =>
      refine ⟨_, pss_one (ps_gst EB (pe_var (i := 0) rfl (Or.inl (S.par _ (by simp)))) pe_str (hs1 _)), ?_⟩
      refine ⟨_, rfl, a, T.C, rfl, T.T.ox, e1, .inl ⟨ha, fun d hd ne => ?_⟩⟩
      exact q d _ (made1 (f := "word") (y := .str wd) ha hd ne)
/-! ### isinstance between own errors -/
theorem Er.cl (T : Er P K mg B newId initId bmB pre st nm qual) : ∃ cd : ClassData, PySem.W.clsIn K T.C = some cd ∧ cd.name = nm ∧ cd.mro = .ref T.C :: (pre ++ bmB) := by
  obtain ⟨q, N, bs, sn, sub, ab, col, dd, k0, k1, k2, k3, k5, h⟩ := T.lk
  exact ⟨{ name := nm, bases := bs, mro := .ref T.C :: (pre ++ bmB), ns := N, qualname := q, hasDict := true, slotNames := sn, subclasses := sub, abstract := ab, collection := col, hasDel := false }, by unfold PySem.W.clsIn; rw [h] <;> rfl, rfl, rfl⟩
theorem kit_ref {C D : Addr} {l : List Value} {cd cd' : ClassData} (hC : PySem.W.clsIn K C = some cd) (hm : cd.mro = .ref C :: l) (hD : PySem.W.clsIn K D = some cd') (hT : PySem.W.typeIn K (.ref D) = some (.type "type")) :
    PySem.W.kitOne K (.ref C) (.ref D) = some ((Value.ref C :: l).contains (.ref D)) := by
  unfold PySem.W.kitOne
  split
  · rename_i h
    rw [List.contains_cons, show (Value.ref D == Value.ref C) = true by rw [eq_of_beq h]; exact beq_self_eq_true _]
    rfl
  · unfold PySem.W.kitCls
    dsimp only
    rw [hD, hT, if_pos (show ((some cd').isSome && some (Value.type "type") == some (Value.type "type")) = true from show (true && some (Value.type "type") == some (Value.type "type")) = true by decide +kernel)]
    show PySem.W.mroIn K C (.ref D) = _
    unfold PySem.W.mroIn
    rw [hC, Option.bind_some, hm]
    rfl
theorem kit_typ {C : Addr} {T : String} {l : List Value} {cd : ClassData} (hC : PySem.W.clsIn K C = some cd) (hm : cd.mro = .ref C :: l) (hT : PySem.W.kitMeta T = true) :
    PySem.W.kitOne K (.ref C) (.type T) = some ((Value.ref C :: l).contains (.type T)) := by
  unfold PySem.W.kitOne
  rw [if_neg (by intro h; cases eq_of_beq h)]
  unfold PySem.W.kitCls
  dsimp only
  rw [if_pos hT]
  show PySem.W.mroIn K C (.type T) = _
  unfold PySem.W.mroIn
  rw [hC, Option.bind_some, hm]
  rfl
theorem cls_ne {C D : Addr} {c d : ClassData} (hC : PySem.W.clsIn K C = some c) (hD : PySem.W.clsIn K D = some d) (hn : c.name ≠ d.name) : C ≠ D := by
  intro e
  subst e
  rw [hC] at hD
  cases hD
  exact hn rfl
end
section
variable {P : Program} {K : PySem.W.Frag} {h : Heap} {mg : Str → Option Value} {B newId initId : String} {bmB pre : List Value} {st : Stmt} {nm qual : Str}
theorem mro_at {C : Addr} {q : Str} {N : Addr} {bs : List Value} {sn : List Str} {sub : List Value} {ab : Bool} {col : Option Bool} {dd : Option Addr} {k0 k1 k2 k3 k5 : Option Value} (lC : K.lookup C = some (excClassObj nm q C N bs (pre ++ bmB) true sn sub ab col dd k0 k1 k2 k3 k5 newId)) (v : Value) :
    PySem.W.mroIn K C v = some ((Value.ref C :: (pre ++ bmB)).contains v) := by
  have hcl : PySem.W.clsIn K C = some { name := nm, bases := bs, mro := .ref C :: (pre ++ bmB), ns := N, qualname := q, hasDict := true, slotNames := sn, subclasses := sub, abstract := ab, collection := col, hasDel := false } := by unfold PySem.W.clsIn; rw [lC] <;> rfl
  unfold PySem.W.mroIn
  rw [hcl, Option.bind_some]
  rfl
theorem mro_ty {C : Addr} {X : String} (ht : PySem.W.excTail bmB (pre ++ bmB) = true) (hx : bmB.contains (.type X) = true) : (Value.ref C :: (pre ++ bmB)).contains (.type X) = true := by
  rw [List.contains_cons, PySem.W.excTail_contains X _ ht, hx, Bool.or_true]
theorem ov_at {C : Addr} {q : Str} {N : Addr} {bs : List Value} {sn : List Str} {sub : List Value} {ab : Bool} {col : Option Bool} {dd : Option Addr} {k0 k1 k2 k3 k5 : Option Value} (lC : K.lookup C = some (excClassObj nm q C N bs (pre ++ bmB) true sn sub ab col dd k0 k1 k2 k3 k5 newId)) (ht : PySem.W.excTail bmB (pre ++ bmB) = true) : PySem.W.excOver K C bmB = true := by
  have hcl : PySem.W.clsIn K C = some { name := nm, bases := bs, mro := .ref C :: (pre ++ bmB), ns := N, qualname := q, hasDict := true, slotNames := sn, subclasses := sub, abstract := ab, collection := col, hasDel := false } := by unfold PySem.W.clsIn; rw [lC] <;> rfl
  unfold PySem.W.excOver
  rw [hcl]
  show (C == C && PySem.W.excTail bmB (pre ++ bmB)) = true
  rw [beq_self_eq_true, ht]
  rfl
@[reducible] def er_mk (X : K.In h) (G : h.Ns mainGlobals mg) {C f c cc : Addr} {od cld cdd : Option Addr} {sl csl ccs : Array (Option Value)} {doc pm ctv clc ccl : Value} {vs : Array Value} {file : Str} {tf : Tok} {ar : Arg}
    {q : Str} {N : Addr} {bs : List Value} {sn : List Str} {sub : List Value} {ab : Bool} {col : Option Bool} {dd : Option Addr} {k0 k1 k2 k3 k5 : Option Value}
    (op : PySem.W.nsIn K cStatics "thirdparty.any" = some none) (no : PySem.W.nsIn K mainGlobals "super" = some none)
    (h1 : bmB.contains (.type "BaseException") = true) (h2 : bmB.contains (.type B) = true) (h3 : bmB.contains (.type "object") = true)
    (ht : PySem.W.excTail bmB (pre ++ bmB) = true)
    (hh : ((defArgs st).posonlyargs ++ (defArgs st).args).head? = some ar) (har : ar.arg = "self")
    (ks : (defScope st).names.lookup ("super" : Str) = some .globalImplicit) (kc : (defScope st).names.lookup ("__class__" : Str) = some .free) (ka : (defScope st).names.lookup ar.arg = some .local)
    (top : (P.main.scope.names.lookup ("super" : Str)).isSome = false)
    (aC : PySem.W.nsIn K mainGlobals nm = some (some (.ref C)))
    (lC : K.lookup C = some (excClassObj nm q C N bs (pre ++ bmB) true sn sub ab col dd k0 k1 k2 k3 k5 newId))
    (aI : PySem.W.findIn K (.ref C) "__init__" = some (some (.ref f)))
    (lI : K.lookup f = some ⟨.type "function", od, .func (PySem.W.fnX "__init__" qual (defArgs st) (defBody st) (defScope st) [(("__class__" : Str), cc)] .none .none doc pm none (.ref c) ctv), sl⟩)
    (cI : PySem.W.codeIn K (.ref c) qual = true)
    (lc : K.lookup cc = some ⟨clc, cld, .cell (some (.ref C)), csl⟩)
    (lco : K.lookup c = some ⟨ccl, cdd, .fields vs, ccs⟩)
    (sa : PySem.W.findIn K (.ref C) "__setattr__" = some (some (.builtin "object.__setattr__")))
    (ga : PySem.W.findIn K (.ref C) "__getattribute__" = some (some (.builtin "BaseException.__getattribute__")))
    (gt : PySem.W.findIn K (.ref C) "__getattr__" = some none)
    (kp : PySem.W.keepIn K (.ref C) = true)
    (cl : PySem.W.findIn K (.ref C) "__class__" = some (some (.builtin "object.__class__")))
    (su : PySem.W.ks_superIn K C C "__init__" = some (some (.builtin initId)))
    (hvs : vs[2]? = some (.str file tf)) (hfile : ((P.main.file : Str) == file) = true) : Er P K mg B newId initId bmB pre st nm qual where
  C := C
  f := f
  cc := cc
  c := c
  ar := ar
  doc := doc
  pm := pm
  ctv := ctv
  T := {
    lk := ⟨od, sl, lI⟩
    cd := cI
    cl := ⟨cc, _, rfl, lc, rfl⟩
    hd := hh
    fl := ⟨_, vs, file, tf, lco, rfl, hvs, hfile⟩
    ks := ks
    kc := kc
    ka := ka
    top := top
    no := PySem.W.mg_none_of X G no
    op := op
    ox := {
      cls := ⟨nm, q, N, bs, pre ++ bmB, sn, sub, ab, col, dd, k0, k1, k2, k3, k5, lC, ht⟩
      ov := ov_at lC ht
      sa := sa
      ga := ga
      gt := gt
      ex := (mro_at lC _).trans (congrArg some (mro_ty ht h1))
      ty := congrArg (Option.map fun o : Obj => o.cls) lC
      kp := kp
      cl := cl
      ob := (mro_at lC _).trans (congrArg some (mro_ty ht h3)) }
    su := su
    sb := (mro_at lC _).trans (congrArg some (mro_ty ht h2))
    mr := (mro_at lC _).trans (by rw [List.contains_cons, beq_self_eq_true, Bool.true_or]) }
  iC := aI
  tI := congrArg (Option.map fun o : Obj => o.cls) lI
  g := PySem.W.mg_of X G aC
  har := har
  lk := ⟨q, N, bs, sn, sub, ab, col, dd, k0, k1, k2, k3, k5, lC⟩
/-- an own error and the fields that its class lacks -/
structure ErW (P : Program) (K : PySem.W.Frag) (mg : Str → Option Value) (B newId initId : String) (bmB pre : List Value) (st : Stmt) (nm qual : Str) (fl : List Str) where
  e : Er P K mg B newId initId bmB pre st nm qual
  no : ∀ x ∈ fl, PySem.W.findIn K (.ref e.C) x = some none
def erw1 (X : K.In h) (G : h.Ns mainGlobals mg) {C f c cc : Addr} {od cld cdd : Option Addr} {sl csl ccs : Array (Option Value)} {doc pm ctv clc ccl : Value} {vs : Array Value} {file : Str} {tf : Tok} {ar : Arg}
    {q : Str} {N : Addr} {bs : List Value} {sn : List Str} {sub : List Value} {ab : Bool} {col : Option Bool} {dd : Option Addr} {k0 k1 k2 k3 k5 : Option Value}
    (op : PySem.W.nsIn K cStatics "thirdparty.any" = some none) (no : PySem.W.nsIn K mainGlobals "super" = some none)
    (h1 : bmB.contains (.type "BaseException") = true) (h2 : bmB.contains (.type B) = true) (h3 : bmB.contains (.type "object") = true)
    (ht : PySem.W.excTail bmB (pre ++ bmB) = true)
    (hh : ((defArgs st).posonlyargs ++ (defArgs st).args).head? = some ar) (har : ar.arg = "self")
    (ks : (defScope st).names.lookup ("super" : Str) = some .globalImplicit) (kc : (defScope st).names.lookup ("__class__" : Str) = some .free) (ka : (defScope st).names.lookup ar.arg = some .local)
    (top : (P.main.scope.names.lookup ("super" : Str)).isSome = false)
    (aC : PySem.W.nsIn K mainGlobals nm = some (some (.ref C)))
    (lC : K.lookup C = some (excClassObj nm q C N bs (pre ++ bmB) true sn sub ab col dd k0 k1 k2 k3 k5 newId))
    (aI : PySem.W.findIn K (.ref C) "__init__" = some (some (.ref f)))
    (lI : K.lookup f = some ⟨.type "function", od, .func (PySem.W.fnX "__init__" qual (defArgs st) (defBody st) (defScope st) [(("__class__" : Str), cc)] .none .none doc pm none (.ref c) ctv), sl⟩)
    (cI : PySem.W.codeIn K (.ref c) qual = true)
    (lc : K.lookup cc = some ⟨clc, cld, .cell (some (.ref C)), csl⟩)
    (lco : K.lookup c = some ⟨ccl, cdd, .fields vs, ccs⟩)
    (sa : PySem.W.findIn K (.ref C) "__setattr__" = some (some (.builtin "object.__setattr__")))
    (ga : PySem.W.findIn K (.ref C) "__getattribute__" = some (some (.builtin "BaseException.__getattribute__")))
    (gt : PySem.W.findIn K (.ref C) "__getattr__" = some none)
    (kp : PySem.W.keepIn K (.ref C) = true)
    (cl : PySem.W.findIn K (.ref C) "__class__" = some (some (.builtin "object.__class__")))
    (su : PySem.W.ks_superIn K C C "__init__" = some (some (.builtin initId)))
    (hvs : vs[2]? = some (.str file tf)) (hfile : ((P.main.file : Str) == file) = true) {f1 : Str} (x1 : PySem.W.findIn K (.ref C) f1 = some none) : ErW P K mg B newId initId bmB pre st nm qual [f1] :=
  ⟨er_mk (C := C) X G op no h1 h2 h3 ht hh har ks kc ka top aC lC aI lI cI lc lco sa ga gt kp cl su hvs hfile, fun x hx => by
    rcases List.mem_cons.mp hx with rfl | e
    · exact x1
    · cases e⟩
def erw2 (X : K.In h) (G : h.Ns mainGlobals mg) {C f c cc : Addr} {od cld cdd : Option Addr} {sl csl ccs : Array (Option Value)} {doc pm ctv clc ccl : Value} {vs : Array Value} {file : Str} {tf : Tok} {ar : Arg}
    {q : Str} {N : Addr} {bs : List Value} {sn : List Str} {sub : List Value} {ab : Bool} {col : Option Bool} {dd : Option Addr} {k0 k1 k2 k3 k5 : Option Value}
    (op : PySem.W.nsIn K cStatics "thirdparty.any" = some none) (no : PySem.W.nsIn K mainGlobals "super" = some none)
    (h1 : bmB.contains (.type "BaseException") = true) (h2 : bmB.contains (.type B) = true) (h3 : bmB.contains (.type "object") = true)
    (ht : PySem.W.excTail bmB (pre ++ bmB) = true)
    (hh : ((defArgs st).posonlyargs ++ (defArgs st).args).head? = some ar) (har : ar.arg = "self")
    (ks : (defScope st).names.lookup ("super" : Str) = some .globalImplicit) (kc : (defScope st).names.lookup ("__class__" : Str) = some .free) (ka : (defScope st).names.lookup ar.arg = some .local)
    (top : (P.main.scope.names.lookup ("super" : Str)).isSome = false)
    (aC : PySem.W.nsIn K mainGlobals nm = some (some (.ref C)))
    (lC : K.lookup C = some (excClassObj nm q C N bs (pre ++ bmB) true sn sub ab col dd k0 k1 k2 k3 k5 newId))
    (aI : PySem.W.findIn K (.ref C) "__init__" = some (some (.ref f)))
    (lI : K.lookup f = some ⟨.type "function", od, .func (PySem.W.fnX "__init__" qual (defArgs st) (defBody st) (defScope st) [(("__class__" : Str), cc)] .none .none doc pm none (.ref c) ctv), sl⟩)
    (cI : PySem.W.codeIn K (.ref c) qual = true)
    (lc : K.lookup cc = some ⟨clc, cld, .cell (some (.ref C)), csl⟩)
    (lco : K.lookup c = some ⟨ccl, cdd, .fields vs, ccs⟩)
    (sa : PySem.W.findIn K (.ref C) "__setattr__" = some (some (.builtin "object.__setattr__")))
    (ga : PySem.W.findIn K (.ref C) "__getattribute__" = some (some (.builtin "BaseException.__getattribute__")))
    (gt : PySem.W.findIn K (.ref C) "__getattr__" = some none)
    (kp : PySem.W.keepIn K (.ref C) = true)
    (cl : PySem.W.findIn K (.ref C) "__class__" = some (some (.builtin "object.__class__")))
    (su : PySem.W.ks_superIn K C C "__init__" = some (some (.builtin initId)))
    (hvs : vs[2]? = some (.str file tf)) (hfile : ((P.main.file : Str) == file) = true) {f1 f2 : Str} (x1 : PySem.W.findIn K (.ref C) f1 = some none) (x2 : PySem.W.findIn K (.ref C) f2 = some none) : ErW P K mg B newId initId bmB pre st nm qual [f1, f2] :=
  ⟨er_mk (C := C) X G op no h1 h2 h3 ht hh har ks kc ka top aC lC aI lI cI lc lco sa ga gt kp cl su hvs hfile, fun x hx => by
    rcases List.mem_cons.mp hx with rfl | e
    · exact x1
    · rcases List.mem_cons.mp e with rfl | e
      · exact x2
      · cases e⟩
end
/-! ### raise of an own error -/
section
variable {P : Program} {K : PySem.W.Frag} {mg : Str → Option Value} {G : Addr} {st : Stmt} {nm qual : Str}
theorem oex_of (T : Er P K mg "ValueError" "ValueError.__new__" "ValueError.__init__" [.type "ValueError", .type "Exception", .type "BaseException", .type "object"] [.ref G] st nm qual) : OexC K T.C := by
  obtain ⟨q, N, bs, sn, sub, ab, col, dd, k0, k1, k2, k3, k5, lk⟩ := T.lk
  exact ⟨⟨nm, q, N, bs, _, sn, sub, ab, col, dd, k0, k1, k2, k3, k5, lk, rfl⟩, T.T.ox.sa, T.T.ox.ex, T.T.ox.ty, T.T.ox.kp⟩
theorem xfc_of {B newId initId : String} {bmB pre : List Value} (T : Er P K mg B newId initId bmB pre st nm qual) : XfC K T.C := ⟨T.T.ox.ga, T.T.ox.gt, T.T.ox.ex, T.T.ox.has.1⟩
/-- what the making of an error asks, ahead of its raise -/
theorem mk_use {H1 : Hp} {C : Addr} {n : Nat} {fF : List V → List (Str × V)} {vs : List V} {R : Value → Option Addr → Hp → Prop} (hn : vs.length = n) (h0 : n ≤ 1000) (k : ∀ d Hf, H1 d = none → Same H1 Hf → Hf d = some (.xd (fF vs)) → R (.ref C) (some d) Hf) :
    vs.length ≤ 1000 ∧ ∀ a, H1 a = none → spIni C n fF (.ref a :: (vs ++ [])) (upd H1 a (exo a C none)) (fun v H2 => v = .non ∧ ∃ (d : Addr) (fs : List (Str × V)), H2 a = some (exo a C (some d)) ∧ H2 d = some (exd d fs) ∧ H1 d = none ∧ R (.ref C) (some d) (upd (del H2 a) d (.xd fs))) (fun _ _ _ => False) := by
  refine ⟨by omega, fun a na => ?_⟩
  rw [List.append_nil]
  refine ⟨a, vs, rfl, hn, upd_same, fun d H2 M => ?_⟩
  obtain ⟨m1, m2, m3, m4, m5⟩ := M
  have hd : H1 d = none := by
    rw [upd_ne m2] at m1
    exact m1
  refine ⟨rfl, d, _, m3, m4, hd, k d _ hd (fun b o z => ?_) upd_same⟩
  have hb : b ≠ a := ne_of_none z na
  rw [upd_ne (ne_of_none z hd), del_ne hb]
  exact m5 b o hb ((upd_ne hb).trans z)
end
/-! ### raise of an own error that takes no arguments
By the statements of call_own, FnOk.run and mk_end; the first two are met in the order in which the model makes an object, as in every rule of this kind. -/
section
variable {X : Cx} {pins : List (Addr × Obj)} {σ : L2.St} {H : Hp} {s : Shared} {C : Addr}
/-- an error just made, with nothing in it -/
def bare (C : Addr) (h : Heap) : Heap := (h.push (PySem.W.kdv_tup [])).push (PySem.HandSPX.excO C h.objs.size)
theorem bare_keeps {h : Heap} : ∀ b o, h.get? b = some o → (bare C h).get? b = some o := by
  intro b o z
  unfold bare
  apply Heap.get?_push_of_some
  apply Heap.get?_push_of_some
  exact z
theorem bare_at {h : Heap} : (bare C h).get? (h.objs.size + 1) = some (PySem.HandSPX.excO C h.objs.size) := by
  have z := Heap.get?_push_size (h.push (PySem.W.kdv_tup [])) (o := PySem.HandSPX.excO C h.objs.size) rfl
  rwa [Heap.size_push] at z
theorem bare_inv (I : Inv X pins σ H s) : Inv X pins σ (upd H (s.heap.objs.size + 1) (exo (s.heap.objs.size + 1) C none)) { s with heap := bare C s.heap } := by
  have ok : ObjOk X.prog X.w (upd H (s.heap.objs.size + 1) (exo (s.heap.objs.size + 1) C none)) (bare C s.heap) (s.heap.objs.size + 1) (exo (s.heap.objs.size + 1) C none) := exo_ok bare_at
  exact I.laid (t' := s.toks) bare_keeps (Nat.le_succ _) ok
/-- what is told of the raise: a table of fields at a new place, the rest as before -/
def ToldE (C : Addr) (fs : List (Str × V)) : L2.St → Hp → XK → Prop := fun _ H Q => ∀ d G, H d = none → Same H G → G d = some (.xd fs) → Q (.ref C) (some d) G
theorem told_end {fs : List (Str × V)} {Q : XK} {a d : Addr} {G : Hp} (na : H a = none) (q : ToldE C fs σ H Q) (m : Made (upd H a (exo a C none)) G a C d fs) : H d = none ∧ Q (.ref C) (some d) (upd (del G a) d (.xd fs)) := by
  have free : H d = none := (upd_ne m.2.1).symm.trans m.1
  refine ⟨free, q d _ free ?_ upd_same⟩
  intro b o z
  have nb := ne_of_none z na
  calc (upd (del G a) d (.xd fs)) b = del G a b := upd_ne (ne_of_none z free)
    _ = G b := del_ne nb
    _ = some o := m.2.2.2.2 b o nb ((upd_ne nb).trans z)
theorem pmkE0 {B newId initId : String} {bmB : List Value} {CX : CXT} {x : Str} {fI : Addr} {k : Nat} {fd : FuncData} {ps : List Str} {fF : List V → List (Str × V)} {p pos : Pos} (E : ErB B newId initId bmB) (T : ErC X.K C newId bmB)
    (iC : PySem.W.findIn X.K (.ref C) "__init__" = some (some (.ref fI))) (tI : PySem.W.typeIn X.K (.ref fI) = some (.type "function")) (ini : FnOk X.prog X.w X.K X.mg X.base CX k fI fd ps (spIni C 0 fF)) (room : Room (k + 1) X.A)
    (binds : Binds X.K fd ps []) (none : Vals [] []) (never : Passes CX X (fun _ _ _ => False)) (gl : Gl X x) (named : X.mg x = some (.ref C)) (plain : (x == ("__debug__" : Str)) = false := by decide) : PMk X (.Call (.Name x p) [] [] pos) (ToldE C (fF [])) := by
  intro pins s σ H Q I q
  apply wpAny_Call_Name_kw
  refine ld_glob I gl named ?_ plain
  refine PySem.W.callWith_K0 I.kIn T.kp (wpAny_call ?_)
  have J := bare_inv (C := C) I
  have na : H (s.heap.objs.size + 1) = .none := I.hok.fresh (Nat.le_succ _)
  -- the initializer, at the bare error
  have asked : spIni C 0 fF [.ref (s.heap.objs.size + 1)] (upd H (s.heap.objs.size + 1) (exo (s.heap.objs.size + 1) C .none)) (fun v G => v = .non ∧ ∃ d, Made (upd H (s.heap.objs.size + 1) (exo (s.heap.objs.size + 1) C .none)) G (s.heap.objs.size + 1) C d (fF [])) (fun _ _ _ => False) := ⟨_, [], rfl, rfl, upd_same, fun d G m => ⟨rfl, d, m⟩⟩
  have one : Vals [V.ref (s.heap.objs.size + 1)] [Value.ref (s.heap.objs.size + 1)] := .cons rfl .nil
  have count : ([Value.ref (s.heap.objs.size + 1)] ++ []).length = ps.length := (ini.len _ _ _ _ asked)
  have ran := ini.run _ X.stack _ _ ⟨[.ref (s.heap.objs.size + 1)], []⟩ _ _ _ _ (room.make C [] []) (J.env0.make C [] []) (binds _ [.ref (s.heap.objs.size + 1)] J.kIn count) one asked
  obtain ⟨_, _, _, _, bm, _, _, _, _, _, _, _, _, _, _, hC, hbm⟩ := T.cls
  refine PySem.HandSPX.call_own (rest := []) E.fb (fun Y => PySem.W.excTail_contains Y bm hbm) (I.kIn _ _ hC) (PySem.W.looks_findIn I.kIn iC) (fun self => PySem.W.bind_fn I.kIn self tI) (Nat.zero_le _) (codeAny_mono ran ?_)
  intro r s' back
  cases r with
  | error er => exact never pins σ _ _ er s' J back
  | ok f =>
    cases f with
    | ret u =>
      obtain ⟨v, G, os', bare', un, hok, rv, rfl, d, m⟩ := back
      obtain ⟨free, q'⟩ := told_end na q m
      exact ⟨rv, mk_end (raises_own T.ex T.ty) I (Nat.le_succ _) bare_keeps un hok os' bare' m.2.2.1 m.2.2.2.1 free q'⟩
    | _ => exact back.elim
end
theorem sq_nn (x : Int) : 0 ≤ x * x := by
  rcases Int.le_total 0 x with h | h
  · exact Int.mul_nonneg h h
  · exact Int.mul_nonneg_of_nonpos_of_nonpos h h
theorem sq_le {x y : Int} (h0 : 0 ≤ x) (h : x ≤ y) : x * x ≤ y * y := Int.mul_le_mul h h h0 (Int.le_trans h0 h)
theorem sq_lt {x y : Int} (h0 : 0 ≤ x) (h : x < y) : x * x < y * y := by
  have h1 : (x + 1) * (x + 1) ≤ y * y := sq_le (by omega) (by omega)
  grind
theorem lt_of_sq {x y : Int} (h0 : 0 ≤ y) (h : x * x < y * y) : x < y := by
  rcases Int.lt_or_le x y with z | z
  · exact z
  · have := sq_le h0 z
    omega
theorem le_of_sq {x y : Int} (h0 : 0 ≤ y) (h : x * x ≤ y * y) : x ≤ y := by
  rcases Int.lt_or_le y x with z | z
  · have := sq_lt h0 z
    omega
  · exact z
/-- Newton's step from above -/
theorem newton_up {g n : Int} (hg : 0 < g) (hn : 0 ≤ n) : n < ((g + n / g) / 2 + 1) * ((g + n / g) / 2 + 1) := by
  have hq : 0 ≤ n / g := Int.ediv_nonneg hn (by omega)
  have h1 : n < g * (n / g + 1) := by
    have := Int.lt_ediv_add_one_mul_self n hg
    grind
  generalize n / g = q at hq h1 ⊢
  have h2 : g + q + 1 ≤ 2 * ((g + q) / 2 + 1) := by omega
  generalize (g + q) / 2 = r at h2 ⊢
  have h3 := sq_nn (g - (q + 1))
  have h4 := sq_le (show 0 ≤ g + q + 1 by omega) h2
  grind
theorem newton_dn {g n : Int} (hg : 0 < g) (h : n < g * g) : (g + n / g) / 2 < g := by
  have h1 : n / g < g := Int.ediv_lt_of_lt_mul hg h
  omega
theorem newton_nn {g n : Int} (hg : 0 < g) (hn : 0 ≤ n) : 0 ≤ (g + n / g) / 2 := by
  have hq : 0 ≤ n / g := Int.ediv_nonneg hn (by omega)
  omega
/-- no root times a square is a square -/
theorem no_square {d k : Int} (hk : 0 ≤ k) (h1 : k * k < d) (h2 : d < (k + 1) * (k + 1)) : ∀ (n : Nat) (b w : Int), 0 < b → 0 ≤ w → b.toNat ≤ n → w * w ≠ d * b * b
  | 0, b, w, hb, _, hn => by omega
  | n + 1, b, w, hb, hw, hn => fun e => by
    have hbb : 0 < b * b := Int.mul_pos hb hb
    have l1 : (k * b) * (k * b) < w * w := by
      have := Int.mul_lt_mul_of_pos_right h1 hbb
      grind
    have l2 : w * w < ((k + 1) * b) * ((k + 1) * b) := by
      have := Int.mul_lt_mul_of_pos_right h2 hbb
      grind
    have m1 : k * b < w := lt_of_sq hw l1
    have m2 : w < (k + 1) * b := lt_of_sq (Int.mul_nonneg (by omega) (by omega)) l2
    have m3 : w - k * b < b := by grind
    refine no_square hk h1 h2 n (w - k * b) (d * b - k * w) (by omega) ?_ (by omega) (by grind)
    have : (k * w) * b ≤ (d * b) * b := by
      have z := Int.mul_le_mul_of_nonneg_right (Int.le_of_lt m1) hw
      grind
    have z : k * w ≤ d * b := Int.le_of_mul_le_mul_right this hb
    omega
/-! ### defs with defaults, methods by keywords -/
inductive Dflt (K : PySem.W.Frag) (r : Addr) : Prop
  | mk {y1 y2 : Addr} {d e f : Option Addr} {m n o : Nat} {s t u : Array (Option Value)} {v w x y : Tok} (a : K.lookup r = some ⟨.type "tuple", d, .seq #[.ref y1, .ref y2] m, s⟩)
      (b : K.lookup y1 = some ⟨.type "tuple", e, .seq #[.int 0 v, .int 0 w] n, t⟩) (c : K.lookup y2 = some ⟨.type "tuple", f, .seq #[.int 0 x, .int 0 y] o, u⟩) : Dflt K r
section
variable {K : PySem.W.Frag} {f T D : Addr} {oc tc u : Value} {od td : Option Addr} {fd : FuncData} {sl ts : Array (Option Value)} {tn : Nat} {its : Array Value} {ps : List Str} {x : Str}
theorem bd_given (l : K.lookup f = some ⟨oc, od, .func fd, sl⟩) (t : K.lookup T = some ⟨tc, td, .seq its tn, ts⟩) (h : ∀ us : List Value, us.length = ps.length → ∃ k, bindArgs fd ⟨us, []⟩ = seqItems? (.ref T) >>= k ∧ k (some its) = pure (ps.zip us)) : Binds K fd ps [] := fun s us X hl => by
  rw [List.append_nil] at hl ⊢
  obtain ⟨k, e1, e2⟩ := h us hl
  refine BindsTo.of_looks fun M => ?_
  rw [e1]
  exact looks_items X t rfl (.of_pure e2)
theorem bd_dflt {v : Value} (l : K.lookup f = some ⟨oc, od, .func fd, sl⟩) (t : K.lookup T = some ⟨tc, td, .seq #[v] tn, ts⟩) (h : ∀ us : List Value, us.length + 1 = ps.length → ∃ k, bindArgs fd ⟨us, []⟩ = seqItems? (.ref T) >>= k ∧ k (some #[v]) = pure (ps.zip (us ++ [v]))) : Binds K fd ps [v] := fun s us X hl => by
  rw [List.length_append] at hl
  obtain ⟨k, e1, e2⟩ := h us hl
  refine BindsTo.of_looks fun M => ?_
  rw [e1]
  exact looks_items X t rfl (.of_pure e2)
theorem bd_kw (l : K.lookup f = some ⟨oc, od, .func fd, sl⟩) (kd : PySem.W.nsIn K D x = some (some u)) (h : ∀ us : List Value, us.length + 1 = ps.length → KwChain D [(x, u)] (bindArgs fd ⟨us, []⟩) (ps.zip (us ++ [u]))) : Binds K fd ps [u] := fun s us X hl => by
  rw [List.length_append] at hl
  refine BindsTo.of_looks fun M => ?_
  refine KwChain.looks X ?_ (h us hl)
  intro q hq
  rcases List.mem_cons.mp hq with e | e
  · rw [e]
    exact kd
  · cases e
end
section
variable {X : Cx} {CX : CXT} {k : Nat} {f C : Addr} {fd : FuncData} {ps ks : List Str} {sp : Sp} {E : XK} {m : Str} {pos apos : Pos} {o : Expr} {kws : List Keyword} {ta : TE} {tk : TA}
theorem pe_methK0 {pl : Sem Bool} {g : List Value → List Value → List Value} {gV : List V → List V → List V} (he : PE X o ta) (c : Cls X.K C) (hm : Meth X.K C m f) (F : FnOk X.prog X.w X.K X.mg X.base CX k f fd ps sp) (hr : Room k X.A) (hb : KBn X.K fd ps 1 ks g gV) (hx : Passes CX X E) (hkw : PK X kws tk)
    (hall : (backToKw pos (keywordEach kws X.env)).all (·.1.isSome) = true := by rfl)
    (hks : (backToKw pos (keywordEach kws X.env)).filterMap (·.1) = ks := by rfl)
    (hpl : ((backTo pos (starEach [] X.env)).any (·.1) || (backToKw pos (keywordEach kws X.env)).any (·.1.isNone)) = false := by rfl)
    (ht : eval (.Call (.Attribute o m apos) [] kws pos) X.env = (do
      let ov ← eval o X.env
      standAt apos.atName
      let (f, first) ← holding [ov] (getMethod ov m pl)
      callWith pos f first (backTo pos (starEach [] X.env)) (backToKw pos (keywordEach kws X.env))) := by rfl) :
    PE X (.Call (.Attribute o m apos) [] kws pos) (fun σ H Q => ta σ H fun x H1 => ∃ a dx fs, x = .ref a ∧ H1 a = some (.ins C dx fs) ∧ fs.lookup m = none ∧ tk σ H1 fun zs H2 => zs.length = ks.length ∧ sp (gV [.ref a] zs) H2 Q E) := by
  refine ⟨fun pins s σ H Q I h => ?_⟩
  refine PySem.W.methodCall_KW (pl := pl) (thn (he.run pins s σ H _ I h) fun u s1 ⟨x, H1, I1, rx, a, dx, fs, ex, ea, l, q⟩ => ?_) ht
  subst ex
  obtain rfl : u = Value.ref a := rx
  refine getmeth_ok I1 ea c hm l ?_
  refine PySem.W.callWith_KW0 (first := [.ref a]) (h₀ := X.base) I.ok.mod.kin hm.kp hall ?_ hpl
  refine thn (hkw.run pos pins s1 σ H1 _ I1 q) fun ws s2 ⟨zs, H2, I2, rz, l2, q2⟩ => ⟨I2.kIn, ?_⟩
  rw [hks]
  exact run_fnN (us := [.ref a]) (vs := [.ref a]) F hr hb hx I2 (.cons rfl .nil) rz rfl l2 q2
end
/-! ### operators of an own class -/
section
variable {X : Cx} {CX : CXT} {n : Nat} {C g : Addr} {fd : FuncData} {ps : List Str} {sp : Sp} {E : XK}
theorem inst_of {pins : List (Addr × Obj)} {σ : L2.St} {H : Hp} {s : Shared} {a dx : Addr} {fs : List (Str × V)} (I : Inv X pins σ H s) (ha : H a = some (.ins C dx fs)) : ∃ ox od, PySem.W.InstAt s.heap a ox C od := by
  obtain ⟨mA, J, _⟩ := ins_get I.hok ha
  obtain ⟨od, J, _⟩ := J.look
  exact ⟨_, _, J⟩
/-- x op y of two instances -/
def rOwn2 (C : Addr) (sp : Sp) (E : XK) : R2 := fun x y H Q => ∃ a dx fs b dy gs, x = .ref a ∧ y = .ref b ∧ H a = some (.ins C dx fs) ∧ H b = some (.ins C dy gs) ∧ sp [x, y] H Q E
theorem op_bin {op : Operator} {nm : Str} (m : Meth X.K C nm g) (sf : PySem.W.selfFirst X.K C = true) (F : FnOk X.prog X.w X.K X.mg X.base CX n g fd ps sp) (hr : Room n X.A) (hb : Binds X.K fd ps []) (hx : Passes CX X E)
    (hn : PySem.dunder op.info.2 = nm := by decide +kernel) : OpR X (binaryOp op) (rOwn2 C sp E) := by
  intro pins s σ H x y v u Q I rx ry h
  obtain ⟨a, dx, fs, b, dy, gs, rfl, rfl, ha, hb', q⟩ := h
  cases (show v = Value.ref a from rx)
  cases (show u = Value.ref b from ry)
  obtain ⟨ox, od, J⟩ := inst_of I ha
  obtain ⟨oy, od', J'⟩ := inst_of I hb'
  obtain ⟨mm, hF⟩ := I.fr
  refine PySem.W.binop_K (op := op) hF I.ok.mod.kin J J'.type sf (by rw [hn]; exact m.at_) m.fn ?_
  refine wpAny_mono (run_fn (us := [.ref a, .ref b]) (vs := [.ref a, .ref b]) F hr hb .nil hx I (.cons rfl (.cons rfl .nil)) q) (fun w s' z => ?_) fun _ _ x => x
  obtain ⟨z', H', I', rz, qz⟩ := z
  exact SlX.cmpback rz ⟨z', H', I', rz, qz⟩
/-- x op i -/
def rOwnI (C : Addr) (sp : Sp) (E : XK) : R2 := fun x y H Q => ∃ a dx fs i, x = .ref a ∧ y = .int i ∧ H a = some (.ins C dx fs) ∧ sp [x, y] H Q E
theorem op_binI {op : Operator} {nm nr : Str} {fo ro : Option Value} (m : Meth X.K C nm g) (sf : PySem.W.selfFirst X.K C = true) (h0 : PySem.W.findIn X.K (.ref C) nr = some none) (h1 : PySem.W.findIn X.K (.type "int") nm = some fo) (h2 : PySem.W.findIn X.K (.type "int") nr = some ro)
    (h3 : PySem.W.subIn X.K (.type "int") (.ref C) = some false) (F : FnOk X.prog X.w X.K X.mg X.base CX n g fd ps sp) (hr : Room n X.A) (hb : Binds X.K fd ps []) (hx : Passes CX X E)
    (hn : PySem.dunder op.info.2 = nm := by decide +kernel) (hq : PySem.dunderR op.info.2 = nr := by decide +kernel) : OpR X (binaryOp op) (rOwnI C sp E) := by
  intro pins s σ H x y v u Q I rx ry h
  obtain ⟨a, dx, fs, i, rfl, rfl, ha, q⟩ := h
  cases (show v = Value.ref a from rx)
  obtain ⟨t, e⟩ := (show ∃ t, u = Value.int i t from ry)
  cases e
  obtain ⟨ox, od, J⟩ := inst_of I ha
  obtain ⟨mm, hF⟩ := I.fr
  refine PySem.W.ksp_binT (op := op) (T := "int") hF I.ok.mod.kin J rfl sf (by rw [hn]; exact m.at_) m.fn (by rw [hq]; exact h0) (.inl rfl) (by rw [hn]; exact h1) (by rw [hq]; exact h2) h3 ?_
  refine wpAny_mono (run_fn (us := [.ref a, .int i t]) (vs := [.ref a, .int i]) F hr hb .nil hx I (.cons rfl (.cons ⟨t, rfl⟩ .nil)) q) (fun w s' z => ?_) fun _ _ x => x
  obtain ⟨z', H', I', rz, qz⟩ := z
  exact SlX.cmpback rz ⟨z', H', I', rz, qz⟩
/-- -x -/
def rOwn1 (C : Addr) (sp : Sp) (E : XK) : V → Hp → VK → Prop := fun x H Q => ∃ a dx fs, x = .ref a ∧ H a = some (.ins C dx fs) ∧ sp [x] H Q E
theorem un_own (m : Meth X.K C "__neg__" g) (F : FnOk X.prog X.w X.K X.mg X.base CX n g fd ps sp) (hr : Room n X.A) (hb : Binds X.K fd ps []) (hx : Passes CX X E) : UnR X (unaryOp .USub) (rOwn1 C sp E) := by
  intro pins s σ H x v Q I rx h
  obtain ⟨a, dx, fs, rfl, ha, q⟩ := h
  cases (show v = Value.ref a from rx)
  obtain ⟨ox, od, J⟩ := inst_of I ha
  obtain ⟨mm, hF⟩ := I.fr
  exact PySem.W.ksp_neg hF I.ok.mod.kin J m.at_ m.fn (run_fn (us := [.ref a]) (vs := [.ref a]) F hr hb .nil hx I (.cons rfl .nil) q)
/-- x == y, y anything whose class does not come first -/
def rOwnE (K : PySem.W.Frag) (C : Addr) (sp : Sp) (E : XK) : R2 := fun x y H Q => ∃ a dx fs tb, x = .ref a ∧ H a = some (.ins C dx fs) ∧ TyX K H y tb ∧ PySem.W.notFirst K C tb = true ∧ sp [x, y] H Q E
theorem op_eqO2 (m : Meth X.K C "__eq__" g) (F : FnOk X.prog X.w X.K X.mg X.base CX n g fd ps sp) (hr : Room n X.A) (hb : Binds X.K fd ps []) (hx : Passes CX X E) : OpR X (compareOp .Eq) (rOwn2 C sp E) := by
  intro pins s σ H x y v u Q I rx ry h
  obtain ⟨a, dx, fs, b, dy, gs, rfl, rfl, ha, hb', q⟩ := h
  cases (show v = Value.ref a from rx)
  cases (show u = Value.ref b from ry)
  obtain ⟨ox, od, J⟩ := inst_of I ha
  obtain ⟨oy, od', J'⟩ := inst_of I hb'
  obtain ⟨mm, hF⟩ := I.fr
  show wpAny _ _ (richCompare .Eq (.ref a) (.ref b)) _ _ s
  refine PySem.W.cmp_K (op := .Eq) (tb := .ref C) hr.units0 hF I.ok.mod.kin J J'.type (by simp [PySem.W.notFirst]) m.at_ m.fn ?_
  refine wpAny_mono (run_fn (us := [.ref a, .ref b]) (vs := [.ref a, .ref b]) F hr hb .nil hx I (.cons rfl (.cons rfl .nil)) q) (fun w s' z => ?_) fun _ _ x => x
  obtain ⟨z', H', I', rz, qz⟩ := z
  exact SlX.cmpback rz ⟨z', H', I', rz, qz⟩
/-- below a built-in: the callee runs -/
theorem run_in {A : Around} {pins : List (Addr × Obj)} {σ : L2.St} {H : Hp} {s : Shared} {Q : VK} {us : List Value} {ws : List V} (F : FnOk X.prog X.w X.K X.mg X.base CX n g fd ps sp) (hr : Room n A) (e0 : Env0 X.prog X.w X.K X.mg X.base A X.stack s H) (hb : Binds X.K fd ps []) (hx : Passes CX X E) (I : Inv X pins σ H s) (r : Vals ws us) (h : sp ws H Q E) :
    wpAny (model X.prog X.w) A (call (.ref g) us) (EP X pins σ Q) X.xe s := by
  have hl : (us ++ []).length = ps.length := by rw [List.append_nil, ← r.length]; exact F.len _ _ _ _ h
  have b0 := hb s us I.kIn hl
  rw [List.append_nil] at b0
  refine wpAny_call (codeAny_mono (F.run A X.stack s H ⟨us, []⟩ us ws Q E hr e0 b0 r h) fun r s' hq => ?_)
  cases r with
  | error e => exact hx pins σ H s e s' I hq
  | ok fl =>
    cases fl with
    | ret u => exact I.after hq
    | next => exact False.elim hq
    | brk => exact False.elim hq
    | cont => exact False.elim hq
end
section
variable {prog : Program} {w : World} {A : Around} {E : Value → Shared → Prop} {s : Shared} {K : PySem.W.Frag} {x y C f : Addr} {ox : Obj} {od : Option Obj}
theorem ifBound_objNe {M : Model} {args : List Value} {Q : Option Value → Shared → Prop} (X : K.In s.heap) (I : PySem.W.InstAt s.heap x ox C od) (hs : PySem.W.findIn K (.ref C) "__ne__" = some (some (.builtin "object.__ne__")))
    (h : wpAny M A (call (.builtin "object.__ne__") (.ref x :: args)) (fun v => Q (some v)) E s) : wpAny M A (callSpecialIfBound? (.ref x) "__ne__" args) Q E s := by
  simp only [callSpecialIfBound?, bindSpecialIfBound?]
  refine wpAny_holding (wpAny_bind (wpAny_bind (wpAny_bind (I.type.here ((PySem.W.looks_findIn X hs).here ?_)))))
  refine wpAny_bind (wpAny_askSetting (wpAny_ite ?_))
  have fin : wpAny M A (call (.builtin "object.__ne__") ([.ref x] ++ args) >>= fun v => pure (some v)) Q E s := wpAny_bind (wpAny_mono h (fun v s' h' => wpAny_pure h') fun _ _ h' => h')
  split
  · exact wpAny_bind (wpAny_of_eq (F.cmp_object.ne.bind _) (wpAny_pure (by exact fin)))
  · exact wpAny_tryCatch (wpAny_bind (wpAny_of_eq (F.cmp_object.ne.bind _) (wpAny_pure (by exact fin))))
theorem ne_entry {b : Value} {Q : Fin → Shared → Prop} (hu : A.units < cLine) (X : K.In s.heap) (I : PySem.W.InstAt s.heap x ox C od) (hs : PySem.W.findIn K (.ref C) "__eq__" = some (some (.ref f))) (hf : PySem.W.isFn K (.ref f) = true)
    (h : wpAny (model prog w) A (call (.ref f) [.ref x, b]) (fun r s' => ∃ k, r = .bool k ∧ Q (.done (.ret (.bool (!k)))) s') E s) : wpAny (model prog w) A (Builtin.«object.__ne__» ⟨[.ref x, b], []⟩) Q E s := by
  unfold Builtin.«object.__ne__»
  refine wpAny_bind (wpAny_of_eq (a := (Value.ref x, [b])) rfl ?_)
  refine wpAny_bind (wpAny_cRoomFor hu ?_)
  refine wpAny_bind (PySem.W.ifBound_K X I hs hf (wpAny_mono h (fun r s' hr => ?_) fun _ _ z => z))
  obtain ⟨k, rfl, q⟩ := hr
  exact wpAny_bind (wpAny_truthy_bool (wpAny_pure q))
theorem call_objNe {b : Value} {Q : Value → Shared → Prop} (hu : A.in1.units < cLine) (X : K.In s.heap) (I : PySem.W.InstAt s.heap x ox C od) (hm : PySem.W.mroIn K C (.type "object") = some true) (hs : PySem.W.findIn K (.ref C) "__eq__" = some (some (.ref f))) (hf : PySem.W.isFn K (.ref f) = true)
    (h : wpAny (model prog w) A.in1 (call (.ref f) [.ref x, b]) (fun r s' => ∃ k, r = .bool k ∧ Q (.bool (!k)) s') E s) : wpAny (model prog w) A (call (.builtin "object.__ne__") [.ref x, b]) Q E s :=
  wpAny_call (codeAny_call_builtin F.cmp_object.ne.plain F.cmpEntry_ne (PySem.W.check_slot F.cmpKind_ne F.cmpSplit_ne (I.type.andThen (PySem.W.looks_mroIn X hm)) (F.cmpArgs_ne _ _) (ne_entry hu X I hs hf h)))
theorem rc_ne {oy : Obj} {od' : Option Obj} {Q : Value → Shared → Prop} (hu : A.in1.units < cLine) (hu0 : A.units < cLine) (X : K.In s.heap) (I : PySem.W.InstAt s.heap x ox C od) (J : PySem.W.InstAt s.heap y oy C od') (hm : PySem.W.mroIn K C (.type "object") = some true)
    (hn : PySem.W.findIn K (.ref C) "__ne__" = some (some (.builtin "object.__ne__"))) (hs : PySem.W.findIn K (.ref C) "__eq__" = some (some (.ref f))) (hf : PySem.W.isFn K (.ref f) = true)
    (h : wpAny (model prog w) A.in1 (call (.ref f) [.ref x, .ref y]) (fun r s' => ∃ k, r = .bool k ∧ Q (.bool (!k)) s') E s) : wpAny (model prog w) A (richCompare .NotEq (.ref x) (.ref y)) Q E s := by
  have one : wpAny (model prog w) A (tryCompare (.ref x) "__ne__" (.ref y)) (fun r s' => ∃ v, r = some v ∧ Q v s') E s := by
    unfold tryCompare
    refine wpAny_bind (ifBound_objNe X I hn (call_objNe hu X I hm hs hf (wpAny_mono h (fun r s' hr => ?_) fun _ _ e => e)))
    obtain ⟨k, rfl, q⟩ := hr
    exact ⟨k, rfl, wpAny_pure ⟨_, rfl, q⟩⟩
  unfold richCompare
  simp only [oneThing_ref]
  refine wpAny_holding (wpAny_bind (wpAny_cRoomFor hu0 ?_))
  refine wpAny_bind (I.type.here (wpAny_bind (J.type.here ?_)))
  simp only [bne_self_eq_false, Bool.false_eq_true, if_false]
  refine wpAny_bind (wpAny_pure ?_)
  simp only [Bool.false_eq_true, if_false]
  refine wpAny_bind (wpAny_mono one (fun r s' z => ?_) fun _ _ e => e)
  obtain ⟨v, rfl, hq⟩ := z
  exact wpAny_pure hq
theorem bool_own {Q : Value → Shared → Prop} (X : K.In s.heap) (I : PySem.W.InstAt s.heap x ox C od) (hs : PySem.W.findIn K (.ref C) "__bool__" = some (some (.ref f))) (hf : PySem.W.isFn K (.ref f) = true)
    (h : wpAny (model prog w) A.in1.in1 (call (.ref f) [.ref x]) (fun r s₁ => ∃ k, r = Value.bool k ∧ Q r s₁) E s) : wpAny (model prog w) A (call (.type "bool") [.ref x]) Q E s := by
  refine callType_codes (T := "bool") (Bi := Builtin.«object.__init__») (Q₁ := fun r s₁ => ∃ k, r = Value.bool k ∧ Q r s₁) PySem.F.called_bool (PySem.F.typeCall_bool_1 _) PySem.F.entry_object_init ?_ ?_
  · refine codeAny_of_tree ?_
    show wpAny _ A.in1.in1 (do checkBuiltinCall "bool.__new__" ⟨[.type "bool", .ref x], []⟩; again (.builtin "bool.__new__" ⟨[.type "bool", .ref x], []⟩)) _ _ s
    refine wpAny_bind (wpAny_of_eq (PySem.F.newCall_bool_1 _) (wpAny_pure ⟨plainId_quiet (by decide +kernel) _, codeAny_builtin PySem.F.entry_bool_new ?_⟩))
    rw [Around.under_plainId (by decide +kernel) _]
    have tr : wpAny (model prog w) A.in1.in1 (truthy (.ref x)) (fun k s₁ => Q (.bool k) s₁) E s := by
      unfold truthy
      refine wpAny_bind (m := callSpecial? (.ref x) (Str.ofString "__bool__")) (PySem.W.special_fn X I hs (beq_iff_eq.mp hf) (wpAny_mono h (fun r s' hr => ?_) fun _ _ y => y))
      obtain ⟨k, rfl, q⟩ := hr
      exact wpAny_pure q
    obtain ⟨hp, g, d, tk, os⟩ := s
    have f1 := F.conv_sub_bool
    repeat (any_goals (first | assumption | (with_reducible refine wpAny_mono tr (fun k s₁ q => ?_) fun _ _ z => z) | wp_step))
    all_goals first | exact ⟨_, rfl, q⟩ | skip
  · rintro obj s₁ ⟨k, rfl, hq⟩
    exact ⟨rfl, PySem.F.args_object_init_2 _ _, object_init_meets PySem.F.called_bool.init.lookup PySem.F.called_bool.made (by decide) prog w A.in1 _ s₁ ⟨rfl, rfl, hq⟩⟩
end
section
variable {X : Cx} {CX : CXT} {n : Nat} {C g : Addr} {fd : FuncData} {ps : List Str} {sp : Sp} {E : XK}
/-- x != y by the own == -/
def rOwnN (C : Addr) (sp : Sp) (E : XK) : R2 := fun x y H Q => ∃ a dx fs b dy gs, x = .ref a ∧ y = .ref b ∧ H a = some (.ins C dx fs) ∧ H b = some (.ins C dy gs) ∧ sp [x, y] H (fun z H' => ∃ k, z = .bl k ∧ Q (.bl (!k)) H') E
theorem op_neO2 (m : Meth X.K C "__eq__" g) (hm : PySem.W.mroIn X.K C (.type "object") = some true) (hn : PySem.W.findIn X.K (.ref C) "__ne__" = some (some (.builtin "object.__ne__"))) (F : FnOk X.prog X.w X.K X.mg X.base CX n g fd ps sp) (hr : Room (n + 1) X.A) (hb : Binds X.K fd ps []) (hx : Passes CX X E) :
    OpR X (compareOp .NotEq) (rOwnN C sp E) := by
  intro pins s σ H x y v u Q I rx ry h
  obtain ⟨a, dx, fs, b, dy, gs, rfl, rfl, ha, hb', q⟩ := h
  cases (show v = Value.ref a from rx)
  cases (show u = Value.ref b from ry)
  obtain ⟨ox, od, J⟩ := inst_of I ha
  obtain ⟨oy, od', J'⟩ := inst_of I hb'
  have hr1 : Room n X.A.in1 := Room.in1 hr
  show wpAny _ _ (richCompare .NotEq (.ref a) (.ref b)) _ _ s
  refine rc_ne hr1.units0 hr.units0 I.kIn J J' hm hn m.at_ m.fn ?_
  refine wpAny_mono (run_in (us := [.ref a, .ref b]) (ws := [.ref a, .ref b]) F hr1 I.env0.in1 hb hx I (.cons rfl (.cons rfl .nil)) q) (fun w s' z => ?_) fun _ _ x => x
  obtain ⟨z', H', I', rz, k, rfl, qz⟩ := z
  cases (show w = Value.bool k from rz)
  exact ⟨k, rfl, .bl (!k), H', I', rfl, qz⟩
/-- bool(x) -/
def rBoolO (C : Addr) (sp : Sp) (E : XK) : List V → Hp → VK → Prop := fun xs H Q => ∃ a dx fs, xs = [V.ref a] ∧ H a = some (.ins C dx fs) ∧ sp [.ref a] H (fun z H' => ∃ k, z = .bl k ∧ Q (.bl k) H') E
theorem call_boolO (m : Meth X.K C "__bool__" g) (F : FnOk X.prog X.w X.K X.mg X.base CX n g fd ps sp) (hr : Room (n + 2) X.A) (hb : Binds X.K fd ps []) (hx : Passes CX X E) : CallR X (.type "bool") (rBoolO C sp E) := by
  intro pins s σ H xs us Q I r h
  obtain ⟨a, dx, fs, rfl, ha, q⟩ := h
  obtain ⟨u, rfl, ru⟩ := r.one
  cases (show u = Value.ref a from ru)
  obtain ⟨ox, od, J⟩ := inst_of I ha
  have hr2 : Room n X.A.in1.in1 := (show Room (n + 1) X.A.in1 from Room.in1 hr).in1
  refine bool_own I.kIn J m.at_ m.fn (wpAny_mono (run_in (us := [.ref a]) (ws := [.ref a]) F hr2 I.env0.in1.in1 hb hx I (.cons rfl .nil) q) (fun w s' z => ?_) fun _ _ x => x)
  obtain ⟨z', H', I', rz, k, rfl, qz⟩ := z
  cases (show w = Value.bool k from rz)
  exact ⟨k, rfl, .bl k, H', I', rfl, qz⟩
/-- any(xs) of whole numbers -/
def rAnyI (K : PySem.W.Frag) : List V → Hp → VK → Prop := fun vs H Q => ∃ (a : Addr) (ns : List Int), vs = [V.ref a] ∧ SqL K H a (ns.map V.int) ∧ Q (.bl (ns.any fun i => i != 0)) H
theorem vals_ints : ∀ {ns : List Int} {us : List Value}, Vals (ns.map V.int) us → ∀ (i : Nat) (v : Value), us[i]? = some v → ∃ z t, ns[i]? = some z ∧ v = .int z t
  | [], us, h, i, v, hv => by
    rw [List.map_nil] at h
    cases h
    simp at hv
  | z :: ns, us, h, i, v, hv => by
    rw [List.map_cons] at h
    cases h with
    | cons r t =>
      obtain ⟨t', e⟩ := (show ∃ t, _ = Value.int z t from r)
      match i, hv with
      | 0, hv =>
        cases hv
        exact ⟨z, t', rfl, e⟩
      | i + 1, hv => exact vals_ints t i v (by simpa using hv)
theorem any_rangeI : ∀ ns : List Int, (List.range ns.length).any (fun i => ns.getD i 0 != 0) = ns.any fun i => i != 0
  | [] => rfl
  | b :: bs => by
    rw [List.length_cons, List.range_succ_eq_map, List.any_cons, List.any_map, List.any_cons, ← any_rangeI bs]
    all_goals rfl
theorem cr_anyI (hc : X.calm = true) : CallR X (.builtin "any") (rAnyI X.K) := by
  intro pins s σ H vs us Q I r h
  obtain ⟨a, ns, rfl, hs, q⟩ := h
  obtain ⟨its, rv, hl, _⟩ := I.list hs
  rw [Vals.ref1 r]
  refine call_any_walk (iter_any hl.isList fun s₂ e2 st hne => ?_)
  subst e2
  have tr : TruthOf X.prog X.w X.A.in1 (fun i v => its.toArray[i]? = some v) (fun i => ns.getD i 0 != 0) := fun i v s Q E hv hq => by
    obtain ⟨z, t, hz, rfl⟩ := vals_ints rv i v (by simpa using hv)
    have hg : ns.getD i 0 = z := by rw [List.getD_eq_getElem?_getD, hz] <;> rfl
    have hq' : Q (ns.getD i 0 != 0) s := hq
    rw [hg] at hq'
    exact P.truthy_int hq'
  refine ⟨_, _, _, _, _, _, _, rfl, Walks.list (A := X.A.in1) (I.ok.hd hc) _ a hne its.toArray, st, tr, fun h' tk hk => ?_⟩
  refine ⟨.bl _, H, I.kept fun b o eo => hk b o (fun hmem => ?_) (Heap.get?_push_of_some _ eo), ?_, q⟩
  · rcases List.mem_cons.mp hmem with e1 | hmem
    · exact absurd (e1 ▸ Heap.lt_size eo) (Nat.lt_irrefl _)
    · cases hmem
  · show Value.bool _ = Value.bool _
    have hlen := rv.length
    rw [List.length_map] at hlen
    rw [← any_rangeI, List.size_toArray, ← hlen]
end
/-! ### a default that is an empty tuple -/
inductive Dfl0 (K : PySem.W.Frag) (r : Addr) : Prop
  | mk {d : Option Addr} {m : Nat} {s : Array (Option Value)} (a : K.lookup r = some ⟨.type "tuple", d, .seq #[] m, s⟩) : Dfl0 K r
theorem Dfl0.sq {K : PySem.W.Frag} {H : Hp} {r : Addr} (h : Dfl0 K r) : SqT K H r [] := by
  obtain ⟨a⟩ := h
  exact .inr ⟨_, _, _, a, rfl, rfl, Nat.zero_le _, .nil⟩
def topS (i : Nat) : Stmt := PySem.Challenge.pw_grainyard_k65_texts_of_heaps.main.body.getD i (.Pass ⟨0, 0, 0, 0⟩)
abbrev s_decimal_text : Stmt := topS 13
theorem sc_decimal_text : FnScope ["number", "rest", "groups", "group"] ["number"] (defScope s_decimal_text) := ⟨rfl, rfl, rfl, by decide +kernel, rfl, by decide +kernel, by decide +kernel⟩
abbrev s_whole_root : Stmt := topS 15
theorem sc_whole_root : FnScope ["number", "guess"] ["number"] (defScope s_whole_root) := ⟨rfl, rfl, rfl, by decide +kernel, rfl, by decide +kernel, by decide +kernel⟩
abbrev s_is_root : Stmt := topS 16
theorem sc_is_root : FnScope ["number", "whole"] ["number"] (defScope s_is_root) := ⟨rfl, rfl, rfl, by decide +kernel, rfl, by decide +kernel, by decide +kernel⟩
abbrev s_check_root : Stmt := topS 17
theorem sc_check_root : FnScope ["root"] ["root"] (defScope s_check_root) := ⟨rfl, rfl, rfl, by decide +kernel, rfl, by decide +kernel, by decide +kernel⟩
abbrev s_sign : Stmt := topS 18
theorem sc_sign : FnScope ["pair", "root", "worth", "a", "b"] ["pair", "root"] (defScope s_sign) := ⟨rfl, rfl, rfl, by decide +kernel, rfl, by decide +kernel, by decide +kernel⟩
abbrev s_is_length : Stmt := topS 19
theorem sc_is_length : FnScope ["pair", "root"] ["pair", "root"] (defScope s_is_length) := ⟨rfl, rfl, rfl, by decide +kernel, rfl, by decide +kernel, by decide +kernel⟩
abbrev s_scaled : Stmt := topS 20
theorem sc_scaled : FnScope ["pair", "number", "a", "b"] ["pair", "number"] (defScope s_scaled) := ⟨rfl, rfl, rfl, by decide +kernel, rfl, by decide +kernel, by decide +kernel⟩
abbrev s_is_sheet : Stmt := topS 22
theorem sc_is_sheet : FnScope ["sheet", "root", "across", "along"] ["sheet", "root"] (defScope s_is_sheet) := ⟨rfl, rfl, rfl, by decide +kernel, rfl, by decide +kernel, by decide +kernel⟩
abbrev s_check_rows : Stmt := topS 23
theorem sc_check_rows : FnScope ["rows", "root", "at", "sheet", "count"] ["rows", "root"] (defScope s_check_rows) := ⟨rfl, rfl, rfl, by decide +kernel, rfl, by decide +kernel, by decide +kernel⟩
abbrev s_merged : Stmt := topS 24
theorem sc_merged : FnScope ["rows", "counts", "sheet", "count"] ["rows"] (defScope s_merged) := ⟨rfl, rfl, rfl, by decide +kernel, rfl, by decide +kernel, by decide +kernel⟩
abbrev s_Heap_init : Stmt := inClass (topS 26) 1
theorem sc_Heap_init : FnScope ["self", "root", "rows"] ["self", "root", "rows"] (defScope s_Heap_init) := ⟨rfl, rfl, rfl, by decide +kernel, rfl, by decide +kernel, by decide +kernel⟩
abbrev s_Heap_of : Stmt := inClass (topS 26) 2
theorem sc_Heap_of : FnScope ["cls", "root", "sheets", "sheet"] ["cls", "root", "sheets"] (defScope s_Heap_of) := ⟨rfl, rfl, rfl, by decide +kernel, rfl, by decide +kernel, by decide +kernel⟩
abbrev s_Heap_root : Stmt := inClass (topS 26) 3
theorem sc_Heap_root : FnScope ["self"] ["self"] (defScope s_Heap_root) := ⟨rfl, rfl, rfl, by decide +kernel, rfl, by decide +kernel, by decide +kernel⟩
abbrev s_Heap_rows : Stmt := inClass (topS 26) 6
theorem sc_Heap_rows : FnScope ["self"] ["self"] (defScope s_Heap_rows) := ⟨rfl, rfl, rfl, by decide +kernel, rfl, by decide +kernel, by decide +kernel⟩
abbrev s_Heap_eq : Stmt := inClass (topS 26) 13
theorem sc_Heap_eq : FnScope ["self", "other"] ["self", "other"] (defScope s_Heap_eq) := ⟨rfl, rfl, rfl, by decide +kernel, rfl, by decide +kernel, by decide +kernel⟩
abbrev s_pair_text : Stmt := topS 29
theorem sc_pair_text : FnScope ["pair", "sign", "a", "b"] ["pair"] (defScope s_pair_text) := ⟨rfl, rfl, rfl, by decide +kernel, rfl, by decide +kernel, by decide +kernel⟩
abbrev s_sheet_text : Stmt := topS 30
theorem sc_sheet_text : FnScope ["sheet", "across", "along"] ["sheet"] (defScope s_sheet_text) := ⟨rfl, rfl, rfl, by decide +kernel, rfl, by decide +kernel, by decide +kernel⟩
abbrev s_row_text : Stmt := topS 31
theorem sc_row_text : FnScope ["row", "sheet", "count"] ["row"] (defScope s_row_text) := ⟨rfl, rfl, rfl, by decide +kernel, rfl, by decide +kernel, by decide +kernel⟩
abbrev s_heap_text : Stmt := topS 32
theorem sc_heap_text : FnScope ["heap", "lines", "row", "line"] ["heap"] (defScope s_heap_text) := ⟨rfl, rfl, rfl, by decide +kernel, rfl, by decide +kernel, by decide +kernel⟩
abbrev s_read_number : Stmt := topS 33
theorem sc_read_number : FnScope ["text", "digits", "number", "digit"] ["text"] (defScope s_read_number) := ⟨rfl, rfl, rfl, by decide +kernel, rfl, by decide +kernel, by decide +kernel⟩
abbrev s_read_numbers : Stmt := topS 34
theorem sc_read_numbers : FnScope ["texts", "numbers", "text"] ["texts"] (defScope s_read_numbers) := ⟨rfl, rfl, rfl, by decide +kernel, rfl, by decide +kernel, by decide +kernel⟩
abbrev s_read_pair : Stmt := topS 35
theorem sc_read_pair : FnScope ["text", "body", "at", "pair"] ["text"] (defScope s_read_pair) := ⟨rfl, rfl, rfl, by decide +kernel, rfl, by decide +kernel, by decide +kernel⟩
abbrev s_read_sheet : Stmt := topS 36
theorem sc_read_sheet : FnScope ["text", "pairs", "part"] ["text"] (defScope s_read_sheet) := ⟨rfl, rfl, rfl, by decide +kernel, rfl, by decide +kernel, by decide +kernel⟩
abbrev s_read_root : Stmt := topS 37
theorem sc_read_root : FnScope ["line", "root", "word", "gap", "rest"] ["line"] (defScope s_read_root) := ⟨rfl, rfl, rfl, by decide +kernel, rfl, by decide +kernel, by decide +kernel⟩
abbrev s_read_row : Stmt := topS 38
theorem sc_read_row : FnScope ["line", "root", "count", "sheet", "word", "gap", "rest"] ["line", "root"] (defScope s_read_row) := ⟨rfl, rfl, rfl, by decide +kernel, rfl, by decide +kernel, by decide +kernel⟩
abbrev s_read_rows : Stmt := topS 39
theorem sc_read_rows : FnScope ["lines", "root", "rows", "at", "line", "row"] ["lines", "root"] (defScope s_read_rows) := ⟨rfl, rfl, rfl, by decide +kernel, rfl, by decide +kernel, by decide +kernel⟩
abbrev s_parse_heap : Stmt := topS 40
theorem sc_parse_heap : FnScope ["text", "root", "rows", "tail", "lines"] ["text"] (defScope s_parse_heap) := ⟨rfl, rfl, rfl, by decide +kernel, rfl, by decide +kernel, by decide +kernel⟩
abbrev s_source : Stmt := topS 42
theorem sc_source : FnScope ["_law_script", "_law_mix", "_law_cell"] ["_law_script"] (defScope s_source) := ⟨rfl, rfl, rfl, by decide +kernel, rfl, by decide +kernel, by decide +kernel⟩
abbrev s_pull : Stmt := topS 43
theorem sc_pull : FnScope ["_law_bag", "_law_size", "_law_mix", "_law_cell", "_law_found"] ["_law_bag", "_law_size"] (defScope s_pull) := ⟨rfl, rfl, rfl, by decide +kernel, rfl, by decide +kernel, by decide +kernel⟩
abbrev s_of : Stmt := topS 44
theorem sc_of : FnScope ["_law_bag", "_law_some"] ["_law_bag", "_law_some"] (defScope s_of) := ⟨rfl, rfl, rfl, by decide +kernel, rfl, by decide +kernel, by decide +kernel⟩
abbrev s_roots : Stmt := topS 45
theorem sc_roots : FnScope ["_law_d"] [] (defScope s_roots) := ⟨rfl, rfl, rfl, by decide +kernel, rfl, by decide +kernel, by decide +kernel⟩
abbrev s_a_root : Stmt := topS 46
theorem sc_a_root : FnScope ["_law_bag"] ["_law_bag"] (defScope s_a_root) := ⟨rfl, rfl, rfl, by decide +kernel, rfl, by decide +kernel, by decide +kernel⟩
abbrev s_stock_of : Stmt := topS 47
theorem sc_stock_of : FnScope ["_law_rows", "_law_found", "_law_sheet", "_law_count"] ["_law_rows"] (defScope s_stock_of) := ⟨rfl, rfl, rfl, by decide +kernel, rfl, by decide +kernel, by decide +kernel⟩
abbrev s_any_pair : Stmt := topS 48
theorem sc_any_pair : FnScope ["_law_bag", "_law_size"] ["_law_bag"] (defScope s_any_pair) := ⟨rfl, rfl, rfl, by decide +kernel, rfl, by decide +kernel, by decide +kernel⟩
abbrev s_lsign : Stmt := topS 49
theorem sc_lsign : FnScope ["_law_pair", "_law_root", "_law_value"] ["_law_pair", "_law_root"] (defScope s_lsign) := ⟨rfl, rfl, rfl, by decide +kernel, rfl, by decide +kernel, by decide +kernel⟩
abbrev s_a_length : Stmt := topS 50
theorem sc_a_length : FnScope ["_law_bag", "_law_root", "_law_pair"] ["_law_bag", "_law_root"] (defScope s_a_length) := ⟨rfl, rfl, rfl, by decide +kernel, rfl, by decide +kernel, by decide +kernel⟩
abbrev s_a_sheet : Stmt := topS 51
theorem sc_a_sheet : FnScope ["_law_bag", "_law_root", "_law_one"] ["_law_bag", "_law_root"] (defScope s_a_sheet) := ⟨rfl, rfl, rfl, by decide +kernel, rfl, by decide +kernel, by decide +kernel⟩
abbrev s_some_count : Stmt := topS 52
theorem sc_some_count : FnScope ["_law_bag"] ["_law_bag"] (defScope s_some_count) := ⟨rfl, rfl, rfl, by decide +kernel, rfl, by decide +kernel, by decide +kernel⟩
abbrev s_some_rows : Stmt := topS 53
theorem sc_some_rows : FnScope ["_law_bag", "_law_root", "_law_most", "_law_found", "_law_k", "_law_sheet"] ["_law_bag", "_law_root", "_law_most"] (defScope s_some_rows) := ⟨rfl, rfl, rfl, by decide +kernel, rfl, by decide +kernel, by decide +kernel⟩
abbrev s_listed : Stmt := topS 54
theorem sc_listed : FnScope ["_law_stock", "_law_sheet"] ["_law_stock"] (defScope s_listed) := ⟨rfl, rfl, rfl, by decide +kernel, rfl, by decide +kernel, by decide +kernel⟩
abbrev s_heap_of : Stmt := topS 55
theorem sc_heap_of : FnScope ["_law_root", "_law_stock"] ["_law_root", "_law_stock"] (defScope s_heap_of) := ⟨rfl, rfl, rfl, by decide +kernel, rfl, by decide +kernel, by decide +kernel⟩
abbrev s_lpair_text : Stmt := topS 56
theorem sc_lpair_text : FnScope ["_law_pair", "_law_a", "_law_b"] ["_law_pair"] (defScope s_lpair_text) := ⟨rfl, rfl, rfl, by decide +kernel, rfl, by decide +kernel, by decide +kernel⟩
abbrev s_lsheet_text : Stmt := topS 57
theorem sc_lsheet_text : FnScope ["_law_sheet"] ["_law_sheet"] (defScope s_lsheet_text) := ⟨rfl, rfl, rfl, by decide +kernel, rfl, by decide +kernel, by decide +kernel⟩
abbrev s_lheap_text : Stmt := topS 58
theorem sc_lheap_text : FnScope ["_law_root", "_law_stock", "_law_lines", "_law_line", "_law_sheet", "_law_count"] ["_law_root", "_law_stock"] (defScope s_lheap_text) := ⟨rfl, rfl, rfl, by decide +kernel, rfl, by decide +kernel, by decide +kernel⟩
abbrev s_like : Stmt := topS 59
theorem sc_like : FnScope ["_law_found", "_law_due", "_law_k"] ["_law_found", "_law_due"] (defScope s_like) := ⟨rfl, rfl, rfl, by decide +kernel, rfl, by decide +kernel, by decide +kernel⟩
abbrev s_is_heap : Stmt := topS 60
theorem sc_is_heap : FnScope ["_law_heap_z", "_law_root", "_law_stock"] ["_law_heap_z", "_law_root", "_law_stock"] (defScope s_is_heap) := ⟨rfl, rfl, rfl, by decide +kernel, rfl, by decide +kernel, by decide +kernel⟩
abbrev s_bent_text : Stmt := topS 61
theorem sc_bent_text : FnScope ["_law_bag", "_law_text_z", "_law_signs", "_law_at", "_law_sign_z"] ["_law_bag", "_law_text_z", "_law_signs"] (defScope s_bent_text) := ⟨rfl, rfl, rfl, by decide +kernel, rfl, by decide +kernel, by decide +kernel⟩
abbrev s_bent_lines : Stmt := topS 62
theorem sc_bent_lines : FnScope ["_law_bag", "_law_text_z", "_law_odd", "_law_lines", "_law_way", "_law_at", "_law_to"] ["_law_bag", "_law_text_z"] (defScope s_bent_lines) := ⟨rfl, rfl, rfl, by decide +kernel, rfl, by decide +kernel, by decide +kernel⟩
abbrev s_number_read : Stmt := topS 63
theorem sc_number_read : FnScope ["_law_word", "_law_digits", "_law_sign_z"] ["_law_word"] (defScope s_number_read) := ⟨rfl, rfl, rfl, by decide +kernel, rfl, by decide +kernel, by decide +kernel⟩
abbrev s_pair_read : Stmt := topS 64
theorem sc_pair_read : FnScope ["_law_text_z", "_law_signs", "_law_at", "_law_first", "_law_second", "_law_number", "_law_one", "_law_other", "_law_k"] ["_law_text_z"] (defScope s_pair_read) := ⟨rfl, rfl, rfl, by decide +kernel, rfl, by decide +kernel, by decide +kernel⟩
abbrev s_sheet_read : Stmt := topS 65
theorem sc_sheet_read : FnScope ["_law_text_z", "_law_pairs", "_law_part"] ["_law_text_z"] (defScope s_sheet_read) := ⟨rfl, rfl, rfl, by decide +kernel, rfl, by decide +kernel, by decide +kernel⟩
abbrev s_row_flaw : Stmt := topS 66
theorem sc_row_flaw : FnScope ["_law_sheet", "_law_copies", "_law_root"] ["_law_sheet", "_law_copies", "_law_root"] (defScope s_row_flaw) := ⟨rfl, rfl, rfl, by decide +kernel, rfl, by decide +kernel, by decide +kernel⟩
abbrev s_heap_read : Stmt := topS 67
theorem sc_heap_read : FnScope ["_law_text_z", "_law_lines", "_law_last", "_law_head", "_law_root", "_law_at", "_law_stock", "_law_before", "_law_parts", "_law_count", "_law_sheet"] ["_law_text_z"] (defScope s_heap_read) := ⟨rfl, rfl, rfl, by decide +kernel, rfl, by decide +kernel, by decide +kernel⟩
abbrev s_field_of : Stmt := topS 68
theorem sc_field_of : FnScope ["_law_e"] ["_law_e"] (defScope s_field_of) := ⟨rfl, rfl, rfl, by decide +kernel, rfl, by decide +kernel, by decide +kernel⟩
abbrev s_try : Stmt := topS 69
theorem sc_try : FnScope ["_law_ask", "_law_e"] ["_law_ask"] (defScope s_try) := ⟨rfl, rfl, rfl, by decide +kernel, rfl, by decide +kernel, by decide +kernel⟩
abbrev s_law : Stmt := topS 70
theorem sc_law : FnScope ["_law_script", "_law_bag", "_law_texts", "_law_turn", "_law_text_z", "_law_big", "_law_root", "_law_stock", "_law_bent", "_law_heap_z", "_law_due", "_law_found"] ["_law_script"] (defScope s_law) := ⟨rfl, rfl, rfl, by decide +kernel, rfl, by decide +kernel, by decide +kernel⟩
abbrev i_BadRoot : Stmt := inClass (topS 4) 0
theorem sc_iBadRoot : NScope ["self", "number", "__class__"] ["self", "number"] ["__class__"] (defScope i_BadRoot) := nscope_by (by decide +kernel)
abbrev i_BadCount : Stmt := inClass (topS 5) 0
theorem sc_iBadCount : NScope ["self", "number", "__class__"] ["self", "number"] ["__class__"] (defScope i_BadCount) := nscope_by (by decide +kernel)
abbrev i_BadRow : Stmt := inClass (topS 6) 0
theorem sc_iBadRow : NScope ["self", "at", "__class__"] ["self", "at"] ["__class__"] (defScope i_BadRow) := nscope_by (by decide +kernel)
abbrev i_OtherRoot : Stmt := inClass (topS 7) 0
theorem sc_iOtherRoot : NScope ["self", "__class__"] ["self"] ["__class__"] (defScope i_OtherRoot) := nscope_by (by decide +kernel)
abbrev i_BadText : Stmt := inClass (topS 8) 0
theorem sc_iBadText : NScope ["self", "at", "__class__"] ["self", "at"] ["__class__"] (defScope i_BadText) := nscope_by (by decide +kernel)
abbrev i_NoSheet : Stmt := inClass (topS 9) 0
theorem sc_iNoSheet : NScope ["self", "sheet", "__class__"] ["self", "sheet"] ["__class__"] (defScope i_NoSheet) := nscope_by (by decide +kernel)
abbrev i_NothingLeft : Stmt := inClass (topS 10) 0
theorem sc_iNothingLeft : NScope ["self", "__class__"] ["self"] ["__class__"] (defScope i_NothingLeft) := nscope_by (by decide +kernel)
structure Txt (K : PySem.W.Frag) (mg : Str → Option Value) where
  f_decimal_text : Addr
  d_decimal_text : FuncData
  F_decimal_text : Fun K "decimal_text" "decimal_text" s_decimal_text f_decimal_text d_decimal_text
  g_decimal_text : mg "decimal_text" = some (.ref f_decimal_text)
  b_decimal_text : Binds K d_decimal_text ["number"] []
  f_whole_root : Addr
  d_whole_root : FuncData
  F_whole_root : Fun K "whole_root" "whole_root" s_whole_root f_whole_root d_whole_root
  g_whole_root : mg "whole_root" = some (.ref f_whole_root)
  b_whole_root : Binds K d_whole_root ["number"] []
  f_is_root : Addr
  d_is_root : FuncData
  F_is_root : Fun K "is_root" "is_root" s_is_root f_is_root d_is_root
  g_is_root : mg "is_root" = some (.ref f_is_root)
  b_is_root : Binds K d_is_root ["number"] []
  f_check_root : Addr
  d_check_root : FuncData
  F_check_root : Fun K "check_root" "check_root" s_check_root f_check_root d_check_root
  g_check_root : mg "check_root" = some (.ref f_check_root)
  b_check_root : Binds K d_check_root ["root"] []
  f_sign : Addr
  d_sign : FuncData
  F_sign : Fun K "sign" "sign" s_sign f_sign d_sign
  g_sign : mg "sign" = some (.ref f_sign)
  b_sign : Binds K d_sign ["pair", "root"] []
  f_is_length : Addr
  d_is_length : FuncData
  F_is_length : Fun K "is_length" "is_length" s_is_length f_is_length d_is_length
  g_is_length : mg "is_length" = some (.ref f_is_length)
  b_is_length : Binds K d_is_length ["pair", "root"] []
  f_scaled : Addr
  d_scaled : FuncData
  F_scaled : Fun K "scaled" "scaled" s_scaled f_scaled d_scaled
  g_scaled : mg "scaled" = some (.ref f_scaled)
  b_scaled : Binds K d_scaled ["pair", "number"] []
  f_is_sheet : Addr
  d_is_sheet : FuncData
  F_is_sheet : Fun K "is_sheet" "is_sheet" s_is_sheet f_is_sheet d_is_sheet
  g_is_sheet : mg "is_sheet" = some (.ref f_is_sheet)
  b_is_sheet : Binds K d_is_sheet ["sheet", "root"] []
  f_check_rows : Addr
  d_check_rows : FuncData
  F_check_rows : Fun K "check_rows" "check_rows" s_check_rows f_check_rows d_check_rows
  g_check_rows : mg "check_rows" = some (.ref f_check_rows)
  b_check_rows : Binds K d_check_rows ["rows", "root"] []
  f_merged : Addr
  d_merged : FuncData
  F_merged : Fun K "merged" "merged" s_merged f_merged d_merged
  g_merged : mg "merged" = some (.ref f_merged)
  b_merged : Binds K d_merged ["rows"] []
  C_Heap : Addr
  cl_Heap : Cls K C_Heap
  g_Heap : mg "Heap" = some (.ref C_Heap)
  sf_Heap : PySem.W.selfFirst K C_Heap = true
  nq_Heap : PySem.W.noSeq K C_Heap = true
  n_Heap_held_root : NoAttr K C_Heap "held_root"
  n_Heap_copies : NoAttr K C_Heap "copies"
  mo_Heap : PySem.W.mroIn K C_Heap (.type "object") = some true
  ne_Heap : PySem.W.findIn K (.ref C_Heap) "__ne__" = some (some (.builtin "object.__ne__"))
  ca_Heap : PySem.W.findIn K (.ref C_Heap) "__class__" = some (some (.builtin "object.__class__"))
  x_Heap_rmul : PySem.W.findIn K (.ref C_Heap) "__rmul__" = some none
  i_mul : PySem.W.findIn K (.type "int") "__mul__" = some (some (.builtin "int.__mul__"))
  i_rmul : PySem.W.findIn K (.type "int") "__rmul__" = some (some (.builtin "int.__rmul__"))
  is_Heap : PySem.W.subIn K (.type "int") (.ref C_Heap) = some false
  f_Heap_init : Addr
  d_Heap_init : FuncData
  r0_Heap_init : Addr
  F_Heap_init : FunD K "__init__" "Heap.__init__" (defArgs s_Heap_init) (defBody s_Heap_init) (defScope s_Heap_init) [.ref r0_Heap_init] [] f_Heap_init d_Heap_init
  b_Heap_init : Binds K d_Heap_init ["self", "root", "rows"] []
  b0_Heap_init : Binds K d_Heap_init ["self", "root", "rows"] [.ref r0_Heap_init]
  v0_Heap_init : Vals [.ref r0_Heap_init] [.ref r0_Heap_init]
  z0_Heap_init : Dfl0 K r0_Heap_init
  M_Heap : Mk K C_Heap f_Heap_init
  f_Heap_of : Addr
  d_Heap_of : FuncData
  F_Heap_of : Fun K "of" "Heap.of" s_Heap_of f_Heap_of d_Heap_of
  p_Heap_of : Addr
  cr_Heap : ClX.CRead K C_Heap (.type "type")
  cm_Heap_of : ClX.CMet K C_Heap (.type "type") "of" p_Heap_of f_Heap_of
  f_Heap_root : Addr
  d_Heap_root : FuncData
  F_Heap_root : Fun K "root" "Heap.root" s_Heap_root f_Heap_root d_Heap_root
  b_Heap_root : Binds K d_Heap_root ["self"] []
  p_Heap_root : Addr
  pr_Heap_root : PropOf K C_Heap "root" p_Heap_root f_Heap_root
  f_Heap_rows : Addr
  d_Heap_rows : FuncData
  F_Heap_rows : Fun K "rows" "Heap.rows" s_Heap_rows f_Heap_rows d_Heap_rows
  b_Heap_rows : Binds K d_Heap_rows ["self"] []
  m_Heap_rows : Meth K C_Heap "rows" f_Heap_rows
  f_Heap_eq : Addr
  d_Heap_eq : FuncData
  F_Heap_eq : Fun K "__eq__" "Heap.__eq__" s_Heap_eq f_Heap_eq d_Heap_eq
  b_Heap_eq : Binds K d_Heap_eq ["self", "other"] []
  m_Heap_eq : Meth K C_Heap "__eq__" f_Heap_eq
  f_pair_text : Addr
  d_pair_text : FuncData
  F_pair_text : Fun K "pair_text" "pair_text" s_pair_text f_pair_text d_pair_text
  g_pair_text : mg "pair_text" = some (.ref f_pair_text)
  b_pair_text : Binds K d_pair_text ["pair"] []
  f_sheet_text : Addr
  d_sheet_text : FuncData
  F_sheet_text : Fun K "sheet_text" "sheet_text" s_sheet_text f_sheet_text d_sheet_text
  g_sheet_text : mg "sheet_text" = some (.ref f_sheet_text)
  b_sheet_text : Binds K d_sheet_text ["sheet"] []
  f_row_text : Addr
  d_row_text : FuncData
  F_row_text : Fun K "row_text" "row_text" s_row_text f_row_text d_row_text
  g_row_text : mg "row_text" = some (.ref f_row_text)
  b_row_text : Binds K d_row_text ["row"] []
  f_heap_text : Addr
  d_heap_text : FuncData
  F_heap_text : Fun K "heap_text" "heap_text" s_heap_text f_heap_text d_heap_text
  g_heap_text : mg "heap_text" = some (.ref f_heap_text)
  b_heap_text : Binds K d_heap_text ["heap"] []
  f_read_number : Addr
  d_read_number : FuncData
  F_read_number : Fun K "read_number" "read_number" s_read_number f_read_number d_read_number
  g_read_number : mg "read_number" = some (.ref f_read_number)
  b_read_number : Binds K d_read_number ["text"] []
  f_read_numbers : Addr
  d_read_numbers : FuncData
  F_read_numbers : Fun K "read_numbers" "read_numbers" s_read_numbers f_read_numbers d_read_numbers
  g_read_numbers : mg "read_numbers" = some (.ref f_read_numbers)
  b_read_numbers : Binds K d_read_numbers ["texts"] []
  f_read_pair : Addr
  d_read_pair : FuncData
  F_read_pair : Fun K "read_pair" "read_pair" s_read_pair f_read_pair d_read_pair
  g_read_pair : mg "read_pair" = some (.ref f_read_pair)
  b_read_pair : Binds K d_read_pair ["text"] []
  f_read_sheet : Addr
  d_read_sheet : FuncData
  F_read_sheet : Fun K "read_sheet" "read_sheet" s_read_sheet f_read_sheet d_read_sheet
  g_read_sheet : mg "read_sheet" = some (.ref f_read_sheet)
  b_read_sheet : Binds K d_read_sheet ["text"] []
  f_read_root : Addr
  d_read_root : FuncData
  F_read_root : Fun K "read_root" "read_root" s_read_root f_read_root d_read_root
  g_read_root : mg "read_root" = some (.ref f_read_root)
  b_read_root : Binds K d_read_root ["line"] []
  f_read_row : Addr
  d_read_row : FuncData
  F_read_row : Fun K "read_row" "read_row" s_read_row f_read_row d_read_row
  g_read_row : mg "read_row" = some (.ref f_read_row)
  b_read_row : Binds K d_read_row ["line", "root"] []
  f_read_rows : Addr
  d_read_rows : FuncData
  F_read_rows : Fun K "read_rows" "read_rows" s_read_rows f_read_rows d_read_rows
  g_read_rows : mg "read_rows" = some (.ref f_read_rows)
  b_read_rows : Binds K d_read_rows ["lines", "root"] []
  f_parse_heap : Addr
  d_parse_heap : FuncData
  F_parse_heap : Fun K "parse_heap" "parse_heap" s_parse_heap f_parse_heap d_parse_heap
  g_parse_heap : mg "parse_heap" = some (.ref f_parse_heap)
  b_parse_heap : Binds K d_parse_heap ["text"] []
  f_source : Addr
  d_source : FuncData
  F_source : Fun K "_law_source" "_law_source" s_source f_source d_source
  g_source : mg "_law_source" = some (.ref f_source)
  b_source : Binds K d_source ["_law_script"] []
  f_pull : Addr
  d_pull : FuncData
  F_pull : Fun K "_law_pull" "_law_pull" s_pull f_pull d_pull
  g_pull : mg "_law_pull" = some (.ref f_pull)
  b_pull : Binds K d_pull ["_law_bag", "_law_size"] []
  f_of : Addr
  d_of : FuncData
  F_of : Fun K "_law_of" "_law_of" s_of f_of d_of
  g_of : mg "_law_of" = some (.ref f_of)
  b_of : Binds K d_of ["_law_bag", "_law_some"] []
  f_roots : Addr
  d_roots : FuncData
  F_roots : Fun K "_law_roots" "_law_roots" s_roots f_roots d_roots
  g_roots : mg "_law_roots" = some (.ref f_roots)
  b_roots : Binds K d_roots [] []
  f_a_root : Addr
  d_a_root : FuncData
  F_a_root : Fun K "_law_a_root" "_law_a_root" s_a_root f_a_root d_a_root
  g_a_root : mg "_law_a_root" = some (.ref f_a_root)
  b_a_root : Binds K d_a_root ["_law_bag"] []
  f_stock_of : Addr
  d_stock_of : FuncData
  F_stock_of : Fun K "_law_stock_of" "_law_stock_of" s_stock_of f_stock_of d_stock_of
  g_stock_of : mg "_law_stock_of" = some (.ref f_stock_of)
  b_stock_of : Binds K d_stock_of ["_law_rows"] []
  f_any_pair : Addr
  d_any_pair : FuncData
  F_any_pair : Fun K "_law_any_pair" "_law_any_pair" s_any_pair f_any_pair d_any_pair
  g_any_pair : mg "_law_any_pair" = some (.ref f_any_pair)
  b_any_pair : Binds K d_any_pair ["_law_bag"] []
  f_lsign : Addr
  d_lsign : FuncData
  F_lsign : Fun K "_law_sign" "_law_sign" s_lsign f_lsign d_lsign
  g_lsign : mg "_law_sign" = some (.ref f_lsign)
  b_lsign : Binds K d_lsign ["_law_pair", "_law_root"] []
  f_a_length : Addr
  d_a_length : FuncData
  F_a_length : Fun K "_law_a_length" "_law_a_length" s_a_length f_a_length d_a_length
  g_a_length : mg "_law_a_length" = some (.ref f_a_length)
  b_a_length : Binds K d_a_length ["_law_bag", "_law_root"] []
  f_a_sheet : Addr
  d_a_sheet : FuncData
  F_a_sheet : Fun K "_law_a_sheet" "_law_a_sheet" s_a_sheet f_a_sheet d_a_sheet
  g_a_sheet : mg "_law_a_sheet" = some (.ref f_a_sheet)
  b_a_sheet : Binds K d_a_sheet ["_law_bag", "_law_root"] []
  f_some_count : Addr
  d_some_count : FuncData
  F_some_count : Fun K "_law_some_count" "_law_some_count" s_some_count f_some_count d_some_count
  g_some_count : mg "_law_some_count" = some (.ref f_some_count)
  b_some_count : Binds K d_some_count ["_law_bag"] []
  f_some_rows : Addr
  d_some_rows : FuncData
  F_some_rows : Fun K "_law_some_rows" "_law_some_rows" s_some_rows f_some_rows d_some_rows
  g_some_rows : mg "_law_some_rows" = some (.ref f_some_rows)
  b_some_rows : Binds K d_some_rows ["_law_bag", "_law_root", "_law_most"] []
  f_listed : Addr
  d_listed : FuncData
  F_listed : Fun K "_law_listed" "_law_listed" s_listed f_listed d_listed
  g_listed : mg "_law_listed" = some (.ref f_listed)
  b_listed : Binds K d_listed ["_law_stock"] []
  f_heap_of : Addr
  d_heap_of : FuncData
  F_heap_of : Fun K "_law_heap_of" "_law_heap_of" s_heap_of f_heap_of d_heap_of
  g_heap_of : mg "_law_heap_of" = some (.ref f_heap_of)
  b_heap_of : Binds K d_heap_of ["_law_root", "_law_stock"] []
  f_lpair_text : Addr
  d_lpair_text : FuncData
  F_lpair_text : Fun K "_law_pair_text" "_law_pair_text" s_lpair_text f_lpair_text d_lpair_text
  g_lpair_text : mg "_law_pair_text" = some (.ref f_lpair_text)
  b_lpair_text : Binds K d_lpair_text ["_law_pair"] []
  f_lsheet_text : Addr
  d_lsheet_text : FuncData
  F_lsheet_text : Fun K "_law_sheet_text" "_law_sheet_text" s_lsheet_text f_lsheet_text d_lsheet_text
  g_lsheet_text : mg "_law_sheet_text" = some (.ref f_lsheet_text)
  b_lsheet_text : Binds K d_lsheet_text ["_law_sheet"] []
  f_lheap_text : Addr
  d_lheap_text : FuncData
  F_lheap_text : Fun K "_law_heap_text" "_law_heap_text" s_lheap_text f_lheap_text d_lheap_text
  g_lheap_text : mg "_law_heap_text" = some (.ref f_lheap_text)
  b_lheap_text : Binds K d_lheap_text ["_law_root", "_law_stock"] []
  f_like : Addr
  d_like : FuncData
  F_like : Fun K "_law_like" "_law_like" s_like f_like d_like
  g_like : mg "_law_like" = some (.ref f_like)
  b_like : Binds K d_like ["_law_found", "_law_due"] []
  f_is_heap : Addr
  d_is_heap : FuncData
  F_is_heap : Fun K "_law_is_heap" "_law_is_heap" s_is_heap f_is_heap d_is_heap
  g_is_heap : mg "_law_is_heap" = some (.ref f_is_heap)
  b_is_heap : Binds K d_is_heap ["_law_heap_z", "_law_root", "_law_stock"] []
  f_bent_text : Addr
  d_bent_text : FuncData
  F_bent_text : Fun K "_law_bent_text" "_law_bent_text" s_bent_text f_bent_text d_bent_text
  g_bent_text : mg "_law_bent_text" = some (.ref f_bent_text)
  b_bent_text : Binds K d_bent_text ["_law_bag", "_law_text_z", "_law_signs"] []
  f_bent_lines : Addr
  d_bent_lines : FuncData
  F_bent_lines : Fun K "_law_bent_lines" "_law_bent_lines" s_bent_lines f_bent_lines d_bent_lines
  g_bent_lines : mg "_law_bent_lines" = some (.ref f_bent_lines)
  b_bent_lines : Binds K d_bent_lines ["_law_bag", "_law_text_z"] []
  f_number_read : Addr
  d_number_read : FuncData
  F_number_read : Fun K "_law_number_read" "_law_number_read" s_number_read f_number_read d_number_read
  g_number_read : mg "_law_number_read" = some (.ref f_number_read)
  b_number_read : Binds K d_number_read ["_law_word"] []
  f_pair_read : Addr
  d_pair_read : FuncData
  F_pair_read : Fun K "_law_pair_read" "_law_pair_read" s_pair_read f_pair_read d_pair_read
  g_pair_read : mg "_law_pair_read" = some (.ref f_pair_read)
  b_pair_read : Binds K d_pair_read ["_law_text_z"] []
  f_sheet_read : Addr
  d_sheet_read : FuncData
  F_sheet_read : Fun K "_law_sheet_read" "_law_sheet_read" s_sheet_read f_sheet_read d_sheet_read
  g_sheet_read : mg "_law_sheet_read" = some (.ref f_sheet_read)
  b_sheet_read : Binds K d_sheet_read ["_law_text_z"] []
  f_row_flaw : Addr
  d_row_flaw : FuncData
  F_row_flaw : Fun K "_law_row_flaw" "_law_row_flaw" s_row_flaw f_row_flaw d_row_flaw
  g_row_flaw : mg "_law_row_flaw" = some (.ref f_row_flaw)
  b_row_flaw : Binds K d_row_flaw ["_law_sheet", "_law_copies", "_law_root"] []
  f_heap_read : Addr
  d_heap_read : FuncData
  F_heap_read : Fun K "_law_heap_read" "_law_heap_read" s_heap_read f_heap_read d_heap_read
  g_heap_read : mg "_law_heap_read" = some (.ref f_heap_read)
  b_heap_read : Binds K d_heap_read ["_law_text_z"] []
  f_field_of : Addr
  d_field_of : FuncData
  F_field_of : Fun K "_law_field_of" "_law_field_of" s_field_of f_field_of d_field_of
  g_field_of : mg "_law_field_of" = some (.ref f_field_of)
  b_field_of : Binds K d_field_of ["_law_e"] []
  f_try : Addr
  d_try : FuncData
  F_try : Fun K "_law_try" "_law_try" s_try f_try d_try
  g_try : mg "_law_try" = some (.ref f_try)
  b_try : Binds K d_try ["_law_ask"] []
  n_ValueError : mg "ValueError" = none
  n_LookupError : mg "LookupError" = none
  n_IndexError : mg "IndexError" = none
  n_enumerate : mg "enumerate" = none
  n_int : mg "int" = none
  n_tuple : mg "tuple" = none
  n_max : mg "max" = none
  n_range : mg "range" = none
  n_isinstance : mg "isinstance" = none
  n_str : mg "str" = none
  n_sum : mg "sum" = none
  n_list : mg "list" = none
  n_bool : mg "bool" = none
  n_len : mg "len" = none
  n_abs : mg "abs" = none
  n_sorted : mg "sorted" = none
  n_all : mg "all" = none
  u_GROUP : Value
  g_GROUP : mg "GROUP" = some u_GROUP
  rv_GROUP : RelV (.int (10 ^ 64)) u_GROUP
  u_MOST_DIGITS : Value
  g_MOST_DIGITS : mg "MOST_DIGITS" = some u_MOST_DIGITS
  rv_MOST_DIGITS : RelV (.int (20)) u_MOST_DIGITS
  kb_parse_heap_text : KBn K d_parse_heap ["text"] 0 ["text"] (fun us ws : List Value => [ws.getD 0 .none]) (fun us ws : List V => [ws.getD 0 .non])
  kb_heap_text_heap : KBn K d_heap_text ["heap"] 0 ["heap"] (fun us ws : List Value => [ws.getD 0 .none]) (fun us ws : List V => [ws.getD 0 .non])
  r_GrainError : Addr
  g_GrainError : mg "GrainError" = some (.ref r_GrainError)
  c_GrainError : ∃ cd : ClassData, PySem.W.clsIn K r_GrainError = some cd ∧ cd.name = "GrainError"
  t_GrainError : PySem.W.typeIn K (.ref r_GrainError) = some (.type "type")
  sb_GrainError : PySem.W.subIn K (.ref r_GrainError) (.type "BaseException") = some true
  r_GrainMissing : Addr
  g_GrainMissing : mg "GrainMissing" = some (.ref r_GrainMissing)
  c_GrainMissing : ∃ cd : ClassData, PySem.W.clsIn K r_GrainMissing = some cd ∧ cd.name = "GrainMissing"
  t_GrainMissing : PySem.W.typeIn K (.ref r_GrainMissing) = some (.type "type")
  sb_GrainMissing : PySem.W.subIn K (.ref r_GrainMissing) (.type "BaseException") = some true
  e_BadRoot : Er PySem.Challenge.pw_grainyard_k65_texts_of_heaps K mg "ValueError" "ValueError.__new__" "ValueError.__init__" [.type "ValueError", .type "Exception", .type "BaseException", .type "object"] [.ref r_GrainError] i_BadRoot "BadRoot" "BadRoot.__init__"
  x_BadRoot_word : PySem.W.findIn K (.ref e_BadRoot.C) "word" = some none
  x_BadRoot_number : PySem.W.findIn K (.ref e_BadRoot.C) "number" = some none
  e_BadCount : Er PySem.Challenge.pw_grainyard_k65_texts_of_heaps K mg "ValueError" "ValueError.__new__" "ValueError.__init__" [.type "ValueError", .type "Exception", .type "BaseException", .type "object"] [.ref r_GrainError] i_BadCount "BadCount" "BadCount.__init__"
  x_BadCount_word : PySem.W.findIn K (.ref e_BadCount.C) "word" = some none
  x_BadCount_number : PySem.W.findIn K (.ref e_BadCount.C) "number" = some none
  e_BadRow : Er PySem.Challenge.pw_grainyard_k65_texts_of_heaps K mg "ValueError" "ValueError.__new__" "ValueError.__init__" [.type "ValueError", .type "Exception", .type "BaseException", .type "object"] [.ref r_GrainError] i_BadRow "BadRow" "BadRow.__init__"
  x_BadRow_word : PySem.W.findIn K (.ref e_BadRow.C) "word" = some none
  x_BadRow_at : PySem.W.findIn K (.ref e_BadRow.C) "at" = some none
  e_OtherRoot : Er PySem.Challenge.pw_grainyard_k65_texts_of_heaps K mg "ValueError" "ValueError.__new__" "ValueError.__init__" [.type "ValueError", .type "Exception", .type "BaseException", .type "object"] [.ref r_GrainError] i_OtherRoot "OtherRoot" "OtherRoot.__init__"
  x_OtherRoot_word : PySem.W.findIn K (.ref e_OtherRoot.C) "word" = some none
  e_BadText : Er PySem.Challenge.pw_grainyard_k65_texts_of_heaps K mg "ValueError" "ValueError.__new__" "ValueError.__init__" [.type "ValueError", .type "Exception", .type "BaseException", .type "object"] [.ref r_GrainError] i_BadText "BadText" "BadText.__init__"
  x_BadText_word : PySem.W.findIn K (.ref e_BadText.C) "word" = some none
  x_BadText_at : PySem.W.findIn K (.ref e_BadText.C) "at" = some none
  e_NoSheet : Er PySem.Challenge.pw_grainyard_k65_texts_of_heaps K mg "LookupError" "LookupError.__new__" "LookupError.__init__" [.type "LookupError", .type "Exception", .type "BaseException", .type "object"] [.ref r_GrainMissing] i_NoSheet "NoSheet" "NoSheet.__init__"
  x_NoSheet_word : PySem.W.findIn K (.ref e_NoSheet.C) "word" = some none
  x_NoSheet_sheet : PySem.W.findIn K (.ref e_NoSheet.C) "sheet" = some none
  e_NothingLeft : Er PySem.Challenge.pw_grainyard_k65_texts_of_heaps K mg "IndexError" "IndexError.__new__" "IndexError.__init__" [.type "IndexError", .type "LookupError", .type "Exception", .type "BaseException", .type "object"] [] i_NothingLeft "NothingLeft" "NothingLeft.__init__"
  x_NothingLeft_word : PySem.W.findIn K (.ref e_NothingLeft.C) "word" = some none
  hn : PySem.W.specialIn K (.builtin "object.__class__") "__get__" = some (some (.builtin "getset_descriptor.__get__"))
  ht : PySem.W.takesIn K (.builtin "object.__class__") = some true
theorem vals_getD : ∀ {zs : List V} {ws : List Value} (_ : Vals zs ws) (i : Nat), RelV (zs.getD i .non) (ws.getD i .none)
  | _, _, .nil, _ => rfl
  | _, _, .cons r _, 0 => r
  | _, _, .cons _ t, i + 1 => vals_getD t i
theorem kbn_parse_heap_text {K : PySem.W.Frag} {f : Addr} {fd : FuncData} (F : Fun K "parse_heap" "parse_heap" s_parse_heap f fd) : KBn K fd ["text"] 0 ["text"] (fun us ws : List Value => [ws.getD 0 .none]) (fun us ws : List V => [ws.getD 0 .non]) := by
  obtain ⟨o1, o2, v1, v2, v3, a1, v4, v5, s1, rfl, r1, r2⟩ := F.ex
  refine ⟨fun s us ws _ l1 l2 => ?_, fun r1 r2 => .cons (vals_getD r2 0) (.nil)⟩
  match us, ws, l1, l2 with
  | [], [_], _, _ => exact .of_eq rfl
theorem kbn_heap_text_heap {K : PySem.W.Frag} {f : Addr} {fd : FuncData} (F : Fun K "heap_text" "heap_text" s_heap_text f fd) : KBn K fd ["heap"] 0 ["heap"] (fun us ws : List Value => [ws.getD 0 .none]) (fun us ws : List V => [ws.getD 0 .non]) := by
  obtain ⟨o1, o2, v1, v2, v3, a1, v4, v5, s1, rfl, r1, r2⟩ := F.ex
  refine ⟨fun s us ws _ l1 l2 => ?_, fun r1 r2 => .cons (vals_getD r2 0) (.nil)⟩
  match us, ws, l1, l2 with
  | [], [_], _, _ => exact .of_eq rfl
section
variable {base : Heap} {K : PySem.W.Frag} {mg : Str → Option Value} {w : World}
theorem ini_BadRoot (T : Txt K mg) : FnOk PySem.Challenge.pw_grainyard_k65_texts_of_heaps w K mg base CX0 1 T.e_BadRoot.f ((NFI i_BadRoot "BadRoot.__init__" T.e_BadRoot.cc T.e_BadRoot.c).fd T.e_BadRoot.doc T.e_BadRoot.pm T.e_BadRoot.ctv) ["self", "number"] (spIni T.e_BadRoot.C 1 fun ws => [("number", ws.getD 0 .non), ("word", .str "BadRoot")]) := ok_ini1 erb_VE T.e_BadRoot sc_iBadRoot rfl T.x_BadRoot_word T.x_BadRoot_number
theorem bi_BadRoot (T : Txt K mg) : Binds K ((NFI i_BadRoot "BadRoot.__init__" T.e_BadRoot.cc T.e_BadRoot.c).fd T.e_BadRoot.doc T.e_BadRoot.pm T.e_BadRoot.ctv) ["self", "number"] [] := .all fun us hl => match us, hl with | [_, _], _ => rfl
theorem ini_BadCount (T : Txt K mg) : FnOk PySem.Challenge.pw_grainyard_k65_texts_of_heaps w K mg base CX0 1 T.e_BadCount.f ((NFI i_BadCount "BadCount.__init__" T.e_BadCount.cc T.e_BadCount.c).fd T.e_BadCount.doc T.e_BadCount.pm T.e_BadCount.ctv) ["self", "number"] (spIni T.e_BadCount.C 1 fun ws => [("number", ws.getD 0 .non), ("word", .str "BadCount")]) := ok_ini1 erb_VE T.e_BadCount sc_iBadCount rfl T.x_BadCount_word T.x_BadCount_number
theorem bi_BadCount (T : Txt K mg) : Binds K ((NFI i_BadCount "BadCount.__init__" T.e_BadCount.cc T.e_BadCount.c).fd T.e_BadCount.doc T.e_BadCount.pm T.e_BadCount.ctv) ["self", "number"] [] := .all fun us hl => match us, hl with | [_, _], _ => rfl
theorem ini_BadRow (T : Txt K mg) : FnOk PySem.Challenge.pw_grainyard_k65_texts_of_heaps w K mg base CX0 1 T.e_BadRow.f ((NFI i_BadRow "BadRow.__init__" T.e_BadRow.cc T.e_BadRow.c).fd T.e_BadRow.doc T.e_BadRow.pm T.e_BadRow.ctv) ["self", "at"] (spIni T.e_BadRow.C 1 fun ws => [("at", ws.getD 0 .non), ("word", .str "BadRow")]) := ok_ini1 erb_VE T.e_BadRow sc_iBadRow rfl T.x_BadRow_word T.x_BadRow_at
theorem bi_BadRow (T : Txt K mg) : Binds K ((NFI i_BadRow "BadRow.__init__" T.e_BadRow.cc T.e_BadRow.c).fd T.e_BadRow.doc T.e_BadRow.pm T.e_BadRow.ctv) ["self", "at"] [] := .all fun us hl => match us, hl with | [_, _], _ => rfl
theorem ini_OtherRoot (T : Txt K mg) : FnOk PySem.Challenge.pw_grainyard_k65_texts_of_heaps w K mg base CX0 1 T.e_OtherRoot.f ((NFI i_OtherRoot "OtherRoot.__init__" T.e_OtherRoot.cc T.e_OtherRoot.c).fd T.e_OtherRoot.doc T.e_OtherRoot.pm T.e_OtherRoot.ctv) ["self"] (spIni T.e_OtherRoot.C 0 fun _ => [("word", .str "OtherRoot")]) := ok_ini0 erb_VE T.e_OtherRoot sc_iOtherRoot rfl T.x_OtherRoot_word
theorem bi_OtherRoot (T : Txt K mg) : Binds K ((NFI i_OtherRoot "OtherRoot.__init__" T.e_OtherRoot.cc T.e_OtherRoot.c).fd T.e_OtherRoot.doc T.e_OtherRoot.pm T.e_OtherRoot.ctv) ["self"] [] := .all fun us hl => match us, hl with | [_], _ => rfl
theorem ini_BadText (T : Txt K mg) : FnOk PySem.Challenge.pw_grainyard_k65_texts_of_heaps w K mg base CX0 1 T.e_BadText.f ((NFI i_BadText "BadText.__init__" T.e_BadText.cc T.e_BadText.c).fd T.e_BadText.doc T.e_BadText.pm T.e_BadText.ctv) ["self", "at"] (spIni T.e_BadText.C 1 fun ws => [("at", ws.getD 0 .non), ("word", .str "BadText")]) := ok_ini1 erb_VE T.e_BadText sc_iBadText rfl T.x_BadText_word T.x_BadText_at
theorem bi_BadText (T : Txt K mg) : Binds K ((NFI i_BadText "BadText.__init__" T.e_BadText.cc T.e_BadText.c).fd T.e_BadText.doc T.e_BadText.pm T.e_BadText.ctv) ["self", "at"] [] := .all fun us hl => match us, hl with | [_, _], _ => rfl
theorem ini_NoSheet (T : Txt K mg) : FnOk PySem.Challenge.pw_grainyard_k65_texts_of_heaps w K mg base CX0 1 T.e_NoSheet.f ((NFI i_NoSheet "NoSheet.__init__" T.e_NoSheet.cc T.e_NoSheet.c).fd T.e_NoSheet.doc T.e_NoSheet.pm T.e_NoSheet.ctv) ["self", "sheet"] (spIni T.e_NoSheet.C 1 fun ws => [("sheet", ws.getD 0 .non), ("word", .str "NoSheet")]) := ok_ini1 erb_LE T.e_NoSheet sc_iNoSheet rfl T.x_NoSheet_word T.x_NoSheet_sheet
theorem bi_NoSheet (T : Txt K mg) : Binds K ((NFI i_NoSheet "NoSheet.__init__" T.e_NoSheet.cc T.e_NoSheet.c).fd T.e_NoSheet.doc T.e_NoSheet.pm T.e_NoSheet.ctv) ["self", "sheet"] [] := .all fun us hl => match us, hl with | [_, _], _ => rfl
theorem ini_NothingLeft (T : Txt K mg) : FnOk PySem.Challenge.pw_grainyard_k65_texts_of_heaps w K mg base CX0 1 T.e_NothingLeft.f ((NFI i_NothingLeft "NothingLeft.__init__" T.e_NothingLeft.cc T.e_NothingLeft.c).fd T.e_NothingLeft.doc T.e_NothingLeft.pm T.e_NothingLeft.ctv) ["self"] (spIni T.e_NothingLeft.C 0 fun _ => [("word", .str "NothingLeft")]) := ok_ini0 erb_IE T.e_NothingLeft sc_iNothingLeft rfl T.x_NothingLeft_word
theorem bi_NothingLeft (T : Txt K mg) : Binds K ((NFI i_NothingLeft "NothingLeft.__init__" T.e_NothingLeft.cc T.e_NothingLeft.c).fd T.e_NothingLeft.doc T.e_NothingLeft.pm T.e_NothingLeft.ctv) ["self"] [] := .all fun us hl => match us, hl with | [_], _ => rfl
end
/-! ### heaps, and the bag that the draws change -/
def Keep (b : Addr) (H H' : Hp) : Prop := ∀ a o, a ≠ b → H a = some o → H' a = some o
theorem Keep.refl {b : Addr} (H : Hp) : Keep b H H := fun _ _ _ e => e
theorem Keep.trans {b : Addr} {H H1 H2 : Hp} (x : Keep b H H1) (y : Keep b H1 H2) : Keep b H H2 := fun a o n e => y a o n (x a o n e)
theorem keep_put {b : Addr} {H : Hp} {o : HO} : Keep b H (upd H b o) := fun a u n e => (upd_ne n).trans e
theorem keep_new {b p : Addr} {H : Hp} {o : HO} (hp : H p = none) : Keep b H (upd H p o) := fun a u _ e => (upd_ne (ne_of_none e hp)).trans e
theorem same_new {p : Addr} {H : Hp} {o : HO} (hp : H p = none) : Same H (upd H p o) := fun a u e => (upd_ne (ne_of_none e hp)).trans e
theorem keep_of {b : Addr} {H H' : Hp} (s : Same H H') : Keep b H H' := fun a o _ e => s a o e
theorem Same.keep {b : Addr} {H H1 H2 : Hp} (s : Same H H1) (k : Keep b H1 H2) (hb : H b = none) : Same H H2 := fun a o e => k a o (ne_of_none e hb) (s a o e)
structure BagAt (H : Hp) (b s : Addr) (ns : List Int) (i j m c : Int) : Prop where
  hb : H b = some (.lst [.ref s, .int i, .int j, .int m, .int c])
  hs : H s = some (.lst (ns.map V.int))
  i0 : 0 ≤ i
  i1 : i ≤ (ns.length : Int)
  m0 : 0 ≤ m
  m1 : m < 2147483399
def Bag (H : Hp) (b sb : Addr) : Prop := ∃ (ns : List Int) (i j m c : Int), BagAt H b sb ns i j m c
theorem BagAt.ne {H : Hp} {b s : Addr} {ns : List Int} {i j m c : Int} (B : BagAt H b s ns i j m c) : s ≠ b := ne_of B.hs B.hb (by
  intro e
  injection e with e
  cases ns with
  | nil => simp at e
  | cons x r => simp at e)
theorem BagAt.put {H : Hp} {b s : Addr} {ns : List Int} {i j m c : Int} (B : BagAt H b s ns i j m c) {i' j' m' c' : Int} (h0 : 0 ≤ i') (h1 : i' ≤ (ns.length : Int)) (h2 : 0 ≤ m') (h3 : m' < 2147483399) :
    BagAt (upd H b (.lst [.ref s, .int i', .int j', .int m', .int c'])) b s ns i' j' m' c' := ⟨upd_same, (upd_ne B.ne).trans B.hs, h0, h1, h2, h3⟩
theorem BagAt.same {H H' : Hp} {b s : Addr} {ns : List Int} {i j m c : Int} (B : BagAt H b s ns i j m c) (e : Same H H') : BagAt H' b s ns i j m c := ⟨e _ _ B.hb, e _ _ B.hs, B.i0, B.i1, B.m0, B.m1⟩
theorem Bag.same {H H' : Hp} {b sb : Addr} (B : Bag H b sb) (e : Same H H') : Bag H' b sb := by
  obtain ⟨ns, i, j, m, c, B⟩ := B
  exact ⟨ns, i, j, m, c, B.same e⟩
theorem Bag.new {H : Hp} {b sb p : Addr} {o : HO} (B : Bag H b sb) (hp : H p = none) : Bag (upd H p o) b sb := B.same (same_new hp)
theorem Bag.ne {H : Hp} {b sb p : Addr} (B : Bag H b sb) (hp : H p = none) : p ≠ b := by
  obtain ⟨ns, i, j, m, c, B⟩ := B
  exact (ne_of_none B.hb hp).symm
theorem Bag.ne2 {H : Hp} {b sb p : Addr} (B : Bag H b sb) (hp : H p = none) : p ≠ sb := by
  obtain ⟨ns, i, j, m, c, B⟩ := B
  exact (ne_of_none B.hs hp).symm
theorem Bag.tup {H : Hp} {b sb p : Addr} {xs : List V} (B : Bag H b sb) (hp : H p = some (.tup xs)) : p ≠ b := by
  obtain ⟨ns, i, j, m, c, B⟩ := B
  exact ne_of hp B.hb (by intro z; cases z)
theorem Bag.put {H : Hp} {b sb l : Addr} {o : HO} (B : Bag H b sb) (h1 : l ≠ b) (h2 : l ≠ sb) : Bag (upd H l o) b sb := by
  obtain ⟨ns, i, j, m, c, B⟩ := B
  exact ⟨ns, i, j, m, c, (upd_ne h1.symm).trans B.hb, (upd_ne h2.symm).trans B.hs, B.i0, B.i1, B.m0, B.m1⟩
theorem Keep.list {K : PySem.W.Frag} {H H' : Hp} {b p : Addr} {xs : List V} (k : Keep b H H') (hp : p ≠ b) (h : H p = some (.lst xs)) : SqL K H' p xs := SqL.of (k _ _ hp h)
theorem at_some {α : Type} {xs : List α} {i : Int} (h0 : 0 ≤ i) (h1 : i < (xs.length : Int)) : ∃ v, xs[i.toNat]? = some v ∧ atI xs i = some v := by
  obtain ⟨n, rfl⟩ := Int.eq_ofNat_of_zero_le h0
  have hl : n < xs.length := by omega
  exact ⟨xs[n], by simp [hl], atI_nat (by simp [hl])⟩
theorem at_ex {ns : List Int} {i : Int} (h0 : 0 ≤ i) (h1 : i < (ns.length : Int)) : ∃ z, atI (ns.map V.int) i = some (.int z) := by
  obtain ⟨n, rfl⟩ := Int.eq_ofNat_of_zero_le h0
  have hl : n < ns.length := by omega
  exact ⟨ns[n], atI_nat (by simp [hl])⟩
/-! ### f(k = v, ..): keywords alone -/
section
variable {X : Cx}
theorem pe_kwOnly {CX : CXT} {k : Nat} {f : Addr} {fd : FuncData} {ps ks : List Str} {sp : Sp} {E : XK} {x : Str} {p pos : Pos} {kws : List Keyword} {tk : TA} {g : List Value → List Value → List Value} {gV : List V → List V → List V}
    (F : FnOk X.prog X.w X.K X.mg X.base CX k f fd ps sp) (hr : Room k X.A) (hg : Gl X x) (hm : X.mg x = some (.ref f))
    (hk : PySem.W.keepIn X.K (.ref f) = true) (hb : KBn X.K fd ps 0 ks g gV) (hx : Passes CX X E) (hkw : PK X kws tk)
    (hall : (backToKw pos (keywordEach kws X.env)).all (·.1.isSome) = true := by rfl)
    (hks : (backToKw pos (keywordEach kws X.env)).filterMap (·.1) = ks := by rfl)
    (hdb : (x == ("__debug__" : Str)) = false := by decide)
    (hpl : ((backTo pos (starEach [] X.env)).any (·.1) || (backToKw pos (keywordEach kws X.env)).any (·.1.isNone)) = false := by rfl) :
    PE X (.Call (.Name x p) [] kws pos) (fun σ H Q => tk σ H fun zs H2 => zs.length = ks.length ∧ sp (gV [] zs) H2 Q E) := by
  refine ⟨fun pins s σ H Q I h => wpAny_Call_Name_kw (ld_glob I hg hm ?_ hdb)⟩
  refine PySem.W.callWith_KW0 (h₀ := X.base) I.ok.mod.kin hk hall ?_ hpl
  refine thn (hkw.run pos pins s σ H _ I h) fun ws s2 ⟨zs, H2, I2, rz, l2, q2⟩ => ⟨I2.kIn, ?_⟩
  rw [hks]
  exact run_fnN (us := []) (vs := []) F hr hb hx I2 .nil rz rfl l2 q2
end
/-! ### dicts whose keys are sheets -/
abbrev Sh := Int × Int × Int × Int
def shK (x : Sh) : NestedKey := .tup [.tup [.num x.1, .num x.2.1], .tup [.num x.2.2.1, .num x.2.2.2]]
theorem shK_inj {x y : Sh} (h : shK x = shK y) : x = y := by
  obtain ⟨a, b, c, e⟩ := x
  obtain ⟨a', b', c', e'⟩ := y
  simp only [shK, NestedKey.tup.injEq, List.cons.injEq, NestedKey.num.injEq, and_true] at h
  obtain ⟨⟨rfl, rfl⟩, rfl, rfl⟩ := h
  rfl
theorem shK_depth (x : Sh) : (shK x).depth ≤ 8 := by
  simp [shK, NestedKey.depth, NestedKey.depthAll]
/-- the sheet x, as a tuple of two tuples at p -/
def ShAt (H : Hp) (p : Addr) (x : Sh) : Prop := ∃ u v : Addr, H p = some (.tup [.ref u, .ref v]) ∧ H u = some (.tup [.int x.1, .int x.2.1]) ∧ H v = some (.tup [.int x.2.2.1, .int x.2.2.2])
theorem ShAt.mono {H H' : Hp} (k : ∀ p xs, H p = some (.tup xs) → H' p = some (.tup xs)) {p : Addr} {x : Sh} (h : ShAt H p x) : ShAt H' p x := by
  obtain ⟨u, v, h1, h2, h3⟩ := h
  exact ⟨u, v, k _ _ h1, k _ _ h2, k _ _ h3⟩
theorem ShAt.same {H H' : Hp} (s : Same H H') {p : Addr} {x : Sh} (h : ShAt H p x) : ShAt H' p x := h.mono fun p xs z => s p _ z
/-- the entries of such a dict, in order: the sheet, where it stands, its number -/
abbrev DEs := List (Sh × Addr × Int)
def DRel (p : Sh × Addr × Int) (q : NestedKey × Addr × Value) : Prop := q.1 = shK p.1 ∧ q.2.1 = p.2.1 ∧ RelV (.int p.2.2) q.2.2
def DsH (P : Program) (w : World) (d : Addr) (es : DEs) (h : Heap) : Prop := (d == sysModules) = false ∧ es.length ≤ sizeLine ∧ ∃ xs : List (NestedKey × Addr × Value), Paired DRel es xs ∧
  ∃ o en ep, h.get? d = some o ∧ o.ExactDict ∧ o.data = .dict en ep ∧ en.toList = xs.map (entryOfKey (nestedKind P w)) ∧ (xs.map (·.1)).Nodup
def DS (P : Program) (w : World) (d : Addr) (es : DEs) : HO := .ext (DsH P w d es)
structure DAt (P : Program) (w : World) (H : Hp) (d : Addr) (es : DEs) : Prop where
  hd : H d = some (DS P w d es)
  ks : ∀ x ∈ es, ShAt H x.2.1 x.1
/-- as it may be read: also while a loop walks it -/
structure DRd (P : Program) (w : World) (H : Hp) (d : Addr) (es : DEs) : Prop where
  hd : Rd H d (DS P w d es)
  ks : ∀ x ∈ es, ShAt H x.2.1 x.1
theorem DAt.rd {P : Program} {w : World} {H : Hp} {d : Addr} {es : DEs} (D : DAt P w H d es) : DRd P w H d es := ⟨.inl D.hd, D.ks⟩
section
variable {P : Program} {w : World} {H : Hp} {h : Heap} {d : Addr} {es : DEs}
theorem DsH.stay {h' : Heap} (z : DsH P w d es h) (k : ∀ o, h.get? d = some o → h'.get? d = some o) : DsH P w d es h' := by
  obtain ⟨z1, z2, xs, r, o, en, ep, ho, z3⟩ := z
  exact ⟨z1, z2, xs, r, o, en, ep, k o ho, z3⟩
theorem ds_obj {H' : Hp} (z : DsH P w d es h) : ObjOk P w H' h d (DS P w d es) := by
  refine ⟨z, ?_, fun h1 h2 z1 k => z1.stay k⟩
  obtain ⟨_, _, _, _, o, _, _, ho, _⟩ := z
  exact ⟨o, ho⟩
theorem ints_at (ok : HOk P w H h) {a : Addr} {x y : Int} (e : H a = some (.tup [.int x, .int y])) : NestedIs h (.tup [.num x, .num y]) (.ref a) := by
  obtain ⟨_, its, r, o, ho, hc, n, hdat⟩ := ok a _ e
  cases r with
  | cons r1 t =>
    cases t with
    | cons r2 t =>
      cases t
      obtain ⟨t1, rfl⟩ := r1
      obtain ⟨t2, rfl⟩ := r2
      exact .tup ho hc hdat (.cons (.int x t1) (.cons (.int y t2) .nil))
theorem sh_key (ok : HOk P w H h) {p : Addr} {x : Sh} (e : ShAt H p x) : (nestedKind P w).is h (shK x) p := by
  obtain ⟨u, v, h1, h2, h3⟩ := e
  obtain ⟨_, its, r, o, ho, hc, n, hdat⟩ := ok p _ h1
  cases r with
  | cons r1 t =>
    cases t with
    | cons r2 t =>
      cases t
      cases r1
      cases r2
      exact ⟨.tup ho hc hdat (.cons (ints_at ok h2) (.cons (ints_at ok h3) .nil)), shK_depth x⟩
theorem Paired.getR {α β : Type} {F : α → β → Prop} : ∀ {l₁ : List α} {l₂ : List β}, Paired F l₁ l₂ → ∀ {b : β}, b ∈ l₂ → ∃ a ∈ l₁, F a b
  | _, _, .nil, _, hb => by cases hb
  | _, _, .cons r t, b, hb => by
    rcases List.mem_cons.mp hb with e | e
    · exact ⟨_, List.mem_cons_self, e ▸ r⟩
    · obtain ⟨a, ha, f⟩ := Paired.getR t e
      exact ⟨a, List.mem_cons_of_mem _ ha, f⟩
theorem ds_of (ok : HOk P w H h) (D : DRd P w H d es) : (d == sysModules) = false ∧ es.length ≤ sizeLine ∧ ∃ xs, Paired DRel es xs ∧ h.DictOfH (nestedKind P w) d xs := by
  obtain ⟨z1, z2, xs, r, o, en, ep, ho, h1, h2, h3, h4⟩ := (D.hd.ok ok).1
  refine ⟨z1, z2, xs, r, o, en, ep, ho, h1, h2, h3, fun y hy => ?_, h4⟩
  obtain ⟨e, he, f1, f2, _⟩ := Paired.getR r hy
  rw [f1, f2]
  exact sh_key ok (D.ks e he)
/-- the number of a sheet -/
def valD (es : DEs) (x : Sh) : Option Int := (es.find? fun e => decide (e.1 = x)).map (·.2.2)
def putD (es : DEs) (x : Sh) (p : Addr) (n : Int) : DEs := if (valD es x).isSome then es.map (fun e => if e.1 = x then (e.1, e.2.1, n) else e) else es ++ [(x, p, n)]
def dropD (es : DEs) (x : Sh) : DEs := es.filter fun e => decide (e.1 ≠ x)
theorem drel_val {xs : List (NestedKey × Addr × Value)} (r : Paired DRel es xs) (x : Sh) : RelO ((valD es x).map V.int) ((atKey xs (shK x)).map (·.2)) := by
  induction r with
  | nil => exact trivial
  | @cons p q l1 l2 h t ih =>
    obtain ⟨h1, h2, h3⟩ := h
    by_cases e : p.1 = x
    · have e2 : q.1 = shK x := by rw [h1, e]
      simp only [valD, atKey, List.find?_cons, e, e2, decide_true, Option.map_some]
      exact h3
    · have e2 : ¬ q.1 = shK x := fun z => e (shK_inj (h1.symm.trans z))
      simpa only [valD, atKey, List.find?_cons, e, e2, decide_false] using ih
theorem drel_map {xs : List (NestedKey × Addr × Value)} (r : Paired DRel es xs) (x : Sh) {n : Int} {v : Value} (rv : RelV (.int n) v) : Paired DRel (es.map fun e => if e.1 = x then (e.1, e.2.1, n) else e) (xs.map (putAt (shK x) v)) := by
  induction r with
  | nil => exact .nil
  | @cons p q l1 l2 h t ih =>
    obtain ⟨h1, h2, h3⟩ := h
    refine .cons ?_ ih
    by_cases e : p.1 = x
    · have e2 : q.1 = shK x := by rw [h1, e]
      show DRel (if p.1 = x then (p.1, p.2.1, n) else p) _
      rw [if_pos e, putAt, if_pos e2]
      exact ⟨h1, h2, rv⟩
    · have e2 : ¬ q.1 = shK x := fun z => e (shK_inj (h1.symm.trans z))
      show DRel (if p.1 = x then (p.1, p.2.1, n) else p) _
      rw [if_neg e, putAt, if_neg e2]
      exact ⟨h1, h2, h3⟩
theorem Paired.snoc {α β : Type} {F : α → β → Prop} {a : α} {b : β} (f : F a b) : ∀ {l₁ : List α} {l₂ : List β}, Paired F l₁ l₂ → Paired F (l₁ ++ [a]) (l₂ ++ [b])
  | _, _, .nil => .cons f .nil
  | _, _, .cons r t => .cons r (Paired.snoc f t)
theorem drel_put {xs : List (NestedKey × Addr × Value)} (r : Paired DRel es xs) (x : Sh) (p : Addr) {n : Int} {v : Value} (rv : RelV (.int n) v) : Paired DRel (putD es x p n) (storedH xs (shK x) p v) := by
  have e := (drel_val r x).isSome_eq
  rw [Option.isSome_map, Option.isSome_map] at e
  unfold putD storedH
  rw [e]
  split
  · exact drel_map r x rv
  · exact Paired.snoc ⟨rfl, rfl, rv⟩ r
theorem drel_drop {xs : List (NestedKey × Addr × Value)} (r : Paired DRel es xs) (x : Sh) : Paired DRel (dropD es x) (withoutH xs (shK x)) := by
  induction r with
  | nil => exact .nil
  | @cons p q l1 l2 h t ih =>
    obtain ⟨h1, h2, h3⟩ := h
    by_cases e : p.1 = x
    · have e2 : q.1 = shK x := by rw [h1, e]
      simpa [dropD, withoutH, List.filter_cons, e, e2] using ih
    · have e2 : ¬ q.1 = shK x := fun z => e (shK_inj (h1.symm.trans z))
      simpa [dropD, withoutH, List.filter_cons, e, e2] using Paired.cons (F := DRel) ⟨h1, h2, h3⟩ ih
theorem putD_len (es : DEs) (x : Sh) (p : Addr) (n : Int) : (putD es x p n).length ≤ es.length + 1 := by
  unfold putD
  split <;> simp
theorem putD_mem {x : Sh} {p : Addr} {n : Int} {y : Sh × Addr × Int} (h : y ∈ putD es x p n) : (y.1 = x ∧ y.2.1 = p) ∨ ∃ z ∈ es, z.1 = y.1 ∧ z.2.1 = y.2.1 := by
  unfold putD at h
  split at h
  · obtain ⟨z, hz, rfl⟩ := List.mem_map.mp h
    refine .inr ⟨z, hz, ?_⟩
    split <;> exact ⟨rfl, rfl⟩
  · rcases List.mem_append.mp h with h | h
    · exact .inr ⟨y, h, rfl, rfl⟩
    · rw [List.mem_singleton.mp h]
      exact .inl ⟨rfl, rfl⟩
theorem dropD_mem {x : Sh} {y : Sh × Addr × Int} (h : y ∈ dropD es x) : y ∈ es := (List.mem_filter.mp h).1
theorem tup_ext {l : Addr} {φ : Heap → Prop} {o : HO} (hl : H l = some (.ext φ)) (p : Addr) (xs : List V) (e : H p = some (.tup xs)) : (upd H l o) p = some (.tup xs) := (upd_ne (ne_of e hl (by intro z; cases z))).trans e
theorem DAt.same {H' : Hp} (D : DAt P w H d es) (s : Same H H') : DAt P w H' d es := ⟨s _ _ D.hd, fun x hx => (D.ks x hx).same s⟩
theorem DAt.put {x : Sh} {p : Addr} {n : Int} (D : DAt P w H d es) (hp : ShAt H p x) : DAt P w (upd H d (DS P w d (putD es x p n))) d (putD es x p n) := by
  refine ⟨upd_same, fun y hy => ?_⟩
  refine ShAt.mono (tup_ext D.hd) ?_
  rcases putD_mem hy with ⟨e1, e2⟩ | ⟨z, hz, e1, e2⟩
  · rw [e1, e2]
    exact hp
  · rw [← e1, ← e2]
    exact D.ks z hz
theorem DAt.drop {x : Sh} (D : DAt P w H d es) : DAt P w (upd H d (DS P w d (dropD es x))) d (dropD es x) := ⟨upd_same, fun y hy => (D.ks y (dropD_mem hy)).mono (tup_ext D.hd)⟩
end
/-! the operations -/
section
variable {X : Cx} {pins : List (Addr × Obj)} {σ : L2.St} {H : Hp} {s : Shared} {d p : Addr} {es : DEs} {x : Sh} {A : Around} {E : Value → Shared → Prop}
theorem ds_getItem {n : Int} {Q : Value → Shared → Prop} (hu : A.units + 9 < cLine) (I : Inv X pins σ H s) (D : DRd X.prog X.w H d es) (hp : ShAt H p x) (hv : valD es x = some n) (q : ∀ t s', Inv X pins σ H s' → Q (.int n t) s') :
    wpAny (model X.prog X.w) A (getItem (.ref d) (.ref p)) Q E s := by
  obtain ⟨_, _, xs, r, dd⟩ := ds_of I.hok D
  have rel := drel_val r x
  rw [hv] at rel
  obtain ⟨w', hw, rw'⟩ := RelO.some_of (v := V.int n) rel
  obtain ⟨y, hy, hy2⟩ := Option.map_eq_some_iff.mp hw
  refine wpAny_getItem_heap (show A.in1.units + 8 < cLine from hu) (sh_key I.hok hp) dd hy ?_
  rw [hy2]
  obtain ⟨t, rfl⟩ := rw'
  exact q t _ (I.tok _)
theorem ds_in {Q : Value → Shared → Prop} (hu : A.units + 9 < cLine) (I : Inv X pins σ H s) (D : DRd X.prog X.w H d es) (hp : ShAt H p x) (q : ∀ s', Inv X pins σ H s' → Q (.bool (valD es x).isSome) s') :
    wpAny (model X.prog X.w) A (compareOp .In (.ref p) (.ref d)) Q E s := by
  obtain ⟨hs, _, xs, r, dd⟩ := ds_of I.hok D
  refine wpAny_in_heap (show A.in1.units + 8 < cLine from hu) (sh_key I.hok hp) hs dd ?_
  have e := (drel_val r x).isSome_eq
  rw [Option.isSome_map, Option.isSome_map] at e
  rw [← e]
  exact q _ (I.tok _)
theorem ds_getOr {n : Int} {r' : Value} {Q : Value → Shared → Prop} (hu : A.units + 9 < cLine) (I : Inv X pins σ H s) (D : DRd X.prog X.w H d es) (hp : ShAt H p x) (rn : RelV (.int n) r') (q : ∀ t s', Inv X pins σ H s' → Q (.int ((valD es x).getD n) t) s') :
    wpAny (model X.prog X.w) A (call (.builtin "dict.get") [.ref d, .ref p, r']) Q E s := by
  obtain ⟨hs, _, xs, r, dd⟩ := ds_of I.hok D
  refine call_meetsIn PySem.F.slot_dict_get dd.typeIs PySem.F.entry_dict_get (PySem.F.args_dict_get_3 _ _ _) (meetsH_dict_get_default (nestedKind X.prog X.w) d p hs r') ⟨show A.in1.units + 8 < cLine from hu, shK x, xs, sh_key I.hok hp, dd, ?_⟩
  have rel := (drel_val r x).getD rn
  have e : ((valD es x).map V.int).getD (.int n) = .int ((valD es x).getD n) := by cases valD es x <;> rfl
  rw [e] at rel
  obtain ⟨t, et⟩ := rel
  rw [et]
  exact q t _ (I.tok _)
theorem ds_setItem {n : Int} {v : Value} {Q : Unit → Shared → Prop} (hu : A.units + 9 < cLine) (I : Inv X pins σ H s) (D : DAt X.prog X.w H d es) (hp : ShAt H p x) (rv : RelV (.int n) v) (hl : es.length < sizeLine)
    (q : ∀ s', Inv X pins σ (upd H d (DS X.prog X.w d (putD es x p n))) s' → Q () s') : wpAny (model X.prog X.w) A (setItem (.ref d) (.ref p) v) Q E s := by
  obtain ⟨hs, hz, xs, r, dd⟩ := ds_of I.hok D.rd
  have hz' : xs.length ≤ sizeLine := by rw [← Paired.length r]; exact hz
  refine wpAny_setItem_heap (hsz := hz') (show A.in1.units + 8 < cLine from hu) (sh_key I.hok hp) dd fun h' dd' hsb => q _ ?_
  obtain ⟨o, en, ep, h1, h2, h3, h4, _, h5⟩ := dd'
  refine d_write I (by rw [D.hd]; exact True.intro) hsb ⟨o, h1⟩ (ds_obj ⟨hs, ?_, _, drel_put r x p rv, o, en, ep, h1, h2, h3, h4, h5⟩)
  have := putD_len es x p n
  omega
theorem ds_del {Q : Unit → Shared → Prop} {n : Int} (hu : A.units + 9 < cLine) (I : Inv X pins σ H s) (D : DAt X.prog X.w H d es) (hp : ShAt H p x) (hv : valD es x = some n)
    (q : ∀ s', Inv X pins σ (upd H d (DS X.prog X.w d (dropD es x))) s' → Q () s') : wpAny (model X.prog X.w) A (delItem (.ref d) (.ref p)) Q E s := by
  obtain ⟨hs, hz, xs, r, dd⟩ := ds_of I.hok D.rd
  have hz' : xs.length ≤ sizeLine := by rw [← Paired.length r]; exact hz
  have rel := drel_val r x
  rw [hv] at rel
  obtain ⟨w', hw, rw'⟩ := RelO.some_of (v := V.int n) rel
  obtain ⟨y, hy, hy2⟩ := Option.map_eq_some_iff.mp hw
  refine wpAny_delItem_heap (hsz := hz') (show A.in1.units + 8 < cLine from hu) (sh_key I.hok hp) hs dd hy fun h' dd' hsb => q _ ?_
  obtain ⟨o, en, ep, h1, h2, h3, h4, _, h5⟩ := dd'
  refine d_write I (by rw [D.hd]; exact True.intro) hsb ⟨o, h1⟩ (ds_obj ⟨hs, ?_, _, drel_drop r x, o, en, ep, h1, h2, h3, h4, h5⟩)
  exact Nat.le_trans (List.length_filter_le _ _) hz
end
/-! as terms -/
section
variable {X : Cx} {pos pos' apos cpos tpos : Pos} {o i e f value : Expr} {td ty tx tv : TE}
theorem pe_dnewS : PE X (.Dict [] [] pos) (fun _ H Q => ∀ p, H p = none → Q (.ref p) (upd H p (DS X.prog X.w p []))) := ⟨fun pins s σ H Q I h => by
  refine wpAny_Dict_empty ⟨.ref s.heap.objs.size, _, I.laid (a := s.heap.objs.size) (o := DS X.prog X.w s.heap.objs.size []) (t' := s.toks) (fun _ _ q => Heap.get?_push_of_some _ q) (Nat.le_refl _) (ds_obj ?_), rfl, h _ (I.hok.fresh (Nat.le_refl _))⟩
  exact ⟨beq_eq_false_iff_ne.mpr (Ne.symm (Nat.ne_of_lt I.big)), Nat.zero_le _, [], .nil, _, #[], 0, Heap.get?_push_size _ rfl, ⟨rfl, rfl, rfl⟩, rfl, rfl, List.nodup_nil⟩⟩
def tSGet (P : Program) (w : World) (td ty : TE) : TE := fun σ H Q => td σ H fun v H1 => ty σ H1 fun y H2 => ∃ d p es x n, v = .ref d ∧ y = .ref p ∧ DRd P w H2 d es ∧ ShAt H2 p x ∧ valD es x = some n ∧ Q (.int n) H2
theorem ds_dict {pins : List (Addr × Obj)} {σ : L2.St} {H : Hp} {s : Shared} {d : Addr} {es : DEs} (I : Inv X pins σ H s) (D : DRd X.prog X.w H d es) : s.TypeIs (.ref d) "dict" ∧ (∀ b, Value.ref d = .ref b → ∃ ob, s.heap.get? b = some ob ∧ ob.dict = none) := by
  obtain ⟨_, _, xs, _, dd⟩ := ds_of I.hok D
  refine ⟨dd.typeIs, fun b z => ?_⟩
  cases z
  obtain ⟨ob, _, _, h1, h2, _⟩ := dd
  exact ⟨ob, h1, h2.2.1⟩
end
/-! ### dicts of sheets: in, d[k], d[k] = v, del d[k], d.get(k, n) -/
section
variable {X : Cx} {pos pos' apos cpos tpos : Pos} {o i e f value : Expr} {td ty tx tv : TE}
def rInDS (P : Program) (w : World) (neg : Bool) : R2 := fun y v H Q => ∃ p d es x, y = .ref p ∧ v = .ref d ∧ DRd P w H d es ∧ ShAt H p x ∧ Q (.bl ((valD es x).isSome != neg)) H
theorem op_inDS (hu : X.A.units + 64 < cLine) : OpR X (compareOp .In) (rInDS X.prog X.w false) := by
  intro pins s σ H y v y' v' Q I ry rv q
  obtain ⟨p, d, es, x, rfl, rfl, D, hp, q⟩ := q
  cases ry
  cases rv
  refine ds_in (by omega) I D hp fun s' I' => ⟨.bl (valD es x).isSome, H, I', rfl, ?_⟩
  rw [show (valD es x).isSome = ((valD es x).isSome != false) by simp]
  exact q
theorem op_notInDS (hu : X.A.units + 64 < cLine) : OpR X (compareOp .NotIn) (rInDS X.prog X.w true) := by
  intro pins s σ H y v y' v' Q I ry rv q
  obtain ⟨p, d, es, x, rfl, rfl, D, hp, q⟩ := q
  cases ry
  cases rv
  obtain ⟨hs, _, xs, r, dd⟩ := ds_of I.hok D
  refine wpAny_notIn_heap (show X.A.in1.units + 8 < cLine from by show X.A.units + 1 + 8 < cLine; omega) (sh_key I.hok hp) hs dd ?_
  have z := (drel_val r x).isSome_eq
  rw [Option.isSome_map, Option.isSome_map] at z
  rw [← z]
  refine ⟨.bl (!(valD es x).isSome), H, I.tok _, rfl, ?_⟩
  rw [show (!(valD es x).isSome) = ((valD es x).isSome != true) by simp]
  exact q
theorem pe_sget (hu : X.A.units + 64 < cLine) (ho : PE X o td) (hi : PE X i ty) (hs : NoSl i) : PE X (.Subscript o i pos) (tSGet X.prog X.w td ty) := by
  refine ⟨fun pins s σ H Q I q => ?_⟩
  refine subD_of PySem.F.slot_dict_getitem.lookup hs (thn (ho.run pins s σ H _ I q) fun u s1 ⟨v, H1, I1, rv, q1⟩ => thn (hi.run pins s1 σ H1 _ I1 q1) fun iv s2 ⟨y, H2, I2, ry, d, p, es, x, n, e1, e2, D, hp, hv, q2⟩ => ?_)
  subst e1 e2
  cases rv
  cases ry
  exact ⟨(ds_dict I2 D).1, ds_getItem (by omega) I2 D hp hv fun t s3 I3 => ⟨.int n, H2, I3, ⟨t, rfl⟩, q2⟩⟩
def sSPut (P : Program) (w : World) (td ty tv : TE) : TS := fun D σ H => tv σ H fun v H1 => td σ H1 fun v2 H2 => ty σ H2 fun y H3 => ∃ d p es x n, v = .int n ∧ v2 = .ref d ∧ y = .ref p ∧ DAt P w H3 d es ∧ ShAt H3 p x ∧ es.length < sizeLine ∧ D.nx σ (upd H3 d (DS P w d (putD es x p n)))
theorem ps_sput (hu : X.A.units + 64 < cLine) (ho : PE X o td) (hi : PE X i ty) (hv : PE X value tv) (hs : swapsWith value (some (.Subscript o i pos')) pos.line X.env = pure false) : PS X (.Assign [.Subscript o i pos'] value pos) (sSPut X.prog X.w td ty tv) := by
  refine ⟨fun pins s σ H D I q => ?_⟩
  refine wpAny_Assign_Subscript (thn (hv.run pins s σ H _ I q) fun r s1 ⟨v, H1, I1, rv, q1⟩ => thn (ho.run pins s1 σ H1 _ I1 q1) fun u s2 ⟨v2, H2, I2, rv2, q2⟩ => thn (hi.run pins s2 σ H2 _ I2 q2) fun iv s3 ⟨y, H3, I3, ry, d, p, es, x, n, e1, e2, e3, DA, hp, hl, q3⟩ => ?_) hs
  subst e1 e2 e3
  cases rv2
  cases ry
  exact ds_setItem (by omega) I3 DA hp rv hl fun s4 I4 => ⟨σ, _, I4, q3⟩
def sSDel (P : Program) (w : World) (td ty : TE) : TS := fun D σ H => td σ H fun v2 H2 => ty σ H2 fun y H3 => ∃ d p es x n, v2 = .ref d ∧ y = .ref p ∧ DAt P w H3 d es ∧ ShAt H3 p x ∧ valD es x = some n ∧ D.nx σ (upd H3 d (DS P w d (dropD es x)))
theorem ps_sdel (hu : X.A.units + 64 < cLine) (ho : PE X o td) (hi : PE X i ty) : PS X (.Delete [.Subscript o i tpos] pos) (sSDel X.prog X.w td ty) := by
  refine ⟨fun pins s σ H D I q => ?_⟩
  refine wpAny_Delete (wpAny_deleteEach_cons (wpAny_delete_Subscript (thn (ho.run pins s σ H _ I q) fun u s1 ⟨v2, H1, I1, rv2, q1⟩ => thn (hi.run pins s1 σ H1 _ I1 q1) fun iv s2 ⟨y, H2, I2, ry, d, p, es, x, n, e2, e3, DA, hp, hv, q2⟩ => ?_)))
  subst e2 e3
  cases rv2
  cases ry
  exact ds_del (by omega) I2 DA hp hv fun s3 I3 => wpAny_deleteEach_nil ⟨σ, _, I3, q2⟩
def sSAug (P : Program) (w : World) (td ty tv : TE) (rd : V → V → Hp → VK → Prop) : TS := fun D σ H => td σ H fun v2 H1 => ty σ H1 fun y H2 => ∃ d p es x n, v2 = .ref d ∧ y = .ref p ∧ DAt P w H2 d es ∧ ShAt H2 p x ∧ valD es x = some n ∧
  tv σ H2 fun y2 H3 => rd (.int n) y2 H3 fun z H4 => ∃ es2 m, z = .int m ∧ DAt P w H4 d es2 ∧ ShAt H4 p x ∧ es2.length < sizeLine ∧ D.nx σ (upd H4 d (DS P w d (putD es2 x p m)))
theorem ps_saug {op : Operator} {rd : V → V → Hp → VK → Prop} (hu : X.A.units + 64 < cLine) (ho : PE X o td) (hi : PE X i ty) (hv : PE X value tv) (hop : InOp X op rd)
    (ha : ∀ ov iv new, augStore i ov iv new = (do holding [new, ov, iv] (setItem ov iv new); release [new, ov, iv] []; pure .next)) : PS X (.AugAssign (.Subscript o i tpos) op value pos) (sSAug X.prog X.w td ty tv rd) := by
  refine ⟨fun pins s σ H D I q => ?_⟩
  refine wpAny_AugAssign_SubscriptAny (thn (ho.run pins s σ H _ I q) fun u s1 ⟨v2, H1, I1, rv2, q1⟩ => thn (hi.run pins s1 σ H1 _ I1 q1) fun iv s2 ⟨y, H2, I2, ry, d, p, es, x, n, e2, e3, DA, hp, hval, q2⟩ => ?_) ha
  subst e2 e3
  cases rv2
  cases ry
  refine ds_getItem (by omega) I2 DA.rd hp hval fun t s3 I3 => thn (hv.run pins s3 σ H2 _ I3 q2) fun w2 s4 ⟨y2, H3, I4, ry2, q3⟩ => ?_
  refine thn (hop pins s4 σ H3 (.int n) y2 (.int n t) w2 _ I4 ⟨t, rfl⟩ ry2 q3) fun w3 s5 ⟨z, H4, I5, rz, es2, m, ez, DA2, hp2, hl, q4⟩ => ?_
  subst ez
  exact ds_setItem (by omega) I5 DA2 hp2 rz hl fun s6 I6 => ⟨σ, _, I6, q4⟩
def tSGet2 (P : Program) (w : World) (td ty tx : TE) : TE := fun σ H Q => td σ H fun v H1 => ∃ d es, v = .ref d ∧ DRd P w H1 d es ∧ ty σ H1 fun y H2 => tx σ H2 fun z H3 => ∃ p x n es3, y = .ref p ∧ z = .int n ∧ DRd P w H3 d es3 ∧ ShAt H3 p x ∧ Q (.int ((valD es3 x).getD n)) H3
theorem pe_sget2 (hu : X.A.units + 64 < cLine) (ho : PE X o td) (he : PE X e ty) (hf : PE X f tx) (m : M2 X o "get" apos e f cpos) : PE X (.Call (.Attribute o "get" apos) [e, f] [] cpos) (tSGet2 X.prog X.w td ty tx) := by
  refine ⟨fun pins s σ H Q I q => ?_⟩
  refine wpAny_Call_method m.base m.few m.line PySem.F.plainAttrs_dict PySem.F.slot_dict_get PySem.F.type_dict_get (thn (ho.run pins s σ H _ I q) fun u s1 ⟨v, H1, I1, rv, d, es, ev, DA, q1⟩ => ?_)
  subst ev
  cases rv
  obtain ⟨t1, t2⟩ := ds_dict I1 DA
  refine ⟨t1, t2, ?_⟩
  rw [m.trees]
  refine Calls.callWith_builtin rfl (Calls.evalArgs_plain (Calls.spliced_cons (thn (he.run pins s1 σ H1 _ I1 q1) fun iv s2 ⟨y, H2, I2, ry, q2⟩ => ?_)))
  refine Calls.spliced_cons (thn (hf.run pins s2 σ H2 _ I2 q2) fun fv s3 ⟨z, H3, I3, rz, p, x, n, es3, ey, ez, DA3, hp, q3⟩ => Calls.spliced_nil ?_)
  subst ey ez
  cases ry
  exact ds_getOr (by omega) I3 DA3 hp rz fun t s4 I4 => ⟨.int _, H3, I4, ⟨t, rfl⟩, q3⟩
end
/-! ### many new objects at once -/
def addAll (H : Hp) : List (Addr × HO) → Hp
  | [] => H
  | z :: zs => addAll (upd H z.1 z.2) zs
theorem addAll_other {a : Addr} : ∀ {zs : List (Addr × HO)} {H : Hp}, (∀ z ∈ zs, z.1 ≠ a) → addAll H zs a = H a
  | [], _, _ => rfl
  | z :: zs, H, h => by
    show addAll (upd H z.1 z.2) zs a = H a
    rw [addAll_other fun y hy => h y (List.mem_cons_of_mem _ hy), upd_ne (Ne.symm (h z List.mem_cons_self))]
theorem addAll_at {a : Addr} {o : HO} : ∀ {zs : List (Addr × HO)} {H : Hp}, (zs.map (·.1)).Nodup → (a, o) ∈ zs → addAll H zs a = some o
  | [], _, _, h => by cases h
  | z :: zs, H, n, h => by
    rw [List.map_cons, List.nodup_cons] at n
    show addAll (upd H z.1 z.2) zs a = some o
    rcases List.mem_cons.mp h with e | e
    · rw [← e, addAll_other fun y hy z' => n.1 (List.mem_map.mpr ⟨y, hy, by rw [z', ← e]⟩), upd_same]
    · exact addAll_at n.2 e
theorem addAll_mem {a : Addr} {o : HO} : ∀ {zs : List (Addr × HO)} {H : Hp}, addAll H zs a = some o → (a, o) ∈ zs ∨ H a = some o
  | [], _, h => .inr h
  | z :: zs, H, h => by
    rcases addAll_mem (zs := zs) (H := upd H z.1 z.2) h with e | e
    · exact .inl (List.mem_cons_of_mem _ e)
    · by_cases ha : a = z.1
      · subst ha
        rw [upd_same] at e
        cases e
        exact .inl List.mem_cons_self
      · rw [upd_ne ha] at e
        exact .inr e
theorem addAll_same {zs : List (Addr × HO)} {H : Hp} (n : ∀ z ∈ zs, H z.1 = none) : Same H (addAll H zs) := fun a o e => (addAll_other fun z hz => (ne_of_none e (n z hz)).symm).trans e
section
variable {X : Cx} {pins : List (Addr × Obj)} {σ : L2.St} {H : Hp} {s : Shared}
theorem Inv.lays {h' : Heap} {t' : Nat} {zs : List (Addr × HO)} (I : Inv X pins σ H s) (k : ∀ b u, s.heap.get? b = some u → h'.get? b = some u) (hp : ∀ z ∈ zs, s.heap.objs.size ≤ z.1)
    (new : ∀ z ∈ zs, ObjOk X.prog X.w (addAll H zs) h' z.1 z.2) : Inv X pins σ (addAll H zs) { s with heap := h', toks := t' } := by
  have hn : ∀ z ∈ zs, H z.1 = none := fun z hz => I.hok.fresh (hp z hz)
  have sm := addAll_same hn
  refine I.call (ch := []) (g' := s.gens) (d' := s.drawn) ⟨fun b u q _ _ _ => k b u q, fun b u q _ _ _ => ⟨u.slots, k b u q⟩, fun b u q n _ => ?_, fun b u q _ => ⟨u, k b u q⟩, fun b xs q => sm _ _ q, fun b u v q => sm _ _ q, fun b ps q => ⟨#[], by rw [sm _ _ q]; simp⟩⟩ (fun b o q => ?_) I.bare (fun _ z => nomatch z)
  · rw [addAll_other fun z hz e => ?_]
    · exact n
    · have y := hp z hz
      rw [e] at y
      exact absurd (Nat.lt_of_lt_of_le (Heap.lt_size q) y) (Nat.lt_irrefl _)
  · rcases addAll_mem q with z | z
    · exact new _ z
    · exact (I.hok b o z).stay (fun c v _ y => k c v y) (fun c y => sm _ _ y) fun c xs y => sm _ _ y
end
/-! ### dicts of sheets: items, keys, values as lists; sorted -/
theorem Paired.getL {α β : Type} {F : α → β → Prop} : ∀ {l₁ : List α} {l₂ : List β}, Paired F l₁ l₂ → ∀ {j : Nat} {a : α}, l₁[j]? = some a → ∃ b, l₂[j]? = some b ∧ F a b
  | _, _, .nil, j, a, h => by simp at h
  | _, _, .cons r t, 0, a, h => by cases h; exact ⟨_, rfl, r⟩
  | _, _, .cons r t, j + 1, a, h => Paired.getL t (j := j) (by simpa using h)
theorem Paired.byIx {α β : Type} {F : α → β → Prop} : ∀ {l₁ : List α} {l₂ : List β}, l₁.length = l₂.length → (∀ (j : Nat) (a : α) (b : β), l₁[j]? = some a → l₂[j]? = some b → F a b) → Paired F l₁ l₂
  | [], [], _, _ => .nil
  | a :: l₁, b :: l₂, h, f => .cons (f 0 a b rfl rfl) (Paired.byIx (by simpa using h) fun j x y h1 h2 => f (j + 1) x y (by simpa using h1) (by simpa using h2))
  | [], _ :: _, h, _ => by simp at h
  | _ :: _, [], h, _ => by simp at h
section
variable {P : Program} {w : World} {es : DEs}
theorem ds_ent {xs : List (NestedKey × Addr × Value)} {en : Array DictEntry} (he : en.toList = xs.map (entryOfKey (nestedKind P w))) (r : Paired DRel es xs) {j : Nat} {e : Sh × Addr × Int} (h : es[j]? = some e) :
    ∃ hs v, en[j]? = some ⟨hs, .ref e.2.1, v⟩ ∧ RelV (.int e.2.2) v := by
  obtain ⟨y, hy, h1, h2, h3⟩ := Paired.getL r h
  refine ⟨(nestedKind P w).hash y.1, y.2.2, ?_, h3⟩
  rw [entry_at he j, hy, ← h2]
  rfl
theorem ds_size {xs : List (NestedKey × Addr × Value)} {en : Array DictEntry} (he : en.toList = xs.map (entryOfKey (nestedKind P w))) (r : Paired DRel es xs) : en.size = es.length := (size_of_entries he).trans (Paired.length r).symm
end
section
variable {X : Cx}
def rItemsDS (P : Program) (w : World) : V → List V → Hp → VK → Prop := fun x xs H Q => ∃ d es, x = .ref d ∧ xs = [] ∧ DAt P w H d es ∧ ∀ p, H p = none → Q (.ref p) (upd H p (DX.itemsO p d))
theorem mt_itemsDS : MtR X "dict.items" (rItemsDS X.prog X.w) := by
  intro pins s σ H x xs v us Q I rx rxs q
  obtain ⟨d, es, rfl, rfl, D, q⟩ := q
  cases rx
  cases rxs
  obtain ⟨hs, _, ys, r, o, en, ep, ho, hx, hdat, _⟩ := (I.hok d _ D.hd).1
  refine DT.callItems (es := en) (ep := ep) hs ⟨o, ho, hx, hdat⟩ ?_
  exact ⟨.ref s.heap.objs.size, upd H s.heap.objs.size (DX.itemsO s.heap.objs.size d), I.laid (t' := s.toks) (fun b u z => Heap.get?_push_of_some _ z) (Nat.le_refl _) (DX.itemsO_ok (Heap.get?_push_size _ rfl)), rfl, q _ (I.hok.fresh (Nat.le_refl _))⟩
/-- rows: a list of tuples of a sheet and its number -/
def RowsAt (H : Hp) (as : List Addr) (es : DEs) : Prop := Paired (fun a (e : Sh × Addr × Int) => H a = some (.tup [.ref e.2.1, .int e.2.2])) as es
theorem RowsAt.mono {H H' : Hp} {as : List Addr} {es : DEs} (h : RowsAt H as es) (k : ∀ p xs, H p = some (.tup xs) → H' p = some (.tup xs)) : RowsAt H' as es := Paired.mapP h fun a e z => k _ _ z
def rListItems (P : Program) (w : World) : List V → Hp → VK → Prop := fun vs H Q => ∃ p d es, vs = [.ref p] ∧ H p = some (DX.itemsO p d) ∧ DAt P w H d es ∧
  ∀ l as H', H l = none → Same H H' → H' l = some (.lst (as.map V.ref)) → RowsAt H' as es → Q (.ref l) H'
theorem call_list_itemsDS (hc : X.calm = true) : CallR X (.type "list") (rListItems X.prog X.w) := by
  intro pins s σ H vs us Q I r q
  obtain ⟨p, d, es, rfl, hp, D, q⟩ := q
  obtain ⟨u, rfl, rx⟩ := r.one
  cases rx
  obtain ⟨hs, hz, ys, rel, o, en, ep, ho, hx, hdat, he, _⟩ := (I.hok d _ D.hd).1
  have view : s.heap.IsItemsView p d := (I.hok p _ hp).1
  have hsz := ds_size he rel
  refine PySem.W.dil_call (es := en) (ep := ep) (I.ok.hd hc) view ⟨o, ho, hx, hdat⟩ (by omega) fun h' tk acc c as hk hS hl hG hacc => ?_
  have hal : as.length = es.length := by omega
  have ab : ∀ a ∈ as, s.heap.objs.size < a := hG.above
  have nd : as.Nodup := hG.rise.imp fun h => Nat.ne_of_lt h
  have hin : ∀ z ∈ (s.heap.objs.size, HO.lst (as.map V.ref)) :: (as.zip es).map (fun z => (z.1, HO.tup [.ref z.2.2.1, .int z.2.2.2])), s.heap.objs.size ≤ z.1 := by
    intro z hz
    rcases List.mem_cons.mp hz with e | e
    · rw [e]
      exact Nat.le_refl _
    · obtain ⟨y, hy, rfl⟩ := List.mem_map.mp e
      exact Nat.le_of_lt (ab _ (List.of_mem_zip hy).1)
  have hm : ((as.zip es).map (fun z : Addr × Sh × Addr × Int => (z.1, HO.tup [.ref z.2.2.1, .int z.2.2.2]))).map (·.1) = as := by
    rw [List.map_map]
    show (as.zip es).map (fun z => z.1) = as
    exact List.map_fst_zip (by omega)
  have hnd : (((s.heap.objs.size, HO.lst (as.map V.ref)) :: (as.zip es).map (fun z => (z.1, HO.tup [.ref z.2.2.1, .int z.2.2.2]))).map (·.1)).Nodup := by
    rw [List.map_cons, hm, List.nodup_cons]
    exact ⟨fun z => Nat.lt_irrefl _ (ab _ z), nd⟩
  have J := Inv.lays (t' := tk) I hk hin fun z hz => by
    rcases List.mem_cons.mp hz with e | e
    · rw [e]
      refine ⟨by rw [List.length_map]; omega, acc.toList, c, ?_, by rw [Array.toArray_toList]; exact hS⟩
      rw [hacc]
      exact vals_refs as
    · obtain ⟨y, hy, rfl⟩ := List.mem_map.mp e
      obtain ⟨j, hj⟩ := List.mem_iff_getElem?.mp hy
      rw [List.getElem?_zip_eq_some] at hj
      obtain ⟨hlt, hpair⟩ := hG.pairs j _ hj.1
      obtain ⟨hsh, v, hv, rv⟩ := ds_ent he rel hj.2
      have e1 : en[j] = ⟨hsh, .ref y.2.2.1, v⟩ := by
        rw [Array.getElem?_eq_getElem hlt] at hv
        exact Option.some.inj hv
      rw [e1] at hpair
      exact ⟨by show 2 ≤ sizeLine; decide, [.ref y.2.2.1, v], .cons rfl (.cons rv .nil), _, hpair, rfl, _, rfl⟩
  have fr := fun z hz => I.hok.fresh (hin z hz)
  refine ⟨.ref s.heap.objs.size, _, J, rfl, q _ as _ (I.hok.fresh (Nat.le_refl _)) (addAll_same fr) (addAll_at hnd List.mem_cons_self) ?_⟩
  refine Paired.byIx hal fun j a e h1 h2 => addAll_at hnd (List.mem_cons_of_mem _ (List.mem_map.mpr ⟨(a, e), ?_, rfl⟩))
  exact List.mem_of_getElem? (List.getElem?_zip_eq_some.mpr ⟨h1, h2⟩)
theorem refs_by {ys : List (NestedKey × Addr × Value)} {en : Array DictEntry} {es : DEs} {acc : Array Value} (he : en.toList = ys.map (entryOfKey (nestedKind X.prog X.w))) (rel : Paired DRel es ys)
    (hl : acc.size = en.size) (hv : ∀ (j : Nat) (v : Value), acc[j]? = some v → ∃ e : DictEntry, en[j]? = some e ∧ v = e.key) : acc.toList = (es.map fun e => e.2.1).map Value.ref := by
  have hs := ds_size he rel
  apply List.ext_getElem?
  intro j
  rw [List.getElem?_map, List.getElem?_map, Array.getElem?_toList]
  cases hj : acc[j]? with
  | none =>
    have : acc.size ≤ j := by simpa using hj
    rw [List.getElem?_eq_none (by omega)]
    rfl
  | some v =>
    obtain ⟨e, h1, rfl⟩ := hv j v hj
    have : j < acc.size := by
      rcases Nat.lt_or_ge j acc.size with z | z
      · exact z
      · rw [Array.getElem?_eq_none z] at hj
        cases hj
    obtain ⟨e2, h2⟩ : ∃ e2, es[j]? = some e2 := ⟨es[j]'(by omega), List.getElem?_eq_getElem (by omega)⟩
    obtain ⟨hsh, v, h3, _⟩ := ds_ent he rel h2
    rw [h1] at h3
    rw [h2, Option.some.inj h3]
    rfl
/-- list(d) -/
def rListKeys (P : Program) (w : World) : List V → Hp → VK → Prop := fun vs H Q => ∃ d es, vs = [.ref d] ∧ DAt P w H d es ∧ ∀ p, H p = none → Q (.ref p) (upd H p (.lst (es.map fun e => V.ref e.2.1)))
theorem call_list_DS (hc : X.calm = true) : CallR X (.type "list") (rListKeys X.prog X.w) := by
  intro pins s σ H vs us Q I r q
  obtain ⟨d, es, rfl, D, q⟩ := q
  obtain ⟨u, rfl, rx⟩ := r.one
  cases rx
  obtain ⟨hs, hz, ys, rel, o, en, ep, ho, hx, hdat, he, _⟩ := (I.hok d _ D.hd).1
  have hsz := ds_size he rel
  refine PySem.W.kdl_call (kdl_raw hs hx hdat) (I.ok.hd hc) ho (by omega) fun h' tk acc c kp e it => ?_
  have ea := refs_by (X := X) he rel it.1 fun j v hv => it.2 j v hv
  refine ⟨.ref s.heap.objs.size, _, I.laid (t' := tk) (o := .lst (es.map fun e => V.ref e.2.1)) kp (Nat.le_refl _) ?_, rfl, q _ (I.hok.fresh (Nat.le_refl _))⟩
  refine ⟨by rw [List.length_map]; exact hz, acc.toList, c, ?_, by rw [Array.toArray_toList]; exact e⟩
  rw [ea, show (es.map fun e => V.ref e.2.1) = (es.map fun e => e.2.1).map V.ref by rw [List.map_map]; rfl]
  exact vals_refs _
end
/-! the order of sheets -/
def encS (x : Sh) : PyData := .tuple [.tuple [.int x.1, .int x.2.1], .tuple [.int x.2.2.1, .int x.2.2.2]]
def ltS (x y : Sh) : Prop := x.1 < y.1 ∨ (x.1 = y.1 ∧ (x.2.1 < y.2.1 ∨ (x.2.1 = y.2.1 ∧ (x.2.2.1 < y.2.2.1 ∨ (x.2.2.1 = y.2.2.1 ∧ x.2.2.2 < y.2.2.2)))))
instance (x y : Sh) : Decidable (ltS x y) := by unfold ltS; infer_instance
def leS (x y : Sh) : Bool := !decide (ltS y x)
theorem lt_encS (x y : Sh) : PySem.W.dataLt (encS x) (encS y) = decide (ltS x y) := by
  unfold encS
  rw [PySem.W.dataLt_pair (by simp [PySem.W.alike, PySem.W.alikeAll]) (by simp [PySem.W.alike, PySem.W.alikeAll]), PySem.W.dataLt_ii, PySem.W.dataLt_ii]
  simp only [PyData.eqv, PyData.eqvAll, Bool.and_true, Bool.and_eq_true, beq_iff_eq]
  obtain ⟨a, b, c, e⟩ := x
  obtain ⟨a', b', c', e'⟩ := y
  dsimp only
  rw [Bool.eq_iff_iff, decide_eq_true_iff]
  unfold ltS
  dsimp only
  by_cases h1 : a = a' ∧ b = b'
  · rw [if_pos h1]
    by_cases h2 : c = c' ∧ e = e'
    · rw [if_pos h2]
      constructor
      · intro z
        cases z
      · omega
    · rw [if_neg h2, decide_eq_true_iff]
      omega
  · rw [if_neg h1, decide_eq_true_iff]
    omega
theorem le_encS {β : Type} (f : β → Sh) : PySem.W.dataLe false (fun b => encS (f b)) = fun a b => leS (f a) (f b) := by
  funext a b
  show (!PySem.W.dataLt (encS (f b)) (encS (f a))) = _
  rw [lt_encS]
  rfl
theorem leS_trans (x y z : Sh) (h1 : leS x y = true) (h2 : leS y z = true) : leS x z = true := by
  unfold leS at *
  simp only [Bool.not_eq_true', decide_eq_false_iff_not] at *
  unfold ltS at *
  omega
theorem leS_total (x y : Sh) : (leS x y || leS y x) = true := by
  unfold leS
  rw [Bool.or_eq_true]
  simp only [Bool.not_eq_true', decide_eq_false_iff_not]
  unfold ltS
  omega
theorem leS_antisymm {x y : Sh} (h1 : leS x y = true) (h2 : leS y x = true) : x = y := by
  unfold leS at *
  simp only [Bool.not_eq_true', decide_eq_false_iff_not] at *
  obtain ⟨a, b, c, e⟩ := x
  obtain ⟨a', b', c', e'⟩ := y
  unfold ltS at *
  dsimp only at *
  have : a = a' ∧ b = b' ∧ c = c' ∧ e = e' := by omega
  obtain ⟨rfl, rfl, rfl, rfl⟩ := this
  rfl
section
variable {X : Cx}
theorem sh_reads {P : Program} {w : World} {H : Hp} {h : Heap} (ok : HOk P w H h) {p : Addr} {x : Sh} (e : ShAt H p x) : Reads h (.ref p) (encS x) [] := by
  have two : ∀ {a : Addr} {y z : Int}, H a = some (.tup [.int y, .int z]) → Reads h (.ref a) (.tuple [.int y, .int z]) [] := by
    intro a y z e
    obtain ⟨_, its, r, o, ho, hc, n, hdat⟩ := ok a _ e
    cases r with
    | cons r1 t =>
      cases t with
      | cons r2 t =>
        cases t
        obtain ⟨t1, rfl⟩ := r1
        obtain ⟨t2, rfl⟩ := r2
        exact Reads.tuple ho hc hdat (.cons (as := []) (bs := []) (.int y t1) (.cons (as := []) (bs := []) (.int z t2) .nil))
  obtain ⟨u, v, h1, h2, h3⟩ := e
  obtain ⟨_, its, r, o, ho, hc, n, hdat⟩ := ok p _ h1
  cases r with
  | cons r1 t =>
    cases t with
    | cons r2 t =>
      cases t
      cases r1
      cases r2
      exact Reads.tuple ho hc hdat (.cons (as := []) (bs := []) (two h2) (.cons (as := []) (bs := []) (two h3) .nil))
theorem each_refs {β : Type} {f : β → Addr} : ∀ {vs : List Value} {bs : List β}, PySem.W.EachIs (fun v b => v = Value.ref (f b)) vs bs → vs = bs.map fun b => Value.ref (f b)
  | _, _, .nil => rfl
  | _, _, .cons h t => by rw [List.map_cons, ← each_refs t, h]
theorem each_of {β : Type} {F : Value → β → Prop} {f : β → Addr} : ∀ {bs : List β}, (∀ b ∈ bs, F (.ref (f b)) b) → PySem.W.EachIs F (bs.map fun b => Value.ref (f b)) bs
  | [], _ => .nil
  | b :: bs, h => .cons (h b List.mem_cons_self) (each_of fun c hc => h c (List.mem_cons_of_mem _ hc))
/-- what sorting gives, behind the gathering of the items -/
theorem sort_tail {pins : List (Addr × Obj)} {σ : L2.St} {H : Hp} {s : Shared} {Q : VK} (hu : X.A.units + 64 < cLine) (I : Inv X pins σ H s) {bs : List (Sh × Addr)} (hz : bs.length ≤ sizeLine) (hk : ∀ b ∈ bs, ShAt H b.2 b.1)
    (q : ∀ p, H p = none → Q (.ref p) (upd H p (.lst ((bs.mergeSort fun a b => leS a.1 b.1).map fun b => V.ref b.2)))) {h' : Heap} {tk : Nat} (hk' : ∀ b u, s.heap.get? b = some u → h'.get? b = some u) :
    wpAny (model X.prog X.w) X.A.in1 (call (.builtin "list.sort") [.ref h'.objs.size]) (fun _ s' => EP X pins σ Q (.ref h'.objs.size) s') X.xe { s with heap := h'.push (PyProof.Rows.seqObj "list" (bs.map fun b => Value.ref b.2).toArray 0), toks := tk } := by
  have I1 : Inv X pins σ H { s with heap := h', toks := tk } := I.kept hk'
  have hoL : (h'.push (PyProof.Rows.seqObj "list" (bs.map fun b => Value.ref b.2).toArray 0)).get? h'.objs.size = some (PyProof.Rows.seqObj "list" (bs.map fun b => Value.ref b.2).toArray 0) := Heap.get?_push_size _ rfl
  refine PySem.W.list_sort_data (enc := fun b : Sh × Addr => encS b.1) (R := fun v b => v = Value.ref b.2) hoL (each_of fun b hb => rfl) (each_of fun b hb => ⟨[], ?_, by simp⟩) (PySem.W.AllAlike.of fun _ _ => by simp [PySem.W.alike, PySem.W.alikeAll, encS]) (PySem.W.Sortable.tuples fun _ => ⟨_, _, rfl⟩) hz (fun b _ => ?_) fun out hlen eo => ?_
  · exact PyProof.Rows.Reads.keeps (fun c u e => Heap.get?_push_of_some _ e) (sh_reads I1.hok (hk b hb))
  · have : (encS b.1).depth = 2 := by simp [encS, PyData.depth, PyData.depthAll]
    show X.A.units + 1 + 1 + _ < cLine
    omega
  · rw [le_encS (fun b : Sh × Addr => b.1)] at eo
    have eo := each_refs eo
    obtain ⟨e', he'⟩ := PyProof.Rows.sortedHeap_at (vs := bs.map fun b => Value.ref b.2) (out := out.toArray) hoL
    refine ⟨.ref h'.objs.size, _, I1.laid (t' := tk) (o := .lst ((bs.mergeSort fun a b => leS a.1 b.1).map fun b => V.ref b.2)) (fun b u e => ?_) (Nat.le_refl _) ⟨?_, out, e', ?_, he'⟩, rfl, q _ (I1.hok.fresh (Nat.le_refl _))⟩
    · have hb : b < h'.objs.size := Heap.lt_size e
      rw [PyProof.Rows.sortedHeap_old (Nat.ne_of_lt hb) (by rw [Heap.size_push]; exact Nat.lt_succ_of_lt hb)]
      exact Heap.get?_push_of_some _ e
    · rw [List.length_map, List.length_mergeSort]
      exact hz
    · rw [eo, show ((bs.mergeSort fun a b => leS a.1 b.1).map fun b => V.ref b.2) = ((bs.mergeSort fun a b => leS a.1 b.1).map (·.2)).map V.ref by rw [List.map_map]; rfl, show ((bs.mergeSort fun a b => leS a.1 b.1).map fun b => Value.ref b.2) = ((bs.mergeSort fun a b => leS a.1 b.1).map (·.2)).map Value.ref by rw [List.map_map]; rfl]
      exact vals_refs _
/-- sorted(d) -/
def rSortedDS (P : Program) (w : World) : List V → Hp → VK → Prop := fun vs H Q => ∃ d es, vs = [.ref d] ∧ DAt P w H d es ∧ ∀ p, H p = none → Q (.ref p) (upd H p (.lst (((es.map fun e => (e.1, e.2.1)).mergeSort fun a b => leS a.1 b.1).map fun b => V.ref b.2)))
theorem cr_sortedDS (hc : X.calm = true) (hu : X.A.units + 64 < cLine) : CallR X (.builtin "sorted") (rSortedDS X.prog X.w) := by
  intro pins s σ H vs us Q I r q
  obtain ⟨d, es, rfl, D, q⟩ := q
  obtain ⟨u, rfl, rx⟩ := r.one
  cases rx
  obtain ⟨hs, hz, ys, rel, o, en, ep, ho, hx, hdat, he, _⟩ := (I.hok d _ D.hd).1
  have hsz := ds_size he rel
  refine Calls.call_function_entry PyProof.Rows.kind_sorted PyProof.Rows.plain_sorted PyProof.Rows.entry_sorted (PyProof.Rows.args_sorted1 _) ?_
  unfold Builtin.«sorted»
  refine wpAny_bind (m := checkCount "sorted" 1 1 _) (wpAny_pure ?_)
  refine wpAny_bind (PySem.W.kdu_collect (A := X.A.in1) (kdl_raw hs hx hdat) (I.ok.hd hc) ho (by omega) fun h' tk acc kp it => ?_)
  have ea := refs_by (X := X) he rel it.1 fun j v hv => it.2 j v hv
  have eb : acc.toList = (es.map fun e => (e.1, e.2.1)).map fun b => Value.ref b.2 := by rw [ea, List.map_map, List.map_map]; rfl
  refine wpAny_bind (wpAny_newList ?_ (by rw [ea, List.length_map, List.length_map]; exact hz))
  rw [eb]
  refine wpAny_bind (wpAny_holding (wpAny_mono (sort_tail hu I (bs := es.map fun e => (e.1, e.2.1)) (by rw [List.length_map]; exact hz) (fun b hb => ?_) q (tk := tk) kp) (fun v s' z => wpAny_pure ⟨_, rfl, z⟩) fun _ _ z => z))
  obtain ⟨e, he2, rfl⟩ := List.mem_map.mp hb
  exact D.ks e he2
end
/-! ### {sheet: number for .. in ..}
The course (block, loop, turn) is that of the library's rule for dicts of plain keys, HandS.DictComp; the statement is for dicts of sheets, without tests, and the turn is a lemma of its own. -/
section
variable {X : Cx} {pins : List (Addr × Obj)} {σ : L2.St} {H : Hp} {s : Shared} {d p : Addr} {es : DEs} {x : Sh} {E : Value → Shared → Prop}
theorem ds_dictSet {n : Int} {v : Value} {Q : Unit → Shared → Prop} (hu : X.A.units + 64 < cLine) (I : Inv X pins σ H s) (D : DAt X.prog X.w H d es) (hp : ShAt H p x) (rv : RelV (.int n) v) (hl : es.length < sizeLine)
    (q : ∀ s', Inv X pins σ (upd H d (DS X.prog X.w d (putD es x p n))) s' → Q () s') : wpAny (model X.prog X.w) X.A (dictSet d (.ref p) v) Q E s := by
  obtain ⟨hs, hz, ys, r, dd⟩ := ds_of I.hok D.rd
  have room : (nestedKind X.prog X.w).room X.A := by
    show X.A.units + 8 < cLine
    omega
  refine wpAny_dictSet_heap (hsz := by rw [← Paired.length r]; exact hz) room (sh_key I.hok hp) dd fun h' dd' sb => q _ ?_
  obtain ⟨o, en, ep, k1, k2, k3, k4, _, k5⟩ := dd'
  have few := putD_len es x p n
  exact d_write I (by rw [D.hd]; exact True.intro) sb ⟨o, k1⟩ (ds_obj ⟨hs, by omega, _, drel_put r x p rv, o, en, ep, k1, k2, k3, k4, k5⟩)
end
/-- what one turn is asked: the target, the key, the value, then the dict with it -/
def TurnS (P : Program) (w : World) (g : TG) (tk tv : TE) (vs : List Nat) (σ : L2.St) (D : Addr) (N : Hp → Prop) (x : V) (H : Hp) : Prop :=
  g x (wipe σ vs) H fun τ G => wipe τ vs = wipe σ vs ∧ tk τ G fun y G1 => tv τ G1 fun z G2 => ∃ p k n es, y = .ref p ∧ z = .int n ∧ DAt P w G2 D es ∧ ShAt G2 p k ∧ es.length < sizeLine ∧ N (upd G2 D (DS P w D (putD es k p n)))
def tDcS (P : Program) (w : World) (wi : TI) (g : TG) (tk tv : TE) (vs : List Nat) : TE := fun σ H Q => wi σ H fun J G => ∀ D, G D = none → ∃ W : Nat → Nat → Hp → Prop, (∃ m, W 0 m (upd G D (DS P w D []))) ∧
  ∀ i m G1, W i m G1 → (J.stop i G1 ∧ Q (.ref D) G1) ∨ (J.go i G1 ∧ ∀ x G2, J.yld i G1 x G2 → TurnS P w g tk tv vs σ D (fun G3 => ∃ m', m' < m ∧ W (i + 1) m' G3) x G2)
/-- the iterators of a block, where nothing else is tracked at them -/
def Idle (Y : Cx) (fp : List Addr) : Prop := ∀ {τ : L2.St} {G : Hp} {s : Shared}, Inv Y [] τ G s → (∀ b ∈ fp, G b = none) → ∀ b ∈ fp, FpOk Y [] G b
section
variable {Y : Cx} {tg kx vx : Expr} {g : TG} {tk tv : TE} {J : It} {fp : List Addr} {it D : Addr} {tn : Nat → Heap → Prop} {vs : List Nat} {σ : L2.St} {N : Hp → Prop}
/-- a turn's end: the state of the next one -/
def Next (Y : Cx) (fp : List Addr) (tn : Nat → Heap → Prop) (τ : L2.St) (j : Nat) (N : Hp → Prop) (s : Shared) : Prop := ∃ G, Inv Y [] τ G s ∧ tn j s.heap ∧ (∀ b ∈ fp, G b = none) ∧ N G
theorem turn_ends {j : Nat} {h0 : Heap} {τ : L2.St} {G : Hp} {s : Shared} (T : Turn Y.prog Y.w Y.K tg J fp it tn) (st : tn j h0) (I : Inv Y ([] ++ pinsAt fp h0) τ G s) (hw : wipe τ vs = wipe σ vs) (n : N G) : Next Y fp tn (wipe σ vs) j N s := by
  have held : ∀ b ∈ fp, ∀ o, h0.get? b = some o → s.heap.get? b = some o ∧ G b = none := by
    intro b hb o e
    have z := I.pin (b, o) (List.mem_append_right _ (List.mem_append_right _ (mem_pinsAt hb e)))
    exact ⟨z.1, z.2.1⟩
  have len : (wipe σ vs).length = τ.length := by
    rw [← hw]
    exact wipe_length τ vs
  refine ⟨G, I.unpinned.weak len fun k v e => ?_, T.keep _ _ _ st fun b hb o e => (held b hb o e).1, fun b hb => ?_, n⟩
  · rw [← hw] at e
    exact (wipe_some e).1
  · obtain ⟨o, e, _⟩ := T.obj _ _ st b hb
    exact (held b hb o e).2
theorem turn_goes {i : Nat} {G : Hp} {s : Shared} (T : Turn Y.prog Y.w Y.K tg J fp it tn) (hc : Y.calm = true) (hu : Y.A.units + 64 < cLine) (hx : Y.xe = fun _ _ => False) (idle : Idle Y fp) (pg : PG Y tg g) (pk : PE Y kx tk) (pv : PE Y vx tv)
    (I : Inv Y [] (wipe σ vs) G s) (st : tn i s.heap) (nf : ∀ b ∈ fp, G b = none) (go : J.go i G) (turn : ∀ x G2, J.yld i G x G2 → TurnS Y.prog Y.w g tk tv vs σ D N x G2) :
    wpAny (model Y.prog Y.w) Y.A (pyNext (.ref it)) (fun r s1 => ∃ u, r = some u ∧ wpAny (model Y.prog Y.w) Y.A (letOwnedTupleGo tg (.ref it) u) (fun _ s2 => wpAny (model Y.prog Y.w) Y.A (assign tg Y.env u) (fun _ s3 =>
      wpAny (model Y.prog Y.w) Y.A (eval kx Y.env) (fun a s4 => wpAny (model Y.prog Y.w) Y.A (eval vx Y.env) (fun b s5 => wpAny (model Y.prog Y.w) Y.A (dictSet D a b) (fun _ s6 => Next Y fp tn (wipe σ vs) (i + 1) N s6) Y.xe s5) Y.xe s4) Y.xe s3) Y.xe s2) Y.xe s1) Y.xe s := by
  refine thn (T.item Y rfl rfl rfl hc i [] s _ G Y.xe I (idle I nf) st go) fun r s1 ⟨u, hr, h1⟩ => ⟨u, hr, thn h1 fun _ s2 ⟨x, G2, I2, ru, yl, st2, nf2⟩ => ?_⟩
  have I2p := I2.pinned (idle I2 nf2) (T.obj _ _ st2)
  refine thn (pg.run _ s2 _ G2 x u _ I2p ru (turn x G2 yl)) fun _ s3 ⟨τ, G3, I3, hw, q3⟩ => ?_
  refine thn (pk.run _ s3 τ G3 _ I3 q3) fun a s4 ⟨y, G4, I4, ry, q4⟩ => thn (pv.run _ s4 τ G4 _ I4 q4) fun b s5 ⟨z, G5, I5, rz, p, k, n, es, ey, ez, DA, hp, hl, q5⟩ => ?_
  subst ey ez
  cases ry
  exact ds_dictSet hu I5 DA hp rz hl fun s6 I6 => turn_ends T st2 I6 hw q5
end
section
variable {X : Cx}
theorem blk_idle {s0 : Shared} {G0 : Hp} {scope : Scope} {ce : Env} {fp : List Addr} : Idle (X.blk s0 G0 scope ce fp) fp := by
  intro τ G s I nf b hb
  have own := I.ok.exf b hb
  exact ⟨nf b hb, own.1, I.ok.exfs b hb, .inl hb, fun y c e => own.2 y c e, fun q hq => by cases hq⟩
theorem pe_dcS {kx vx tg iter : Expr} {scope : Scope} {own : List (Str × Nat)} {pos : Pos} {wi : TI} {g : TG} {tk tv : TE} (hc : X.calm = true) (hu : X.A.units + 64 < cLine) (hN : X.N.Nodup) (hi : PI X tg iter wi) (ok : BlkOk X.N X.env.scope scope own)
    (hg : ∀ (s : Shared) (G : Hp) (C : Addr) (cl : List (Str × Addr)) (fp : List Addr), PG (X.blk s G scope (compEnvC scope cl C X.env) fp) tg g) (hk : ∀ (s : Shared) (G : Hp) (C : Addr) (cl : List (Str × Addr)) (fp : List Addr), PE (X.blk s G scope (compEnvC scope cl C X.env) fp) kx tk)
    (hv : ∀ (s : Shared) (G : Hp) (C : Addr) (cl : List (Str × Addr)) (fp : List Addr), PE (X.blk s G scope (compEnvC scope cl C X.env) fp) vx tv) (hf : ∀ y, foldedSetIterable iter X.env y = pure y := by intro _; rfl) :
    PE X (.DictComp kx vx [⟨tg, iter, [], 0⟩] scope pos) (tDcS X.prog X.w wi g tk tv (own.map (·.2))) := by
  refine ⟨fun pins s σ H Q I h => ?_⟩
  rw [arm_eval_DictComp]
  have cells : ∀ y ∈ scope.names, y.2 = .free → ∃ c, X.env.cells.lookup y.1 = some c := fun y hy e => (ok.free y hy e).elim (fun z => I.ok.has _ (.inl z)) fun z => I.ok.has _ (.inr z)
  refine wpAny_comprehension_free (use := none) rfl hf (closure_ok cells) ok.kind (fun y hy e => (ok.uniq y hy).trans (congrArg some e)) (thn (hi.run pins s σ H _ I h) fun _ s1 h1 => thn h1 fun _ s2 h2 => ?_)
  obtain ⟨it, fp, tn, J, G, rfl, I2, T, st, fpo, q⟩ := h2
  refine wpAny_newObj_type (newEnv_comp ?_)
  -- the new dict, tracked
  obtain ⟨W, ⟨m0, w0⟩, turn⟩ := q s2.heap.objs.size (I2.hok.fresh (Nat.le_refl _))
  have I3 : Inv X pins σ (upd G s2.heap.objs.size (DS X.prog X.w s2.heap.objs.size [])) { s2 with heap := s2.heap.push { cls := .type "dict", data := .dict #[] } } := by
    refine I2.laid (t' := s2.toks) (fun _ _ e => Heap.get?_push_of_some _ e) (Nat.le_refl _) (ds_obj ⟨?_, Nat.zero_le _, [], .nil, _, #[], 0, Heap.get?_push_size _ rfl, ⟨rfl, rfl, rfl⟩, rfl, rfl, List.nodup_nil⟩)
    exact beq_eq_false_iff_ne.mpr (Nat.ne_of_gt I2.big)
  have low : ∀ b ∈ fp, b < s2.heap.objs.size := fun b hb => let ⟨_, e, _⟩ := T.obj _ _ st b hb; Heap.lt_size e
  have st3 : tn 0 (s2.heap.push { cls := .type "dict", data := .dict #[] }) := T.keep _ _ _ st fun _ _ _ e => Heap.get?_push_of_some _ e
  generalize hD : s2.heap.objs.size = D at I3 w0 turn low ⊢
  have fp3 : ∀ b ∈ fp, FpOk X pins (upd G D (DS X.prog X.w D [])) b := fun b hb => ⟨(upd_ne (Nat.ne_of_lt (low b hb))).trans (fpo b hb).1, (fpo b hb).2⟩
  generalize upd G D (DS X.prog X.w D []) = G3 at I3 w0 fp3
  have big : D < (s2.heap.push { cls := .type "dict", data := .dict #[] }).objs.size := by
    rw [Heap.size_push, hD]
    exact Nat.lt_succ_self _
  generalize hs3 : ({ s2 with heap := s2.heap.push { cls := .type "dict", data := .dict #[] } } : Shared) = s3 at I3 ⊢
  have st3 : tn 0 s3.heap := by rw [← hs3]; exact st3
  have big : D < s3.heap.objs.size := by rw [← hs3]; exact big
  have I4 := block_start I3 ok hN fun b hb => ⟨fp3 b hb, Nat.lt_trans (low b hb) big⟩
  have pg := hg s3 G3 s3.heap.objs.size (cellsFrom (s3.heap.objs.size + 1) scope.names (cloFrom X.env.cells scope.names [])) fp
  have pk := hk s3 G3 s3.heap.objs.size (cellsFrom (s3.heap.objs.size + 1) scope.names (cloFrom X.env.cells scope.names [])) fp
  have pv := hv s3 G3 s3.heap.objs.size (cellsFrom (s3.heap.objs.size + 1) scope.names (cloFrom X.env.cells scope.names [])) fp
  have st4 : tn 0 (pushCells (s3.heap.push { cls := .type "dict", data := .dict #[] }) scope.names) := T.keep _ _ _ st3 fun _ _ _ e => pushCells_keeps _ _ _ _ (Heap.get?_push_of_some _ e)
  have locs : (compEnvC scope (cellsFrom (s3.heap.objs.size + 1) scope.names (cloFrom X.env.cells scope.names [])) s3.heap.objs.size X.env).locals = s3.heap.objs.size := rfl
  show codeAny (model X.prog X.w) X.A (.compStart _ 0 (.ref it) (.ref D) (compEnvC scope (cellsFrom (s3.heap.objs.size + 1) scope.names (cloFrom X.env.cells scope.names [])) s3.heap.objs.size X.env)) (compPost (model X.prog X.w) X.A X.xe none (EP X pins σ Q) (.ref D) s3.heap.objs.size) _
  generalize compEnvC scope (cellsFrom (s3.heap.objs.size + 1) scope.names (cloFrom X.env.cells scope.names [])) s3.heap.objs.size X.env = ce at I4 pg pk pv locs ⊢
  -- the loop
  have goes : codeAny (model X.prog X.w) X.A (.compLoop (.DictComp kx vx [⟨tg, iter, [], 0⟩] scope pos) 0 (.ref it) (.ref D) ce) (compPost (model X.prog X.w) X.A X.xe none (EP X pins σ Q) (.ref D) s3.heap.objs.size) { s3 with heap := pushCells (s3.heap.push { cls := .type "dict", data := .dict #[] }) scope.names } := by
    refine compLoop_anyD (fun n s' => ∃ i, Next (X.blk s3 G3 scope ce fp) fp tn (wipe σ (own.map (·.2))) i (W i n) s') ?_ m0 ⟨0, G3, I4, st4, fun b hb => (fp3 b hb).1, w0⟩
    rintro n s5 ⟨i, G5, I5, st5, nf5, w5⟩
    rcases turn i n G5 w5 with ⟨stop, fin⟩ | ⟨go, step⟩
    · refine thnF (T.done (X.blk s3 G3 scope ce fp) rfl rfl rfl hc i [] s5 _ G5 (fun _ _ => False) I5 (blk_idle I5 nf5) st5 stop) fun r s6 ⟨hr, I6⟩ => ?_
      subst hr
      have back : Inv X pins σ G5 s6 := I3.call' (ch := fp) I6.os I6.base I6.hok I6.bare fun b hb => by
        obtain ⟨_, f1, _, f3, f4, f5⟩ := fp3 b hb
        exact ⟨f3, f1, f4, f5⟩
      have free : G5 s3.heap.objs.size = none := by
        rw [← locs]
        exact I6.free
      obtain ⟨mm, ns, _⟩ := I6.loc
      have ns : s6.heap.Ns s3.heap.objs.size mm := by
        rw [← locs]
        exact ns
      obtain ⟨f0, f1, _, f3, f4, f5⟩ := I3.fpOk (H' := G5) (Nat.le_refl _) free
      exact ⟨mm, ns, fun h' sb => ⟨.ref D, G5, back.turned (t' := s6.toks) (fun b o hb e => (sb.2 b hb).trans e) f0 f1 f3 f4 f5, rfl, fin⟩⟩
    · refine thnF (turn_goes (Y := X.blk s3 G3 scope ce fp) (N := fun G => ∃ m', m' < n ∧ W (i + 1) m' G) T hc hu rfl blk_idle pg pk pv I5 st5 nf5 go step) fun r s6 ⟨u, hr, h6⟩ => ?_
      subst hr
      refine thnF h6 fun _ s7 h7 => thnF h7 fun _ s8 h8 => ?_
      refine wpAny_pure ?_
      rw [if_pos rfl]
      refine thnF h8 fun a s9 h9 => thnF h9 fun b s10 h10 => thnF h10 fun _ s11 ⟨G', I', st', nf', m', hm, w'⟩ => ⟨m', hm, i + 1, G', I', st', nf', w'⟩
  exact codeAny_compStart_dict goes (T.self X.A 0 _ _ _ st4 goes)
end
/-! ### entries: what is put, sums, the sorted ones -/
def keysD (es : DEs) : List Sh := es.map (·.1)
theorem valD_cons (e : Sh × Addr × Int) (es : DEs) (y : Sh) : valD (e :: es) y = if e.1 = y then some e.2.2 else valD es y := by
  unfold valD
  by_cases h : e.1 = y
  · simp [List.find?_cons, h]
  · simp [List.find?_cons, h]
theorem valD_none {es : DEs} {y : Sh} : valD es y = none ↔ y ∉ keysD es := by
  induction es with
  | nil => simp [valD, keysD]
  | cons e es ih =>
    rw [valD_cons]
    show _ ↔ y ∉ e.1 :: keysD es
    rw [List.mem_cons, not_or, ← ih]
    by_cases h : e.1 = y
    · simp [h]
    · rw [if_neg h]
      exact ⟨fun z => ⟨fun q => h q.symm, z⟩, fun z => z.2⟩
theorem valD_mem {es : DEs} (n : (keysD es).Nodup) : ∀ {e : Sh × Addr × Int}, e ∈ es → valD es e.1 = some e.2.2 := by
  induction es with
  | nil => intro e h; cases h
  | cons f es ih =>
    intro e h
    have n' : f.1 ∉ keysD es ∧ (keysD es).Nodup := List.nodup_cons.mp n
    rw [valD_cons]
    rcases List.mem_cons.mp h with rfl | h
    · rw [if_pos rfl]
    · rw [if_neg fun z => n'.1 (by rw [z]; exact List.mem_map.mpr ⟨e, h, rfl⟩)]
      exact ih n'.2 h
theorem valD_some {es : DEs} {y : Sh} {n : Int} (h : valD es y = some n) : ∃ e ∈ es, e.1 = y ∧ e.2.2 = n := by
  induction es with
  | nil => cases h
  | cons e es ih =>
    rw [valD_cons] at h
    by_cases z : e.1 = y
    · rw [if_pos z] at h
      exact ⟨e, List.mem_cons_self, z, Option.some.inj h⟩
    · rw [if_neg z] at h
      obtain ⟨f, hf, r⟩ := ih h
      exact ⟨f, List.mem_cons_of_mem _ hf, r⟩
theorem keysD_put (es : DEs) (x : Sh) (p : Addr) (n : Int) : keysD (putD es x p n) = if (valD es x).isSome then keysD es else keysD es ++ [x] := by
  unfold putD
  split
  · unfold keysD
    rw [List.map_map]
    refine List.map_congr_left fun e _ => ?_
    show (if e.1 = x then (e.1, e.2.1, n) else e).1 = e.1
    split <;> rfl
  · unfold keysD
    rw [List.map_append]
    rfl
theorem put_nodup {es : DEs} (h : (keysD es).Nodup) (x : Sh) (p : Addr) (n : Int) : (keysD (putD es x p n)).Nodup := by
  rw [keysD_put]
  cases e : valD es x with
  | some v => exact h
  | none =>
    have := valD_none.mp e
    show (keysD es ++ [x]).Nodup
    rw [List.nodup_append]
    refine ⟨h, by simp, fun a ha b hb => ?_⟩
    rw [List.mem_singleton.mp hb]
    intro z
    rw [z] at ha
    exact this ha
theorem valD_repl (x y : Sh) (n : Int) : ∀ es : DEs, valD (es.map fun e => if e.1 = x then (e.1, e.2.1, n) else e) y = if y = x then (valD es x).map (fun _ => n) else valD es y
  | [] => by simp [valD]
  | e :: es => by
    rw [List.map_cons, valD_cons, valD_repl x y n es, valD_cons, valD_cons]
    by_cases h1 : e.1 = x
    · by_cases h2 : y = x
      · simp [h1, h2]
      · have h3 : ¬ x = y := fun z => h2 z.symm
        simp [h1, h2, h3]
    · by_cases h2 : y = x
      · subst h2
        simp [h1]
      · simp [h1, h2]
theorem valD_app (es fs : DEs) (y : Sh) : valD (es ++ fs) y = (valD es y).or (valD fs y) := by
  induction es with
  | nil => rfl
  | cons e es ih =>
    rw [List.cons_append, valD_cons, valD_cons, ih]
    split <;> rfl
theorem valD_put (es : DEs) (x : Sh) (p : Addr) (n : Int) (y : Sh) : valD (putD es x p n) y = if y = x then some n else valD es y := by
  unfold putD
  cases e : valD es x with
  | some v =>
    rw [if_pos (show (some v : Option Int).isSome = true from rfl), valD_repl, e]
    rfl
  | none =>
    rw [if_neg (show ¬ (none : Option Int).isSome = true by simp), valD_app, valD_cons]
    by_cases h : y = x
    · subst h
      rw [e, if_pos rfl, if_pos rfl]
      rfl
    · rw [if_neg h, if_neg fun z => h z.symm]
      show (valD es y).or none = _
      simp
/-- the sum of a measure, each times its number -/
def wsum (φ : Sh → Int) (es : DEs) : Int := (es.map fun e => e.2.2 * φ e.1).sum
theorem wsum_cons (φ : Sh → Int) (e : Sh × Addr × Int) (es : DEs) : wsum φ (e :: es) = e.2.2 * φ e.1 + wsum φ es := by
  unfold wsum
  rw [List.map_cons, List.sum_cons]
theorem wsum_app (φ : Sh → Int) : ∀ es fs : DEs, wsum φ (es ++ fs) = wsum φ es + wsum φ fs
  | [], fs => by simp [wsum]
  | e :: es, fs => by
    rw [List.cons_append, wsum_cons, wsum_cons, wsum_app φ es fs]
    omega
theorem wsum_perm {φ : Sh → Int} {es fs : DEs} (h : es.Perm fs) : wsum φ es = wsum φ fs := by
  induction h with
  | nil => rfl
  | cons x _ ih => rw [wsum_cons, wsum_cons, ih]
  | swap x y l => rw [wsum_cons, wsum_cons, wsum_cons, wsum_cons]; omega
  | trans _ _ a b => exact a.trans b
theorem wsum_repl {φ : Sh → Int} {x : Sh} {n v : Int} : ∀ {es : DEs}, (keysD es).Nodup → valD es x = some v → wsum φ (es.map fun e => if e.1 = x then (e.1, e.2.1, n) else e) = wsum φ es + (n - v) * φ x
  | [], _, h => by cases h
  | e :: es, nd, h => by
    have nd' : e.1 ∉ keysD es ∧ (keysD es).Nodup := List.nodup_cons.mp nd
    rw [List.map_cons, wsum_cons, wsum_cons]
    rw [valD_cons] at h
    by_cases z : e.1 = x
    · rw [if_pos z] at h
      have h := Option.some.inj h
      have stay : (es.map fun f => if f.1 = x then (f.1, f.2.1, n) else f) = es := by
        rw [List.map_congr_left (g := id) fun f hf => ?_, List.map_id]
        show (if f.1 = x then (f.1, f.2.1, n) else f) = f
        rw [if_neg fun q => nd'.1 (List.mem_map.mpr ⟨f, hf, q.trans z.symm⟩)]
      rw [stay, if_pos z]
      show n * φ e.1 + _ = _
      rw [z, h]
      grind
    · rw [if_neg z] at h
      rw [wsum_repl nd'.2 h, if_neg z]
      omega
theorem wsum_put {φ : Sh → Int} {es : DEs} (nd : (keysD es).Nodup) (x : Sh) (p : Addr) (c : Int) : wsum φ (putD es x p ((valD es x).getD 0 + c)) = wsum φ es + c * φ x := by
  unfold putD
  cases e : valD es x with
  | some v =>
    rw [if_pos (show (some v : Option Int).isSome = true from rfl), wsum_repl nd e]
    show _ + (v + c - v) * φ x = _
    rw [show v + c - v = c by omega]
  | none =>
    rw [if_neg (show ¬ (none : Option Int).isSome = true by simp), wsum_app, wsum_cons]
    show _ + ((0 + c) * φ x + 0) = _
    rw [Int.zero_add, Int.add_zero]
/-- the entries in ascending order -/
def sortK (es : DEs) : List (Sh × Addr) := (es.map fun e => (e.1, e.2.1)).mergeSort fun a b => leS a.1 b.1
def sortE (es : DEs) : DEs := (sortK es).map fun b => (b.1, b.2, (valD es b.1).getD 0)
theorem sortK_perm (es : DEs) : (sortK es).Perm (es.map fun e => (e.1, e.2.1)) := List.mergeSort_perm _ _
theorem sortE_perm {es : DEs} (nd : (keysD es).Nodup) : (sortE es).Perm es := by
  refine ((sortK_perm es).map _).trans ?_
  rw [List.map_map, List.map_congr_left (g := id) fun e he => ?_, List.map_id]
  show (e.1, e.2.1, (valD es e.1).getD 0) = e
  rw [valD_mem nd he]
  rfl
theorem keys_perm {es fs : DEs} (h : es.Perm fs) : (keysD es).Perm (keysD fs) := h.map _
theorem sortE_keys {es : DEs} (nd : (keysD es).Nodup) : (keysD (sortE es)).Nodup := (keys_perm (sortE_perm nd)).nodup_iff.mpr nd
theorem ltS_of {x y : Sh} (h : leS x y = true) (n : x ≠ y) : ltS x y := by
  by_cases z : ltS x y
  · exact z
  · refine absurd (leS_antisymm h ?_) n
    unfold leS
    rw [decide_eq_false z]
    rfl
theorem sortE_up {es : DEs} (nd : (keysD es).Nodup) : (sortE es).Pairwise fun a b => ltS a.1 b.1 := by
  have h1 : (sortK es).Pairwise fun a b => leS a.1 b.1 = true := List.pairwise_mergeSort (fun a b c => leS_trans a.1 b.1 c.1) (fun a b => leS_total a.1 b.1) _
  have h2 : ((sortK es).map (·.1)).Nodup := by
    have := sortE_keys nd
    unfold keysD sortE at this
    rw [List.map_map] at this
    exact this
  have h3 : (sortK es).Pairwise fun a b => a.1 ≠ b.1 := List.pairwise_map.mp h2
  unfold sortE
  rw [List.pairwise_map]
  exact (h1.and h3).imp fun h => ltS_of h.1 h.2
theorem valD_perm {es fs : DEs} (nd : (keysD es).Nodup) (h : es.Perm fs) (y : Sh) : valD es y = valD fs y := by
  have nd' : (keysD fs).Nodup := (keys_perm h).nodup_iff.mp nd
  cases e : valD es y with
  | some n =>
    obtain ⟨f, hf, rfl, rfl⟩ := valD_some e
    exact (valD_mem nd' (h.mem_iff.mp hf)).symm
  | none =>
    refine (valD_none.mpr fun z => valD_none.mp e ?_).symm
    exact (keys_perm h).mem_iff.mpr z
/-! ### for sheet in d, while d is locked -/
def ItS (P : Program) (w : World) (d : Addr) (o : Obj) (es : DEs) : It where
  go := fun i H => DRd P w H d es ∧ H d = some (.frz o (DS P w d es)) ∧ i < es.length
  yld := fun i H x H' => H' = H ∧ ∃ e, es[i]? = some e ∧ x = .ref e.2.1
  stop := fun i H => H d = some (.frz o (DS P w d es)) ∧ es.length ≤ i
/-- what the lock tells: the very object, and its entries -/
theorem locked {P : Program} {w : World} {H : Hp} {h : Heap} {d : Addr} {o : Obj} {es : DEs} (ok : HOk P w H h) (e : H d = some (.frz o (DS P w d es))) :
    (d == sysModules) = false ∧ h.get? d = some o ∧ o.ExactDict ∧ ∃ en ep, o.data = .dict en ep ∧ en.size = es.length ∧ ∀ (j : Nat) (x : Sh × Addr × Int), es[j]? = some x → ∃ z : DictEntry, en[j]? = some z ∧ z.key = .ref x.2.1 := by
  obtain ⟨ho, ⟨lo, _, xs, r, o', en, ep, ho', hx, hdat, he, _⟩, _⟩ := ok d _ e
  obtain rfl : o = o' := Option.some.inj (ho.symm.trans ho')
  refine ⟨lo, ho, hx, en, ep, hdat, ds_size he r, fun j x hj => ?_⟩
  obtain ⟨hs, v, hz, _⟩ := ds_ent he r hj
  exact ⟨_, hz, rfl⟩
section
variable {X : Cx}
theorem turnDS {P : Program} {w : World} {K : PySem.W.Frag} {tg : Expr} {d it : Addr} {o : Obj} {es : DEs} {en : Array DictEntry} {ep : Nat} (ne : it ≠ d) (hdat : o.data = .dict en ep) (hsz : en.size = es.length)
    (hk : ∀ (j : Nat) (x : Sh × Addr × Int), es[j]? = some x → ∃ z : DictEntry, en[j]? = some z ∧ z.key = .ref x.2.1) : Turn P w K tg (ItS P w d o es) [it] it (fun i h => h.IsKeyIter it d i en.size ep) where
  mem := List.mem_cons_self
  obj := fun i h st b hb => by
    rw [List.mem_singleton.mp hb]
    obtain ⟨oi, e, _, dd⟩ := st
    exact ⟨oi, e, fun v z => by rw [dd] at z; cases z⟩
  keep := fun i h h' st k => st.at fun oi e => k it List.mem_cons_self oi e
  self := fun A i s Q E st q => wpAny_pyIter_keyiter st q
  item := by
    intro Y hP hw hK hc i pins s σ H E I hf st go
    subst hP hw hK
    obtain ⟨D, hd, hi⟩ := go
    obtain ⟨x, hx⟩ : ∃ x, es[i]? = some x := ⟨es[i], List.getElem?_eq_getElem hi⟩
    obtain ⟨z, hz, hkey⟩ := hk i x hx
    have od := (locked I.hok hd).2.1
    refine next_key_item st od hdat rfl hz fun h' st' sb => ⟨_, rfl, ?_⟩
    obtain ⟨f0, f1, _, f3, f4, f5⟩ := hf it List.mem_cons_self
    have I' : Inv Y pins σ H { s with heap := h' } := I.turned (t' := s.toks) (fun b ob hb e => (sb.2 b hb).trans e) f0 f1 f3 f4 f5
    obtain ⟨oi, e, ci, di⟩ := id st'
    refine go_of (s := { s with heap := h' }) e ci di (by decide) ⟨.ref x.2.1, H, I', hkey, ⟨rfl, x, hx, rfl⟩, st', fun b hb => ?_⟩
    rw [List.mem_singleton.mp hb]
    exact f0
  done := by
    intro Y hP hw hK hc i pins s σ H E I hf st stop
    subst hP hw hK
    have od := (locked I.hok stop.1).2.1
    have hge := stop.2
    refine next_key_end (I.ok.hd hc) st od hdat rfl (by omega) fun h' sb => ⟨rfl, ?_⟩
    obtain ⟨f0, f1, _, f3, f4, f5⟩ := hf it List.mem_cons_self
    exact I.turned (t' := s.toks) (fun b ob hb e => sb b ob hb e) f0 f1 f3 f4 f5
def iKeysDS (P : Program) (w : World) (td : TE) : TI := fun σ H R => td σ H fun v G => ∃ d o es, v = .ref d ∧ G d = some (.frz o (DS P w d es)) ∧ R (ItS P w d o es) G
theorem pi_keysDS {tg e : Expr} {td : TE} (he : PE X e td) : PI X tg e (iKeysDS X.prog X.w td) := by
  refine ⟨fun pins s σ H R I h => thn (he.run pins s σ H _ I h) fun u s1 ⟨v, G, I1, rv, d, o, es, ev, hd, q⟩ => ?_⟩
  subst ev
  cases rv
  obtain ⟨lo, ho, hx, en, ep, hdat, hsz, hk⟩ := locked I1.hok hd
  refine iter_keys lo ho hx hdat ?_
  have ne : s1.heap.objs.size ≠ d := Nat.ne_of_gt (Heap.lt_size ho)
  refine ⟨s1.heap.objs.size, [s1.heap.objs.size], _, _, G, rfl, I1.kept (t' := s1.toks) fun b ob z => Heap.get?_push_of_some _ z, turnDS ne hdat hsz hk, ⟨_, Heap.get?_push_size _ rfl, rfl, rfl⟩, fun b hb => ?_, q⟩
  rw [List.mem_singleton.mp hb]
  exact I1.fpOk (Nat.le_refl _) (I1.hok.fresh (Nat.le_refl _))
/-- a for over it -/
theorem for_keysDS {P : Program} {w : World} {d : Addr} {o : Obj} {es : DEs} {g : TG} {tb : TS} {D : Ends} {σ : L2.St} {H : Hp} (Pv : Nat → L2.St → Hp → Prop) (h0 : Pv 0 σ H) (hl : ∀ i τ G, i ≤ es.length → Pv i τ G → G d = some (.frz o (DS P w d es)) ∧ ∀ x ∈ es, ShAt G x.2.1 x.1)
    (turn : ∀ i x τ G, es[i]? = some x → Pv i τ G → g (.ref x.2.1) τ G fun τ2 G2 => tb { D with nx := Pv (i + 1), ct := Pv (i + 1), bk := D.nx } τ2 G2) (fin : ∀ τ G, Pv es.length τ G → D.nx τ G) :
    ∃ W : Nat → Nat → L2.St → Hp → Prop, (∃ m, W 0 m σ H) ∧ ∀ i m τ G, W i m τ G → ((ItS P w d o es).stop i G ∧ D.nx τ G) ∨ ((ItS P w d o es).go i G ∧ ∃ N : L2.St → Hp → Prop, (∀ τ' G', N τ' G' → ∃ m', m' < m ∧ W (i + 1) m' τ' G') ∧
      ∀ x G', (ItS P w d o es).yld i G x G' → g x τ G' fun τ2 G2 => tb { D with nx := N, ct := N, bk := D.nx } τ2 G2) := by
  refine ⟨fun i m τ G => m = es.length - i ∧ i ≤ es.length ∧ Pv i τ G, ⟨_, rfl, Nat.zero_le _, h0⟩, ?_⟩
  rintro i m τ G ⟨rfl, hi, pv⟩
  obtain ⟨hd, ks⟩ := hl i τ G hi pv
  rcases Nat.lt_or_ge i es.length with lt | ge
  · refine .inr ⟨⟨⟨.inr ⟨o, hd⟩, ks⟩, hd, lt⟩, Pv (i + 1), fun τ' G' z => ⟨_, Nat.sub_lt_sub_left lt (Nat.lt_succ_self i), rfl, lt, z⟩, ?_⟩
    rintro x G' ⟨rfl, e, he, rfl⟩
    exact turn i e τ _ he pv
  · obtain rfl : i = es.length := Nat.le_antisymm hi ge
    exact .inl ⟨⟨hd, Nat.le_refl _⟩, fin τ G pv⟩
/-- sorted(xs), a list of sheets -/
def rSortedLS : List V → Hp → VK → Prop := fun vs H Q => ∃ (a : Addr) (bs : List (Sh × Addr)), vs = [.ref a] ∧ H a = some (.lst (bs.map fun b : Sh × Addr => V.ref b.2)) ∧ (∀ b ∈ bs, ShAt H b.2 b.1) ∧ ∀ p, H p = none → Q (.ref p) (upd H p (.lst ((bs.mergeSort fun a b => leS a.1 b.1).map fun b => V.ref b.2)))
theorem cr_sortedLS (hu : X.A.units + 64 < cLine) : CallR X (.builtin "sorted") rSortedLS := by
  intro pins s σ H vs us Q I r q
  obtain ⟨a, bs, rfl, ha, hk, q⟩ := q
  obtain ⟨u, rfl, rx⟩ := r.one
  cases rx
  obtain ⟨hz, its, c, rv, ho⟩ := I.hok a _ ha
  rw [List.length_map] at hz
  have ei : its = bs.map fun b => Value.ref b.2 := by
    have e : ((bs.map fun b : Sh × Addr => b.2).map V.ref) = bs.map fun b => V.ref b.2 := by rw [List.map_map]; rfl
    rw [← e] at rv
    rw [refs_at rv, List.map_map]
    rfl
  subst ei
  have hl : s.heap.IsList a (bs.map fun b => Value.ref b.2).toArray := PySem.IsL.isList ho
  refine PySem.W.sorted_data (enc := fun b : Sh × Addr => encS b.1) (R := fun v b => v = Value.ref b.2) hl (each_of fun b hb => rfl) (each_of fun b hb => ⟨[], sh_reads I.hok (hk b hb)⟩) (PySem.W.AllAlike.of fun _ _ => by simp [PySem.W.alike, PySem.W.alikeAll, encS]) (PySem.W.Sortable.tuples fun _ => ⟨_, _, rfl⟩) hz (fun b _ => ?_) fun out hlen eo => ?_
  · have : (encS b.1).depth = 2 := by simp [encS, PyData.depth, PyData.depthAll]
    omega
  · rw [le_encS (fun b : Sh × Addr => b.1)] at eo
    have eo := each_refs eo
    obtain ⟨c', hat⟩ := PyProof.Rows.sortedAll_at s.heap (bs.map fun b => Value.ref b.2) out.toArray
    refine ⟨.ref (s.heap.objs.size + 1), _, I.laid (t' := s.toks) (o := .lst ((bs.mergeSort fun a b => leS a.1 b.1).map fun b => V.ref b.2)) ?_ (Nat.le_succ _) ?_, rfl, q _ (I.hok.fresh (Nat.le_succ _))⟩
    · intro b u e
      exact PyProof.Rows.sortedAll_old e
    · refine ⟨by rw [List.length_map, List.length_mergeSort]; exact hz, out, c', ?_, hat⟩
      rw [eo, show ((bs.mergeSort fun a b => leS a.1 b.1).map fun b => V.ref b.2) = ((bs.mergeSort fun a b => leS a.1 b.1).map (·.2)).map V.ref by rw [List.map_map]; rfl, show ((bs.mergeSort fun a b => leS a.1 b.1).map fun b => Value.ref b.2) = ((bs.mergeSort fun a b => leS a.1 b.1).map (·.2)).map Value.ref by rw [List.map_map]; rfl]
      exact vals_refs _
end
/-- a comprehension of sheets over a list that stays -/
theorem dcS_list {P : Program} {w : World} {K : PySem.W.Frag} {a : Addr} {xs : List V} {g : TG} {tk tv : TE} {vs : List Nat} {σ : L2.St} {D : Addr} {G0 : Hp} {Qd : Hp → Prop} (Pv : Nat → Hp → Prop) (h0 : Pv 0 G0) (hl : ∀ i G, i ≤ xs.length → Pv i G → SqL K G a xs)
    (turn : ∀ i x G, xs[i]? = some x → Pv i G → TurnS P w g tk tv vs σ D (Pv (i + 1)) x G) (fin : ∀ G, Pv xs.length G → Qd G) (mono : ∀ (N N' : Hp → Prop) x G, (∀ G', N G' → N' G') → TurnS P w g tk tv vs σ D N x G → TurnS P w g tk tv vs σ D N' x G) :
    ∃ W : Nat → Nat → Hp → Prop, (∃ m, W 0 m G0) ∧ ∀ i m G, W i m G → ((Itl K a).stop i G ∧ Qd G) ∨ ((Itl K a).go i G ∧ ∀ x G2, (Itl K a).yld i G x G2 → TurnS P w g tk tv vs σ D (fun G3 => ∃ m', m' < m ∧ W (i + 1) m' G3) x G2) := by
  refine ⟨fun i m G => m = xs.length - i ∧ i ≤ xs.length ∧ Pv i G, ⟨_, rfl, Nat.zero_le _, h0⟩, ?_⟩
  rintro i m G ⟨rfl, hi, pv⟩
  have sq := hl i G hi pv
  rcases Nat.lt_or_ge i xs.length with lt | ge
  · refine .inr ⟨⟨xs, xs[i], sq, List.getElem?_eq_getElem lt⟩, ?_⟩
    rintro x G2 ⟨rfl, at_⟩
    exact mono _ _ _ _ (fun G' z => ⟨_, Nat.sub_lt_sub_left lt (Nat.lt_succ_self i), rfl, lt, z⟩) (turn i x _ (at_ xs sq) pv)
  · obtain rfl : i = xs.length := Nat.le_antisymm hi ge
    exact .inl ⟨⟨xs, sq, Nat.le_refl _⟩, fin G pv⟩
/-! ### enumerate of an empty tuple; a walk of one kind or another -/
section
variable {X : Cx}
/-- enumerate(v), where iter(v) is told by B -/
theorem enum_new {P : Program} {w : World} {A : Around} {E : Value → Shared → Prop} {s : Shared} {v : Value} {Q : Fin → Shared → Prop} (h : wpAny (model P w) A (pyIter v) (fun it s1 => wpAny (model P w) A (newObj (.type "enumerate") (.fields #[.none, .bool false, it, rawInt 0, .none, .none])) (fun e s2 => Q (.done (.ret e)) s2) E s1) E s) :
    wpAny (model P w) A (Builtin.«enumerate.__new__» ⟨[.type "enumerate", v], []⟩) Q E s := by
  have cls : Builtin.SmallTypes.newClass "enumerate" ⟨[.type "enumerate", v], []⟩ = pure (.type "enumerate", [v]) := by
    simp only [Builtin.SmallTypes.newClass, PySem.sub_enumerate]
    rfl
  unfold Builtin.«enumerate.__new__»
  refine wpAny_bind (wpAny_of_eq cls ?_)
  show wpAny _ _ (Builtin.SmallTypes.calledThroughType (.type "enumerate") >>= _) _ _ _
  refine wpAny_bind (wpAny_bind (wpAny_stack_any fun st => wpAny_pure ?_))
  dsimp only
  split <;> try split
  all_goals
    refine wpAny_bind (wpAny_of_eq (a := (v, none)) rfl ?_)
    refine wpAny_bind (wpAny_mono h (fun it s1 h1 => ?_) fun _ _ z => z)
    exact wpAny_bind (wpAny_mono h1 (fun e s2 h2 => wpAny_pure h2) fun _ _ z => z)
/-- nothing to draw -/
def ItN (K : PySem.W.Frag) (a : Addr) : It where
  go := fun _ _ => False
  yld := fun _ _ _ _ => False
  stop := fun _ H => SqT K H a []
theorem turnN {P : Program} {w : World} {K : PySem.W.Frag} {tg : Expr} {a e it : Addr} (na : a ≠ it) : Turn P w K tg (ItN K a) [e, it] e (fun i h => i = 0 ∧ IsEnum h e it 0 .none ∧ h.IsTupleIter it a 0) where
  mem := List.mem_cons_self
  obj := by
    rintro i h ⟨_, he, oi, h1, _, h3⟩ b hb
    rcases List.mem_cons.mp hb with rfl | hb
    · exact ⟨_, he, fun _ z => nomatch z⟩
    · rw [List.mem_singleton.mp hb]
      exact ⟨oi, h1, fun _ z => by rw [h3] at z; cases z⟩
  keep := fun i h h' st k => ⟨st.1, k e List.mem_cons_self _ st.2.1, st.2.2.at fun o z => k it (List.mem_cons_of_mem _ List.mem_cons_self) o z⟩
  item := fun _ _ _ _ _ _ _ _ _ _ _ _ _ _ go => go.elim
  done := by
    intro Y hP hw hK hc i pins s σ H E I hf st stop
    subst hP hw hK
    obtain ⟨rfl, he, hi⟩ := st
    obtain ⟨its, rv, p, _⟩ := I.tuple stop
    cases rv
    obtain ⟨f0, f1, _, f3, f4, f5⟩ := hf it (List.mem_cons_of_mem _ List.mem_cons_self)
    exact wpAny_pyNext_enum_endD (Draws.tuple (A := Y.A.in1) (I.ok.hd hc) it a na #[]) he ⟨hi, p⟩ fun h' eb => ⟨rfl, I.turned (t' := s.toks) (fun b o hb z => eb b o hb z) f0 f1 f3 f4 f5⟩
  self := fun A i s Q E st q => wpAny_pyIter_enum st.2.1 q
def iEnumN (K : PySem.W.Frag) (ta : TA) : TI := fun σ H R => ta σ H fun vs G => ∃ a, vs = [.ref a] ∧ SqT K G a [] ∧ R (ItN K a) G
theorem pi_enumN {e : Expr} {ta : TA} {p pos : Pos} {tg : Expr} (hg : Gl X "enumerate") (hm : X.mg "enumerate" = none) (ha : PA X [e] ta) (hs : starEach [e] X.env = [(false, eval e X.env)] := by rfl) : PI X tg (.Call (.Name "enumerate" p) [e] [] pos) (iEnumN X.K ta) := by
  refine ⟨fun pins s σ H R I h => Call_ (ld_blt I hg hm boot_enumerate (PyProof.Rows.callWith_type1 (thn (ha.run pos pins s σ H _ I h) ?_) hs rfl))⟩
  rintro us s1 ⟨vs, G, I1, r, a, rfl, sq, q⟩
  obtain ⟨u, rfl, ru⟩ := r.one
  cases ru
  obtain ⟨its, rv, tp, _⟩ := I1.tuple sq
  cases rv
  have la : a < s1.heap.objs.size := let ⟨_, z, _⟩ := tp; Heap.lt_size z
  refine callType_new (S := fun A R s => s.heap.IsTuple a #[] ∧ R (.ok (.ret (.ref (s.heap.objs.size + 1)))) { s with heap := (s.heap.push { cls := .type "tuple_iterator", data := .fields #[.ref a, .int 0 0] }).push { cls := .type "enumerate", data := .fields #[.none, .bool false, .ref s.heap.objs.size, rawInt 0, .none, .none] } })
    F.called_enumerate (by decide) (F.typeCall_enumerate_1 _) (F.newCall_enumerate_1 _) (fun obj => F.args_object_init_2 obj _) F.entry_enumerate_new (.of_wp fun P w A R s z => enum_new (wpAny_pyIter_tuple z.1 (wpAny_newObj_type ⟨_, rfl, ?_⟩))) ⟨tp, ?_⟩
  · have := z.2
    rwa [← Heap.size_push] at this
  have he : IsEnum ((s1.heap.push { cls := .type "tuple_iterator", data := .fields #[.ref a, .int 0 0] }).push { cls := .type "enumerate", data := .fields #[.none, .bool false, .ref s1.heap.objs.size, rawInt 0, .none, .none] }) (s1.heap.objs.size + 1) s1.heap.objs.size 0 .none := by
    have z := Heap.get?_push_size (s1.heap.push { cls := .type "tuple_iterator", data := .fields #[.ref a, .int 0 0] }) (o := { cls := .type "enumerate", data := .fields #[.none, .bool false, .ref s1.heap.objs.size, rawInt 0, .none, .none] }) rfl
    rwa [Heap.size_push] at z
  refine ⟨⟨_, he, rfl⟩, wpAny_pyIter_enum he ⟨s1.heap.objs.size + 1, [s1.heap.objs.size + 1, s1.heap.objs.size], _, _, G, rfl, I1.kept (t' := s1.toks) fun b o z => Heap.get?_push_of_some _ (Heap.get?_push_of_some _ z), turnN (Nat.ne_of_lt la), ⟨rfl, he, _, Heap.get?_push_of_some _ (Heap.get?_push_size _ rfl), rfl, rfl⟩, fun b hb => ?_, q⟩⟩
  have le : s1.heap.objs.size ≤ b := by
    rcases List.mem_cons.mp hb with rfl | hb
    · exact Nat.le_succ _
    · rw [List.mem_singleton.mp hb]
      exact Nat.le_refl _
  exact I1.fpOk le (I1.hok.fresh le)
theorem PI.or {tg e : Expr} {a b : TI} (h1 : PI X tg e a) (h2 : PI X tg e b) : PI X tg e (fun σ H R => a σ H R ∨ b σ H R) := ⟨fun pins s σ H R I h => h.elim (h1.run pins s σ H R I) (h2.run pins s σ H R I)⟩
end
/-! ### enumerate of a tuple -/
def ItU (K : PySem.W.Frag) (a : Addr) : It where
  go := fun i H => ∃ (xs : List V) (x : V), SqT K H a xs ∧ xs[i]? = some x
  yld := fun i H v H' => ∃ T x, v = .ref T ∧ H T = none ∧ H' = upd H T (.tup [.int (i : Nat), x]) ∧ ∀ xs, SqT K H a xs → xs[i]? = some x
  stop := fun i H => ∃ xs : List V, SqT K H a xs ∧ xs.length = i
section
variable {X : Cx}
theorem turnU {P : Program} {w : World} {K : PySem.W.Frag} {elts : List Expr} {kk : Nat} {tpos : Pos} {a e it : Addr} (ne : e ≠ it) (na : a ≠ it) (nb : a ≠ e) : Turn P w K (.Tuple elts kk tpos) (ItU K a) [e, it] e (fun i h => (∃ old, IsEnum h e it ((i : Nat) : Int) old) ∧ h.IsTupleIter it a i) where
  mem := List.mem_cons_self
  obj := by
    rintro i h ⟨⟨old, he⟩, oi, h1, _, h3⟩ b hb
    rcases List.mem_cons.mp hb with rfl | hb
    · exact ⟨_, he, fun _ z => nomatch z⟩
    · rw [List.mem_singleton.mp hb]
      exact ⟨oi, h1, fun _ z => by rw [h3] at z; cases z⟩
  keep := by
    rintro i h h' ⟨⟨old, he⟩, hi⟩ k
    exact ⟨⟨old, k e List.mem_cons_self _ he⟩, hi.at fun o z => k it (List.mem_cons_of_mem _ List.mem_cons_self) o z⟩
  self := by
    rintro A i s Q E ⟨⟨old, he⟩, _⟩ q
    exact wpAny_pyIter_enum he q
  item := by
    intro Y hP hw hK hc i pins s σ H E I hf st go
    subst hP hw hK
    obtain ⟨⟨old, he⟩, hi⟩ := st
    obtain ⟨xs, x, sq, hx⟩ := go
    obtain ⟨its, rv, tp, _⟩ := I.tuple sq
    obtain ⟨u, hu, ru⟩ := rv.get hx
    have lt : i < its.toArray.size := by
      rw [List.size_toArray]
      exact (List.getElem?_eq_some_iff.mp hu).1
    refine wpAny_pyNext_enum_itemD (Draws.tuple (A := Y.A.in1) (I.ok.hd hc) it a na its.toArray) he ⟨hi, tp⟩ lt ne (by simp [ne, nb.symm]) ?_
    intro y h' tk hy out st' hT hsz hk
    obtain rfl : u = y := by
      have : its.toArray[i]? = some u := by simpa using hu
      exact Option.some.inj (this.symm.trans hy)
    refine ⟨_, rfl, wpAny_letOwnedTupleGo_enum (s := { s with heap := h', toks := tk + 1 }) out ?_⟩
    intro h2 he2 sb
    have low : e < s.heap.objs.size := Heap.lt_size he
    have tup2 : h2.get? s.heap.objs.size = some { cls := .type "tuple", data := .seq #[.int i tk, u] } := (sb.2 _ (Nat.ne_of_gt low)).trans hT
    have new : ObjOk Y.prog Y.w (upd H s.heap.objs.size (.tup [.int (i : Nat), x])) h2 s.heap.objs.size (.tup [.int (i : Nat), x]) := ⟨by show 2 ≤ sizeLine; decide, _, .cons ⟨_, rfl⟩ (.cons ru .nil), ⟨_, tup2, rfl, _, rfl⟩⟩
    have stay : ∀ b ob, b ∉ [e, it] → s.heap.get? b = some ob → h2.get? b = some ob := by
      intro b ob hb z
      rw [List.mem_cons, List.mem_singleton, not_or] at hb
      exact (sb.2 b hb.1).trans (hk b ob hb.1 hb.2 z)
    refine ⟨.ref s.heap.objs.size, _, I.turnedNew stay hf (Nat.le_refl _) new, rfl, ⟨_, x, rfl, I.hok.fresh (Nat.le_refl _), rfl, fun ys hys => by rw [I.tuple_inj hys sq]; exact hx⟩, ⟨⟨u, ?_⟩, st'.1.at fun o z => (sb.2 it ne.symm).trans z⟩, fun b hb => ?_⟩
    · rw [Int.natCast_add]
      exact he2
    · have lb : b < s.heap.objs.size := by
        rcases List.mem_cons.mp hb with rfl | hb
        · exact low
        · rw [List.mem_singleton.mp hb]
          obtain ⟨_, z, _⟩ := hi
          exact Heap.lt_size z
      rw [upd_ne (Nat.ne_of_lt lb)]
      exact (hf b hb).1
  done := by
    intro Y hP hw hK hc i pins s σ H E I hf st stop
    subst hP hw hK
    obtain ⟨⟨old, he⟩, hi⟩ := st
    obtain ⟨xs, sq, hx⟩ := stop
    obtain ⟨its, rv, tp, _⟩ := I.tuple sq
    obtain ⟨f0, f1, _, f3, f4, f5⟩ := hf it (List.mem_cons_of_mem _ List.mem_cons_self)
    have here : i = its.toArray.size := by
      rw [List.size_toArray, ← rv.length]
      exact hx.symm
    refine wpAny_pyNext_enum_endD (Draws.tuple (A := Y.A.in1) (I.ok.hd hc) it a na its.toArray) he ⟨by rw [← here]; exact hi, tp⟩ fun h' eb => ⟨rfl, ?_⟩
    exact I.turned (t' := s.toks) (fun b o hb z => eb b o hb z) f0 f1 f3 f4 f5
def iEnumT (K : PySem.W.Frag) (ta : TA) : TI := fun σ H R => ta σ H fun vs G => ∃ a xs, vs = [.ref a] ∧ SqT K G a xs ∧ R (ItU K a) G
theorem pi_enumT {e : Expr} {ta : TA} {p pos tpos : Pos} {elts : List Expr} {kk : Nat} (hg : Gl X "enumerate") (hm : X.mg "enumerate" = none) (ha : PA X [e] ta) (hs : starEach [e] X.env = [(false, eval e X.env)] := by rfl) : PI X (.Tuple elts kk tpos) (.Call (.Name "enumerate" p) [e] [] pos) (iEnumT X.K ta) := by
  refine ⟨fun pins s σ H R I h => Call_ (ld_blt I hg hm boot_enumerate (PyProof.Rows.callWith_type1 (thn (ha.run pos pins s σ H _ I h) ?_) hs rfl))⟩
  rintro us s1 ⟨vs, G, I1, r, a, xs, rfl, sq, q⟩
  obtain ⟨u, rfl, ru⟩ := r.one
  cases ru
  obtain ⟨its, rv, tp, _⟩ := I1.tuple sq
  have la : a < s1.heap.objs.size := let ⟨_, z, _⟩ := tp; Heap.lt_size z
  have tp' : s1.heap.IsTuple a its.toArray := tp
  refine callType_new (S := fun A R s => s.heap.IsTuple a its.toArray ∧ R (.ok (.ret (.ref (s.heap.objs.size + 1)))) { s with heap := (s.heap.push { cls := .type "tuple_iterator", data := .fields #[.ref a, .int 0 0] }).push { cls := .type "enumerate", data := .fields #[.none, .bool false, .ref s.heap.objs.size, rawInt 0, .none, .none] } })
    F.called_enumerate (by decide) (F.typeCall_enumerate_1 _) (F.newCall_enumerate_1 _) (fun obj => F.args_object_init_2 obj _) F.entry_enumerate_new (.of_wp fun P w A R s z => enum_new (wpAny_pyIter_tuple z.1 (wpAny_newObj_type ⟨_, rfl, ?_⟩))) ⟨tp', ?_⟩
  · have := z.2
    rwa [← Heap.size_push] at this
  have he : IsEnum ((s1.heap.push { cls := .type "tuple_iterator", data := .fields #[.ref a, .int 0 0] }).push { cls := .type "enumerate", data := .fields #[.none, .bool false, .ref s1.heap.objs.size, rawInt 0, .none, .none] }) (s1.heap.objs.size + 1) s1.heap.objs.size ((0 : Nat) : Int) .none := by
    have z := Heap.get?_push_size (s1.heap.push { cls := .type "tuple_iterator", data := .fields #[.ref a, .int 0 0] }) (o := { cls := .type "enumerate", data := .fields #[.none, .bool false, .ref s1.heap.objs.size, rawInt 0, .none, .none] }) rfl
    rwa [Heap.size_push] at z
  have hit : ((s1.heap.push { cls := .type "tuple_iterator", data := .fields #[.ref a, .int 0 0] }).push { cls := .type "enumerate", data := .fields #[.none, .bool false, .ref s1.heap.objs.size, rawInt 0, .none, .none] }).IsTupleIter s1.heap.objs.size a 0 := ⟨_, Heap.get?_push_of_some _ (Heap.get?_push_size _ rfl), rfl, rfl⟩
  refine ⟨⟨_, he, rfl⟩, wpAny_pyIter_enum he ⟨s1.heap.objs.size + 1, [s1.heap.objs.size + 1, s1.heap.objs.size], _, _, G, rfl, I1.kept (t' := s1.toks) fun b o z => Heap.get?_push_of_some _ (Heap.get?_push_of_some _ z), turnU (Nat.succ_ne_self _) (Nat.ne_of_lt la) (Nat.ne_of_lt (Nat.lt_succ_of_lt la)), ⟨⟨.none, he⟩, hit⟩, fun b hb => ?_, q⟩⟩
  have le : s1.heap.objs.size ≤ b := by
    rcases List.mem_cons.mp hb with rfl | hb
    · exact Nat.le_succ _
    · rw [List.mem_singleton.mp hb]
      exact Nat.le_refl _
  exact I1.fpOk le (I1.hok.fresh le)
end
/-- a for over it, where the tuple stays -/
theorem for_enumT {K : PySem.W.Frag} {a : Addr} {xs : List V} {g : TG} {tb : TS} {D : Ends} {σ : L2.St} {H : Hp} (Pv : Nat → L2.St → Hp → Prop) (h0 : Pv 0 σ H) (hl : ∀ i τ G, i ≤ xs.length → Pv i τ G → SqT K G a xs)
    (turn : ∀ i x τ G T, xs[i]? = some x → Pv i τ G → G T = none → g (.ref T) τ (upd G T (.tup [.int (i : Nat), x])) fun τ2 G2 => tb { D with nx := Pv (i + 1), ct := Pv (i + 1), bk := D.nx } τ2 G2) (fin : ∀ τ G, Pv xs.length τ G → D.nx τ G) :
    ∃ W : Nat → Nat → L2.St → Hp → Prop, (∃ m, W 0 m σ H) ∧ ∀ i m τ G, W i m τ G → ((ItU K a).stop i G ∧ D.nx τ G) ∨ ((ItU K a).go i G ∧ ∃ N : L2.St → Hp → Prop, (∀ τ' G', N τ' G' → ∃ m', m' < m ∧ W (i + 1) m' τ' G') ∧
      ∀ x G', (ItU K a).yld i G x G' → g x τ G' fun τ2 G2 => tb { D with nx := N, ct := N, bk := D.nx } τ2 G2) := by
  refine ⟨fun i m τ G => i + m = xs.length ∧ Pv i τ G, ⟨xs.length, Nat.zero_add _, h0⟩, ?_⟩
  rintro i m τ G ⟨hm, pv⟩
  have sq := hl i τ G (by omega) pv
  rcases Nat.eq_zero_or_pos m with rfl | hp
  · obtain rfl : i = xs.length := hm
    exact .inl ⟨⟨xs, sq, rfl⟩, fin τ G pv⟩
  · have lt : i < xs.length := by omega
    refine .inr ⟨⟨xs, xs[i], sq, List.getElem?_eq_getElem lt⟩, Pv (i + 1), fun τ' G' z => ⟨m - 1, by omega, by omega, z⟩, ?_⟩
    rintro x G' ⟨T, y, rfl, hT, rfl, at_⟩
    exact turn i y τ G T (at_ xs sq) pv hT
/-! ### rows put together -/
theorem putD_new {es : DEs} {x : Sh} {p : Addr} {n : Int} (h : valD es x = none) : putD es x p n = es ++ [(x, p, n)] := by
  unfold putD
  rw [h]
  rfl
theorem take_put {fs : DEs} (nd : (keysD fs).Nodup) {i : Nat} {e : Sh × Addr × Int} (he : fs[i]? = some e) : putD (fs.take i) e.1 e.2.1 e.2.2 = fs.take (i + 1) := by
  have hn : valD (fs.take i) e.1 = none := by
    refine valD_none.mpr fun z => ?_
    obtain ⟨f, hf, hfe⟩ := List.mem_map.mp z
    obtain ⟨j, hj⟩ := List.mem_iff_getElem?.mp hf
    have hji : j < i := by
      rcases Nat.lt_or_ge j i with l | l
      · exact l
      · rw [List.getElem?_eq_none (by rw [List.length_take]; omega)] at hj
        cases hj
    rw [List.getElem?_take_of_lt hji] at hj
    have k1 : (keysD fs)[j]? = some e.1 := by
      unfold keysD
      rw [List.getElem?_map, hj, ← hfe]
      rfl
    have k2 : (keysD fs)[i]? = some e.1 := by
      unfold keysD
      rw [List.getElem?_map, he]
      rfl
    obtain ⟨l1, g1⟩ := List.getElem?_eq_some_iff.mp k1
    have := (List.getElem?_inj l1 nd).mp (k1.trans k2.symm)
    omega
  rw [putD_new hn, List.take_add_one, he]
  rfl
theorem putD_in {es : DEs} {x : Sh} {p : Addr} {n : Int} {y : Sh × Addr × Int} (h : y ∈ putD es x p n) : (y.1 = x ∧ y.2.2 = n) ∨ y ∈ es := by
  unfold putD at h
  split at h
  · obtain ⟨z, hz, rfl⟩ := List.mem_map.mp h
    split
    · rename_i e
      exact .inl ⟨e, rfl⟩
    · exact .inr hz
  · rcases List.mem_append.mp h with h | h
    · exact .inr h
    · rw [List.mem_singleton.mp h]
      exact .inl ⟨rfl, rfl⟩
def addE (acc : DEs) (e : Sh × Addr × Int) : DEs := putD acc e.1 e.2.1 ((valD acc e.1).getD 0 + e.2.2)
def mergeTo (es : DEs) (i : Nat) : DEs := (es.take i).foldl addE []
def mergeD (es : DEs) : DEs := es.foldl addE []
theorem mergeTo_all (es : DEs) : mergeTo es es.length = mergeD es := by
  unfold mergeTo mergeD
  rw [List.take_length]
theorem mergeTo_succ {es : DEs} {i : Nat} {e : Sh × Addr × Int} (he : es[i]? = some e) : mergeTo es (i + 1) = addE (mergeTo es i) e := by
  unfold mergeTo
  rw [List.take_add_one, he, List.foldl_append]
  rfl
theorem fold_nodup : ∀ (es acc : DEs), (keysD acc).Nodup → (keysD (es.foldl addE acc)).Nodup
  | [], _, h => h
  | e :: es, acc, h => fold_nodup es (addE acc e) (put_nodup h _ _ _)
theorem merge_nodup (es : DEs) : (keysD (mergeD es)).Nodup := fold_nodup es [] List.nodup_nil
theorem fold_wsum (φ : Sh → Int) : ∀ (es acc : DEs), (keysD acc).Nodup → wsum φ (es.foldl addE acc) = wsum φ acc + wsum φ es
  | [], acc, h => by
    show wsum φ acc = wsum φ acc + 0
    omega
  | e :: es, acc, h => by
    rw [List.foldl_cons, fold_wsum φ es (addE acc e) (put_nodup h _ _ _), wsum_cons]
    unfold addE
    rw [wsum_put h]
    omega
theorem merge_wsum (φ : Sh → Int) (es : DEs) : wsum φ (mergeD es) = wsum φ es := by
  unfold mergeD
  rw [fold_wsum φ es [] List.nodup_nil]
  show 0 + wsum φ es = _
  omega
theorem fold_len : ∀ (es acc : DEs), (es.foldl addE acc).length ≤ acc.length + es.length
  | [], acc => by simp
  | e :: es, acc => by
    have h1 := fold_len es (addE acc e)
    have h2 : (addE acc e).length ≤ acc.length + 1 := putD_len _ _ _ _
    rw [List.foldl_cons, List.length_cons]
    omega
theorem mergeTo_len (es : DEs) (i : Nat) : (mergeTo es i).length ≤ i := by
  have h1 := fold_len (es.take i) []
  have h2 : (es.take i).length ≤ i := by
    rw [List.length_take]
    omega
  unfold mergeTo
  simp only [List.length_nil] at h1
  omega
theorem merge_len (es : DEs) : (mergeD es).length ≤ es.length := by
  have := fold_len es []
  simpa [mergeD] using this
/-- each number from 1 to M, each sheet by S -/
def Within (S : Sh → Prop) (M : Int) (es : DEs) : Prop := ∀ e ∈ es, S e.1 ∧ 1 ≤ e.2.2 ∧ e.2.2 ≤ M
theorem Within.up {S : Sh → Prop} {M N : Int} {es : DEs} (h : Within S M es) (l : M ≤ N) : Within S N es := fun e he => ⟨(h e he).1, (h e he).2.1, Int.le_trans (h e he).2.2 l⟩
theorem Within.perm {S : Sh → Prop} {M : Int} {es fs : DEs} (h : Within S M es) (p : fs.Perm es) : Within S M fs := fun e he => h e (p.mem_iff.mp he)
theorem fold_within {S : Sh → Prop} {M : Int} (hM : 0 ≤ M) : ∀ (es acc : DEs) (N : Int), 0 ≤ N → Within S N acc → Within S M es → Within S (N + es.length * M) (es.foldl addE acc)
  | [], acc, N, hN, ha, _ => by simpa using ha
  | e :: es, acc, N, hN, ha, he => by
    have h1 : Within S (N + M) (addE acc e) := by
      intro y hy
      rcases putD_in hy with ⟨e1, e2⟩ | z
      · obtain ⟨s1, s2, s3⟩ := he e List.mem_cons_self
        have hv : 0 ≤ (valD acc e.1).getD 0 ∧ (valD acc e.1).getD 0 ≤ N := by
          cases hv : valD acc e.1 with
          | none => exact ⟨Int.le_refl _, hN⟩
          | some v =>
            obtain ⟨f, hf, _, rfl⟩ := valD_some hv
            have := ha f hf
            exact ⟨by show 0 ≤ f.2.2; omega, this.2.2⟩
        rw [e1, e2]
        exact ⟨s1, by omega, by omega⟩
      · have := ha y z
        exact ⟨this.1, this.2.1, by omega⟩
    have h2 := fold_within hM es (addE acc e) (N + M) (by omega) h1 fun y hy => he y (List.mem_cons_of_mem _ hy)
    rw [List.foldl_cons, List.length_cons]
    refine h2.up (Int.le_of_eq ?_)
    have : ((es.length + 1 : Nat) : Int) * M = es.length * M + M := by
      rw [Int.natCast_add, Int.add_mul]
      simp
    omega
theorem merge_within {S : Sh → Prop} {M : Int} {es : DEs} (hM : 0 ≤ M) (h : Within S M es) : Within S (es.length * M) (mergeD es) := by
  have := fold_within hM es [] 0 (Int.le_refl _) (fun e he => by cases he) h
  rwa [Int.zero_add] at this
/-! ### d == e, for dicts of sheets -/
def eqE (fs : DEs) (e : Sh × Addr × Int) : Bool := decide (valD fs e.1 = some e.2.2)
def eqD (es fs : DEs) : Bool := decide (es.length = fs.length) && es.all (eqE fs)
theorem drel_keys {fs : DEs} {ys : List (NestedKey × Addr × Value)} (r : Paired DRel fs ys) : ys.map (·.1) = fs.map fun f => shK f.1 := by
  induction r with
  | nil => rfl
  | cons h _ ih => rw [List.map_cons, List.map_cons, ih, h.1]
theorem drel_nodup {fs : DEs} {ys : List (NestedKey × Addr × Value)} (r : Paired DRel fs ys) (n : (ys.map (·.1)).Nodup) : (keysD fs).Nodup := by
  rw [drel_keys r] at n
  exact List.pairwise_map.mpr ((List.pairwise_map.mp n).imp fun ne z => ne (congrArg shK z))
section
variable {X : Cx} {pins : List (Addr × Obj)} {σ : L2.St} {H : Hp} {s : Shared} {a b : Addr} {es fs : DEs} {A : Around} {E : Value → Shared → Prop}
/-- one entry, looked up in the other dict -/
theorem ds_hit {e : Sh × Addr × Int} {v : Value} {ob : Obj} {eb : Array DictEntry} {pb : Nat} {ys : List (NestedKey × Addr × Value)} {Q : Bool → Shared → Prop} (hu : A.units + 8 < cLine) (I : Inv X pins σ H s) (he : ShAt H e.2.1 e.1) (rv : RelV (.int e.2.2) v)
    (ry : Paired DRel fs ys) (hb : s.heap.get? b = some ob) (db : ob.data = .dict eb pb) (tb : eb.toList = ys.map (entryOfKey (nestedKind X.prog X.w))) (kb : ∀ y ∈ ys, (nestedKind X.prog X.w).is s.heap y.1 y.2.1) (nb : (ys.map (·.1)).Nodup) (q : Q (eqE fs e) s) :
    wpAny (model X.prog X.w) A (do
      let some j ← dictFind b (.ref e.2.1) ((nestedKind X.prog X.w).hash (shK e.1)) | pure false
      let some f := (← dictEntries b)[j]? | unsupported "internal:dict-equal"
      holding [f.val] (eqBool v f.val)) Q E s := by
  refine wpAny_bind (wpAny_dictFind_heap (show A.units + 8 < cLine from hu) (sh_key I.hok he) hb db tb kb nb (fun no => ?_) fun j p hj => ?_)
  · have vn : valD fs e.1 = none := by
      cases z : valD fs e.1 with
      | none => rfl
      | some n =>
        obtain ⟨f, hf, f1, _⟩ := valD_some z
        obtain ⟨i, hi⟩ := List.mem_iff_getElem?.mp hf
        obtain ⟨y, hy, y1, _⟩ := Paired.getL ry hi
        refine absurd hy (fun hy => no i y.2 ?_)
        rw [hy, ← f1, ← y1]
    refine wpAny_pure ?_
    unfold eqE at q
    rwa [vn, decide_eq_false (by simp)] at q
  · obtain ⟨f, hf, f1, f2, f3⟩ := Paired.getR ry (List.mem_of_getElem? hj)
    have fe : f.1 = e.1 := shK_inj f1.symm
    have vs : valD fs e.1 = some f.2.2 := by
      rw [← fe]
      exact valD_mem (drel_nodup ry nb) hf
    have at_ : eb[j]? = some ⟨(nestedKind X.prog X.w).hash (shK e.1), .ref p.1, p.2⟩ := by
      rw [entry_at tb j, hj]
      rfl
    refine wpAny_bind (wpAny_dictEntries hb db ?_)
    simp only [at_]
    obtain ⟨t1, rfl⟩ := rv
    obtain ⟨t2, e2⟩ := f3
    replace e2 : p.2 = .int f.2.2 t2 := e2
    rw [e2]
    refine wpAny_holding (wpAny_eqBool_int ?_)
    unfold eqE at q
    rw [vs] at q
    have : (e.2.2 == f.2.2) = decide (some f.2.2 = some e.2.2) := by
      by_cases z : e.2.2 = f.2.2
      · rw [z]
        simp
      · rw [beq_eq_false_iff_ne.mpr z, decide_eq_false fun w => z (Option.some.inj w).symm]
    rwa [this]
theorem ds_samePairs {nm : String} {Q : Bool → Shared → Prop} (hu : A.units + 8 < cLine) (I : Inv X pins σ H s) (D : DRd X.prog X.w H a es) (F : DRd X.prog X.w H b fs) (q : Q (eqD es fs) s) : wpAny (model X.prog X.w) A (Builtin.Dict.samePairs nm a b) Q E s := by
  obtain ⟨la, _, xs, rx, oa, ea, pa, ha, _, da, ta, _, _⟩ := ds_of I.hok D
  obtain ⟨lb, _, ys, ry, ob, eb, pb, hb, _, db, tb, kb, nb⟩ := ds_of I.hok F
  have sa : ea.size = es.length := ds_size ta rx
  have sb : eb.size = fs.length := ds_size tb ry
  have sh : ∀ d, (d == sysModules) = false → Builtin.Dict.showsAll d = pure () := by
    intro d z
    unfold Builtin.Dict.showsAll
    rw [z]
    rfl
  unfold Builtin.Dict.samePairs
  refine wpAny_bind (wpAny_of_eq (sh a la) (wpAny_bind (wpAny_of_eq (sh b lb) ?_)))
  refine wpAny_bind (wpAny_dictEntries ha da (wpAny_bind (wpAny_dictEntries hb db ?_)))
  unfold eqD at q
  rw [sa, sb]
  by_cases hz : es.length = fs.length
  · rw [decide_eq_true hz, Bool.true_and] at q
    rw [if_neg (by rw [hz]; simp)]
    refine wpAny_bind (wpAny_dictEpoch ha da ?_)
    refine wpAny_bind ?_
    rw [Std.Legacy.Range.forIn_eq_forIn_range']
    refine wpAny_forIn_list _ (fun rest st s' => s' = s ∧ st = (none, ()) ∧ ∃ i, rest = List.range' i rest.length ∧ i + rest.length = es.length ∧ es.all (eqE fs) = (es.drop i).all (eqE fs)) _ ?_ ?_ _ _ ⟨rfl, rfl, 0, ?_, ?_, ?_⟩
    · rintro x rest st s' ⟨rfl, rfl, i, hr, hn, hall⟩
      rw [List.length_cons] at hr hn
      rw [List.range'_succ] at hr
      obtain ⟨rfl, hr⟩ := List.cons.inj hr
      obtain ⟨e, he⟩ : ∃ e, es[x]? = some e := ⟨es[x]'(by omega), List.getElem?_eq_getElem (by omega)⟩
      obtain ⟨y, hy, y1, y2, y3⟩ := Paired.getL rx he
      have at_ : ea[x]? = some ⟨(nestedKind X.prog X.w).hash (shK e.1), .ref e.2.1, y.2.2⟩ := by
        rw [entry_at ta x, hy, ← y1, ← y2]
        rfl
      have dr : (es.drop x).all (eqE fs) = (eqE fs e && (es.drop (x + 1)).all (eqE fs)) := by
        rw [List.drop_eq_getElem?_toList_append, he]
        rfl
      refine wpAny_bind (wpAny_dictEntries ha da ?_)
      simp only [at_]
      refine wpAny_bind (wpAny_holding (ds_hit hu I (D.ks e (List.mem_of_getElem? he)) y3 ry hb db tb kb nb ?_))
      cases hq : eqE fs e with
      | false =>
        rw [hall, dr, hq, Bool.false_and] at q
        exact wpAny_pure (wpAny_pure q)
      | true =>
        rw [if_neg (by decide)]
        refine wpAny_bind (wpAny_dictEpoch ha da ?_)
        rw [if_neg (by simp)]
        refine wpAny_pure ⟨rfl, rfl, x + 1, hr, by omega, ?_⟩
        rw [hall, dr, hq, Bool.true_and]
    · rintro st s' ⟨rfl, rfl, i, hr, hn, hall⟩
      have : i = es.length := by simpa using hn
      subst this
      rw [hall, List.drop_length] at q
      exact wpAny_pure q
    · simp
    · simp [Std.Legacy.Range.size]
    · rw [List.drop_zero]
  · rw [decide_eq_false hz, Bool.false_and] at q
    rw [if_pos (by simpa using hz)]
    exact wpAny_bind (wpAny_rule (wpAny_pure q))
theorem ds_eq {Q : Value → Shared → Prop} (hu : A.units + 9 < cLine) (I : Inv X pins σ H s) (D : DRd X.prog X.w H a es) (F : DRd X.prog X.w H b fs) (q : Q (.bool (eqD es fs)) s) : wpAny (model X.prog X.w) A (compareOp .Eq (.ref a) (.ref b)) Q E s := by
  have ta := (ds_dict (X := X) I D).1
  have tb := (ds_dict (X := X) I F).1
  refine wpAny_richCompare_same_room (op := .Eq) ta tb PySem.F.slot_dict_eq (wpAny_call_entry PySem.F.slot_dict_eq ta PySem.F.entry_dict_eq ?_ (PySem.F.args_dict_eq_2 _ _)) (by omega)
  have args : wpAny (model X.prog X.w) A.in1 (Builtin.Dict.dictSlotArgs "__eq__" ⟨[.ref a, .ref b], []⟩) (fun r s' => r = (.ref a, .ref b) ∧ s' = s) E s := by
    unfold Builtin.Dict.dictSlotArgs
    refine wpAny_bind (wpAny_notOrdered_dict ta ?_)
    exact wpAny_pure ⟨rfl, rfl⟩
  refine wpAny_bind (m := Builtin.Dict.dictSlotArgs "__eq__" ⟨[.ref a, .ref b], []⟩) (wpAny_mono args ?_ fun _ _ z => z)
  rintro r s' ⟨rfl, rfl⟩
  refine wpAny_bind (wpAny_isInstance (T := "dict") tb PySem.F.sub_dict_dict ?_)
  simp only [Bool.not_true, Bool.false_eq_true, if_false]
  refine wpAny_bind (wpAny_pure (wpAny_bind (wpAny_pure (wpAny_bind (ds_samePairs (show A.in1.units + 8 < cLine from by show A.units + 1 + 8 < cLine; omega) I D F ?_)))))
  exact wpAny_pure ⟨_, rfl, by simp, by simpa using q⟩
end
def rEqDS (P : Program) (w : World) : R2 := fun x y H Q => ∃ a b es fs, x = .ref a ∧ y = .ref b ∧ DRd P w H a es ∧ DRd P w H b fs ∧ Q (.bl (eqD es fs)) H
theorem op_eqDS {X : Cx} (hu : X.A.units + 64 < cLine) : OpR X (compareOp .Eq) (rEqDS X.prog X.w) := by
  intro pins s σ H x y u v Q I rx ry q
  obtain ⟨a, b, es, fs, rfl, rfl, D, F, q⟩ := q
  cases rx
  cases ry
  exact ds_eq (by omega) I D F ⟨.bl (eqD es fs), H, I, rfl, q⟩
/-! ### the law's own draws -/
section
variable {base : Heap} {K : PySem.W.Frag} {mg : Str → Option Value} {P : Program} {w : World}
def spPull : Sp := fun vs H Q _ => ∃ (b sb : Addr) (n : Int), vs = [.ref b, .int n] ∧ Bag H b sb ∧ 0 < n ∧ n.natAbs < 2 ^ 100 ∧ ∀ z H', 0 ≤ z → z < n → Bag H' b sb → Keep b H H' → Q (.int z) H'
theorem ok_pull (T : Txt K mg) : FnOk P w K mg base CX0 1 T.f_pull T.d_pull ["_law_bag", "_law_size"] spPull := by
  refine T.F_pull.ok sc_pull (fun vs H Q E h => ?_) (fun cdv A outer s H vs Q E hr h => ?_)
  · obtain ⟨b, sb, n, rfl, _⟩ := h
    rfl
  · obtain ⟨b, s1, n, rfl, ⟨ns, i, j, m, c, B⟩, h0, h1, q⟩ := h
    refine ⟨_, (pss_cons (ps_asg (pe_op op_add (pe_ix ix_list (pv 0) pe_int (fun _ _ => rfl)) pe_int) (pg_sub (pv 0) pe_int set_list))
      (Evl.pss_cut (ps_if (PW.pt (pw_and (pt_cmpR op_eq (pe_ix ix_list (pv 0) pe_int (fun _ _ => rfl)) pe_int (nomark _)) (pw_and1 (pt_cmpR op_lt (pe_ix ix_list (pv 0) pe_int (fun _ _ => rfl)) (pe_callB call_len_seq (by rfl) T.n_len (by decide +kernel) (pa_cons (pe_ix ix_list (pv 0) pe_int (fun _ _ => rfl)) pa_nil)) (nomark _))))) (pss_cons (ps_set (i := 3) sc_pull.nd rfl (Or.inl rfl) (pe_ix ix_list (pe_ix ix_list (pv 0) pe_int (fun _ _ => rfl)) (pe_ix ix_list (pv 0) pe_int (fun _ _ => rfl)) (fun _ _ => rfl)))
      (pss_cons (ps_asg (pe_op op_add (pe_ix ix_list (pv 0) pe_int (fun _ _ => rfl)) pe_int) (pg_sub (pv 0) pe_int set_list))
      (pss_one (ps_if (pt_cmpR op_ge (pv 3) (pe_op op_pow pe_int pe_int) (nomark _)) (pss_one (ps_asg (pv 3) (pg_sub (pv 0) pe_int set_list))) (pss_cons (ps_set (i := 2) sc_pull.nd rfl (Or.inl rfl) (pe_op op_add (pe_op op_mul (pe_ix ix_list (pv 0) pe_int (fun _ _ => rfl)) pe_int) (pe_op op_mul (pe_op op_mod (pv 3) pe_int) pe_int)))
      (pss_one (ps_asg (pe_op op_mod (pe_op op_add (pv 2) pe_int) pe_int) (pg_sub (pv 0) pe_int set_list)))))))) pss_nil)
      (pss_cons (ps_if (pt_cmpR op_gt (pe_ix ix_list (pv 0) pe_int (fun _ _ => rfl)) pe_int (nomark _)) (pss_cons (ps_set (i := 4) sc_pull.nd rfl (Or.inl rfl) (pe_op op_mod (pe_ix ix_list (pv 0) pe_int (fun _ _ => rfl)) (pv 1)))
      (pss_cons (ps_asg (pe_op op_fdivW (pe_ix ix_list (pv 0) pe_int (fun _ _ => rfl)) (pv 1)) (pg_sub (pv 0) pe_int set_list))
      (pss_one (ps_ret (pv 4))))) pss_nil)
      (pss_cons (ps_set (i := 2) sc_pull.nd rfl (Or.inl rfl) (pe_op op_add (pe_op op_mul (pe_op op_mul (pe_ix ix_list (pv 0) pe_int (fun _ _ => rfl)) (pe_ix ix_list (pv 0) pe_int (fun _ _ => rfl))) pe_int) (pe_op op_mul (pe_ix ix_list (pv 0) pe_int (fun _ _ => rfl)) pe_int)))
      (pss_cons (ps_asg (pe_op op_mod (pe_op op_add (pv 2) (pe_op op_mul pe_int (pe_ix ix_list (pv 0) pe_int (fun _ _ => rfl)))) pe_int) (pg_sub (pv 0) pe_int set_list))
      (pss_one (ps_ret (pe_op op_mod (pe_op op_fdiv (pe_ix ix_list (pv 0) pe_int (fun _ _ => rfl)) pe_int) (pv 1))))))))), ?_⟩
    -- the count of the draws
    have B1 := B.put (j' := j) (c' := c + 1) B.i0 B.i1 B.m0 B.m1
    refine ⟨.ref b, rfl, b, _, 4, .int c, rfl, rfl, SqL.of B.hb, atI_nat (j := 4) rfl, c, 1, rfl, rfl, .ref b, rfl, b, _, 4, 4, rfl, rfl, B.hb, rfl, ?_⟩
    refine ⟨fun σ H' => ∃ y2 y3 y4, σ = [some (.ref b), some (.int n), y2, y3, y4] ∧ Bag H' b s1 ∧ Keep b H H', ?_, ?_⟩
    · -- the next cell of the script
      refine ⟨.ref b, rfl, b, _, 2, .int j, rfl, rfl, SqL.of B1.hb, atI_nat (j := 2) rfl, rfl, _, rfl, ite2 (fun e => ?_) (fun e => ?_)⟩
      · refine ⟨.ref b, rfl, b, _, 1, .int i, rfl, rfl, SqL.of B1.hb, atI_nat (j := 1) rfl, .ref b, rfl, b, _, 0, .ref s1, rfl, rfl, SqL.of B1.hb, atI_nat (j := 0) rfl, s1, _, rfl, .inl (SqL.of B1.hs), i, _, rfl, rfl, _, rfl, ite2 (fun e2 => ?_) (fun e2 => ?_)⟩
        · have e3 : i < (ns.length : Int) := by
            have := of_decide_eq_true e2
            rw [List.length_map] at this
            exact this
          obtain ⟨z, hz⟩ := at_ex B.i0 e3
          have B2 := B1.put (j' := j) (c' := c + 1) (show 0 ≤ i + 1 by have := B.i0; omega) (show i + 1 ≤ (ns.length : Int) by omega) B.m0 B.m1
          refine ⟨.ref b, rfl, b, _, 0, .ref s1, rfl, rfl, SqL.of B1.hb, atI_nat (j := 0) rfl, .ref b, rfl, b, _, 1, .int i, rfl, rfl, SqL.of B1.hb, atI_nat (j := 1) rfl, s1, _, i, _, rfl, rfl, SqL.of B1.hs, hz, ?_⟩
          refine ⟨.ref b, rfl, b, _, 1, .int i, rfl, rfl, SqL.of B1.hb, atI_nat (j := 1) rfl, i, 1, rfl, rfl, .ref b, rfl, b, _, 1, 1, rfl, rfl, B1.hb, rfl, ?_⟩
          refine ⟨_, rfl, 10, 18, rfl, rfl, ⟨by decide, by decide, by decide⟩, z, _, rfl, rfl, _, rfl, ite2 (fun e4 => ?_) (fun e4 => ?_)⟩
          · have B3 := B2.put (j' := z) (c' := c + 1) (show 0 ≤ i + 1 by have := B.i0; omega) (show i + 1 ≤ (ns.length : Int) by omega) B.m0 B.m1
            refine ⟨_, rfl, .ref b, rfl, b, _, 2, 2, rfl, rfl, B2.hb, rfl, ?_⟩
            exact ⟨_, _, _, rfl, ⟨ns, _, _, _, _, B3⟩, keep_put.trans (keep_put.trans keep_put)⟩
          · refine ⟨.ref b, rfl, b, _, 3, .int m, rfl, rfl, SqL.of B2.hb, atI_nat (j := 3) rfl, m, 40014, rfl, rfl, .inr ⟨by decide, by decide⟩, _, rfl, z, 2147483399, rfl, rfl, (by show (0 : Int) < 2147483399; decide), _, 69069, rfl, rfl, .inr ⟨by decide, by decide⟩, _, _, rfl, rfl, ?_⟩
            refine ⟨_, rfl, _, 11, rfl, rfl, _, 2147483399, rfl, rfl, (by show (0 : Int) < 2147483399; decide), .ref b, rfl, b, _, 3, 3, rfl, rfl, B2.hb, rfl, ?_⟩
            have B3 := B2.put (j' := j) (m' := (m * 40014 + z % 2147483399 * 69069 + 11) % 2147483399) (c' := c + 1) (show 0 ≤ i + 1 by have := B.i0; omega) (show i + 1 ≤ (ns.length : Int) by omega) (by omega) (by omega)
            exact ⟨_, _, _, rfl, ⟨ns, _, _, _, _, B3⟩, keep_put.trans (keep_put.trans keep_put)⟩
        · exact ⟨_, _, _, rfl, ⟨ns, _, _, _, _, B1⟩, keep_put⟩
      · exact ⟨_, _, _, rfl, ⟨ns, _, _, _, _, B1⟩, keep_put⟩
    · rintro σ H' ⟨y2, y3, y4, rfl, ⟨ns2, i2, j2, m2, c2, B2⟩, k2⟩
      refine ⟨.ref b, rfl, b, _, 2, .int j2, rfl, rfl, SqL.of B2.hb, atI_nat (j := 2) rfl, j2, 0, rfl, rfl, _, rfl, ite2 (fun e => ?_) (fun e => ?_)⟩
      · have B3 := B2.put (j' := j2 / n) (c' := c2) B2.i0 B2.i1 B2.m0 B2.m1
        refine ⟨.ref b, rfl, b, _, 2, .int j2, rfl, rfl, SqL.of B2.hb, atI_nat (j := 2) rfl, .int n, rfl, j2, n, rfl, rfl, h0, ?_⟩
        refine ⟨.ref b, rfl, b, _, 2, .int j2, rfl, rfl, SqL.of B2.hb, atI_nat (j := 2) rfl, .int n, rfl, j2, n, rfl, rfl, wide_div h0 h1 (by decide) (by decide), .ref b, rfl, b, _, 2, 2, rfl, rfl, B2.hb, rfl, ?_⟩
        exact ⟨_, rfl, q _ _ (Int.emod_nonneg _ (by omega)) (Int.emod_lt_of_pos _ h0) ⟨ns2, _, _, _, _, B3⟩ (k2.trans keep_put)⟩
      · have hm : -(2 ^ 64) < m2 ∧ m2 < 2 ^ 64 := ⟨by have := B2.m0; omega, by have := B2.m1; omega⟩
        refine ⟨.ref b, rfl, b, _, 3, .int m2, rfl, rfl, SqL.of B2.hb, atI_nat (j := 3) rfl, .ref b, rfl, b, _, 3, .int m2, rfl, rfl, SqL.of B2.hb, atI_nat (j := 3) rfl, m2, m2, rfl, rfl, .inl hm, _, 7, rfl, rfl, .inr ⟨by decide, by decide⟩,
          .ref b, rfl, b, _, 3, .int m2, rfl, rfl, SqL.of B2.hb, atI_nat (j := 3) rfl, m2, 40692, rfl, rfl, .inr ⟨by decide, by decide⟩, _, _, rfl, rfl, ?_⟩
        refine ⟨_, rfl, .ref b, rfl, b, _, 4, .int c2, rfl, rfl, SqL.of B2.hb, atI_nat (j := 4) rfl, 1013904223, c2, rfl, rfl, .inl ⟨by decide, by decide⟩, _, _, rfl, rfl, _, 2147483399, rfl, rfl, (by show (0 : Int) < 2147483399; decide), .ref b, rfl, b, _, 3, 3, rfl, rfl, B2.hb, rfl, ?_⟩
        have B3 := B2.put (j' := j2) (m' := (m2 * m2 * 7 + m2 * 40692 + 1013904223 * c2) % 2147483399) (c' := c2) B2.i0 B2.i1 (Int.emod_nonneg _ (by decide)) (Int.emod_lt_of_pos _ (by decide))
        refine ⟨.ref b, rfl, b, _, 3, _, rfl, rfl, SqL.of B3.hb, atI_nat (j := 3) rfl, _, 37, rfl, rfl, ⟨by decide, by decide⟩, .int n, rfl, _, n, rfl, rfl, h0, ?_⟩
        exact q _ _ (Int.emod_nonneg _ (by omega)) (Int.emod_lt_of_pos _ h0) ⟨ns2, _, _, _, _, B3⟩ (k2.trans keep_put)
def spOf : Sp := fun vs H Q _ => ∃ (b sb l : Addr) (xs : List V), vs = [.ref b, .ref l] ∧ Bag H b sb ∧ H l = some (.lst xs) ∧ l ≠ b ∧ 0 < xs.length ∧ xs.length ≤ 1000 ∧ ∀ (i : Nat) (v : V) (H' : Hp), xs[i]? = some v → Bag H' b sb → Keep b H H' → Q v H'
theorem ok_of (T : Txt K mg) : FnOk P w K mg base CX0 2 T.f_of T.d_of ["_law_bag", "_law_some"] spOf := by
  refine T.F_of.ok sc_of (fun vs H Q E h => ?_) (fun cdv A outer s H vs Q E hr h => ?_)
  · obtain ⟨b, sb, l, xs, rfl, _⟩ := h
    rfl
  · obtain ⟨b, sb, l, xs, rfl, B, hl, nl, h0, h1, q⟩ := h
    refine ⟨_, (pss_one (ps_ret (pe_ix ix_list (pv 1) (pe_call (ok_pull T) (hr.mono (by decide)) (by rfl) T.g_pull T.F_pull.kp T.b_pull .nil pass0 (pa_cons (pv 0) (pa_cons (pe_callB call_len_seq (by rfl) T.n_len (by decide +kernel) (pa_cons (pv 1) pa_nil)) pa_nil))) (fun _ _ => rfl)))), ?_⟩
    have hn : ((xs.length : Int)).natAbs < 2 ^ 100 := Nat.lt_of_le_of_lt (show (xs.length : Int).natAbs ≤ 1000 by omega) (by decide)
    refine ⟨.ref l, rfl, .ref b, rfl, .ref l, rfl, l, xs, rfl, .inl (SqL.of hl), b, sb, _, rfl, B, (by show (0 : Int) < (xs.length : Int); omega), hn, fun z H' z0 z1 B' k' => ?_⟩
    obtain ⟨v, e1, e2⟩ := at_some z0 z1
    exact ⟨l, xs, z, v, rfl, rfl, k'.list nl hl, e2, q _ _ _ e1 B' k'⟩
end
section
variable {base : Heap} {K : PySem.W.Frag} {mg : Str → Option Value} {P : Program} {w : World}
def okR (x : Int) : Bool := !inV (.int x) [.int 4, .int 9, .int 16, .int 25, .int 36, .int 49, .int 64, .int 81]
def rootsTo : Nat → List Int
  | 0 => []
  | n + 1 => if okR (2 + (n : Int)) = true then rootsTo n ++ [2 + (n : Int)] else rootsTo n
theorem rootsTo_len : ∀ n, (rootsTo n).length ≤ n
  | 0 => Nat.le_refl _
  | n + 1 => by
    have := rootsTo_len n
    unfold rootsTo
    split
    · rw [List.length_append]
      simp
      omega
    · omega
def IsRoot (d : Int) : Prop := 2 ≤ d ∧ d ≤ 99 ∧ ∃ k : Int, 0 ≤ k ∧ k * k < d ∧ d < (k + 1) * (k + 1)
def kOf (d : Int) : Int := if d < 4 then 1 else if d < 9 then 2 else if d < 16 then 3 else if d < 25 then 4 else if d < 36 then 5 else if d < 49 then 6 else if d < 64 then 7 else if d < 81 then 8 else 9
theorem roots_are {d : Int} (h : d ∈ rootsTo 98) : IsRoot d := by
  have z : ∀ d ∈ rootsTo 98, 2 ≤ d ∧ d ≤ 99 ∧ 0 ≤ kOf d ∧ kOf d * kOf d < d ∧ d < (kOf d + 1) * (kOf d + 1) := by decide +kernel
  obtain ⟨a, b, c⟩ := z d h
  exact ⟨a, b, kOf d, c⟩
theorem isRoot_by {d : Int} (h : 2 ≤ d ∧ d ≤ 99 ∧ 0 ≤ kOf d ∧ kOf d * kOf d < d ∧ d < (kOf d + 1) * (kOf d + 1)) : IsRoot d := ⟨h.1, h.2.1, kOf d, h.2.2⟩
def spRoots : Sp := fun vs H Q _ => vs = [] ∧ ∀ p H', H p = none → Same H H' → H' p = some (.lst ((rootsTo 98).map V.int)) → Q (.ref p) H'
theorem ok_roots (T : Txt K mg) : FnOk P w K mg base CX0 1 T.f_roots T.d_roots [] spRoots := by
  refine T.F_roots.ok sc_roots (fun vs H Q E h => ?_) (fun cdv A outer s H vs Q E hr h => ?_)
  · obtain ⟨rfl, _⟩ := h
    rfl
  · obtain ⟨rfl, q⟩ := h
    refine ⟨_, (pss_one (ps_ret (pe_lc (own := [("_law_d", 0)]) (g := (gName 0)) (tt := tTest (tOp (rIn K true) _ _)) (by rfl) sc_roots.nd (pi_range2 (by rfl) T.n_range (pa_cons pe_int (pa_cons pe_int pa_nil))) (blkOk_by (own := [("_law_d", 0)]) (N := ["_law_d"]) (sc := defScope s_roots) (by decide +kernel)) (fun _ _ _ _ _ => (pg_name (i := 0) sc_roots.nd rfl (Or.inl rfl))) (fun _ _ _ _ _ => (pts_one (pt_cmpR op_notIn_seq (pv 0) (pe_tup (pa_cons pe_int (pa_cons pe_int (pa_cons pe_int (pa_cons pe_int (pa_cons pe_int (pa_cons pe_int (pa_cons pe_int (pa_cons pe_int pa_nil))))))))) (by rfl)))) (fun _ _ _ _ _ => (pv 0))))), ?_⟩
    refine ⟨2, 100, rfl, ⟨by decide, by decide, by decide, by decide⟩, fun D hD => ?_⟩
    refine lc_range (lo := 2) (n := 98) (fun i H' => Same H H' ∧ H' D = some (.lst ((rootsTo i).map V.int))) ⟨same_new hD, upd_same⟩ ?_ ?_
    · rintro i H' hi ⟨sm, hd⟩
      refine ⟨rfl, _, rfl, (by show 8 ≤ sizeLine; decide), fun t ht => ?_⟩
      refine ⟨t, _, rfl, .inr (SqT.of upd_same), rfl, rfl, _, rfl, ?_⟩
      have hd2 : (upd H' t (.tup [.int 4, .int 9, .int 16, .int 25, .int 36, .int 49, .int 64, .int 81])) D = some (.lst ((rootsTo i).map V.int)) := (upd_ne (ne_of_none hd ht)).trans hd
      refine ite2 (fun e => ?_) (fun e => ?_)
      · refine ⟨_, rfl, _, hd2, ?_, ?_, ?_⟩
        · rw [List.length_map]
          have := rootsTo_len i
          exact small1000 (by omega)
        · exact fun a o z => (upd_ne (ne_of_none z hD)).trans ((sm.trans (same_new ht)) a o z)
        · rw [upd_same]
          have e' : okR (2 + (i : Int)) = true := e
          rw [show rootsTo (i + 1) = rootsTo i ++ [2 + (i : Int)] by
            show (if okR (2 + (i : Int)) = true then rootsTo i ++ [2 + (i : Int)] else rootsTo i) = _
            rw [if_pos e'], List.map_append]
          rfl
      · refine ⟨sm.trans (same_new ht), ?_⟩
        have e' : ¬ okR (2 + (i : Int)) = true := e
        rw [show rootsTo (i + 1) = rootsTo i by
          show (if okR (2 + (i : Int)) = true then rootsTo i ++ [2 + (i : Int)] else rootsTo i) = _
          rw [if_neg e']]
        exact hd2
    · rintro H' ⟨sm, hd⟩
      exact q D H' hD sm hd
end
section
variable {base : Heap} {K : PySem.W.Frag} {mg : Str → Option Value} {P : Program} {w : World}
def spARoot : Sp := fun vs H Q _ => ∃ b sb : Addr, vs = [.ref b] ∧ Bag H b sb ∧ ∀ d H', IsRoot d → Bag H' b sb → Keep b H H' → Q (.int d) H'
theorem root_in {i : Nat} {v : V} (h : ((rootsTo 98).map V.int)[i]? = some v) : ∃ d, v = .int d ∧ IsRoot d := by
  rw [List.getElem?_map] at h
  cases e : (rootsTo 98)[i]? with
  | none =>
    rw [e] at h
    cases h
  | some d =>
    rw [e] at h
    exact ⟨d, (Option.some.inj h).symm, roots_are (List.mem_of_getElem? e)⟩
theorem ok_a_root (T : Txt K mg) : FnOk P w K mg base CX0 3 T.f_a_root T.d_a_root ["_law_bag"] spARoot := by
  refine T.F_a_root.ok sc_a_root (fun vs H Q E h => ?_) (fun cdv A outer s H vs Q E hr h => ?_)
  · obtain ⟨b, sb, rfl, _⟩ := h
    rfl
  · obtain ⟨b, sb, rfl, B, q⟩ := h
    refine ⟨_, (pss_one (ps_ret (pe_call (ok_of T) (hr.mono (by decide)) (by rfl) T.g_of T.F_of.kp T.b_of .nil pass0 (pa_cons (pv 0) (pa_cons (pe_lst (pa_cons pe_int (pa_cons pe_int (pa_cons pe_int (pa_cons pe_int (pa_cons (pe_call (ok_of T) (hr.mono (by decide)) (by rfl) T.g_of T.F_of.kp T.b_of .nil pass0 (pa_cons (pv 0) (pa_cons (pe_call0 (ok_roots T) (hr.mono (by decide)) (by rfl) T.g_roots T.F_roots.kp T.b_roots .nil pass0) pa_nil))) (pa_cons (pe_call (ok_of T) (hr.mono (by decide)) (by rfl) T.g_of T.F_of.kp T.b_of .nil pass0 (pa_cons (pv 0) (pa_cons (pe_call0 (ok_roots T) (hr.mono (by decide)) (by rfl) T.g_roots T.F_roots.kp T.b_roots .nil pass0) pa_nil))) pa_nil))))))) pa_nil))))), ?_⟩
    have hz : ((rootsTo 98).map V.int).length = 90 := by decide +kernel
    refine ⟨.ref b, rfl, .ref b, rfl, rfl, fun p H1 hp s1 h1 => ?_⟩
    refine ⟨b, sb, p, _, rfl, B.same s1, h1, B.ne hp, by omega, by omega, fun i v H2 hv B2 k2 => ?_⟩
    obtain ⟨r1, rfl, i1⟩ := root_in hv
    refine ⟨.ref b, rfl, rfl, fun p' H3 hp' s3 h3 => ?_⟩
    refine ⟨b, sb, p', _, rfl, B2.same s3, h3, B2.ne hp', by omega, by omega, fun i' v' H4 hv' B4 k4 => ?_⟩
    obtain ⟨r2, rfl, i2⟩ := root_in hv'
    refine ⟨(by show 6 ≤ sizeLine; decide), fun l hl => ?_⟩
    refine ⟨b, sb, l, _, rfl, B4.new hl, upd_same, B4.ne hl, by simp, by simp, fun i v H5 hv B5 k5 => ?_⟩
    have kk : Keep b H H5 := (keep_of s1).trans (k2.trans ((keep_of s3).trans (k4.trans ((keep_new hl).trans k5))))
    match i, hv with
    | 0, hv => cases hv; exact q 2 H5 (isRoot_by (by decide)) B5 kk
    | 1, hv => cases hv; exact q 3 H5 (isRoot_by (by decide)) B5 kk
    | 2, hv => cases hv; exact q 5 H5 (isRoot_by (by decide)) B5 kk
    | 3, hv => cases hv; exact q 99 H5 (isRoot_by (by decide)) B5 kk
    | 4, hv => cases hv; exact q r1 H5 i1 B5 kk
    | 5, hv => cases hv; exact q r2 H5 i2 B5 kk
    | n + 6, hv => simp at hv
end
section
variable {base : Heap} {K : PySem.W.Frag} {mg : Str → Option Value} {P : Program} {w : World}
def spAnyPair : Sp := fun vs H Q _ => ∃ b sb : Addr, vs = [.ref b] ∧ Bag H b sb ∧ ∀ x y p H', -(10 ^ 6) ≤ x → x ≤ 10 ^ 6 → -(10 ^ 6) ≤ y → y ≤ 10 ^ 6 → H p = none → H' p = some (.tup [.int x, .int y]) → Bag H' b sb → Keep b H H' → Q (.ref p) H'
theorem ok_any_pair (T : Txt K mg) : FnOk P w K mg base CX0 3 T.f_any_pair T.d_any_pair ["_law_bag"] spAnyPair := by
  refine T.F_any_pair.ok sc_any_pair (fun vs H Q E h => ?_) (fun cdv A outer s H vs Q E hr h => ?_)
  · obtain ⟨b, sb, rfl, _⟩ := h
    rfl
  · obtain ⟨b, sb, rfl, B, q⟩ := h
    refine ⟨_, (pss_cons (ps_set (i := 1) sc_any_pair.nd rfl (Or.inl rfl) (pe_call (ok_of T) (hr.mono (by decide)) (by rfl) T.g_of T.F_of.kp T.b_of .nil pass0 (pa_cons (pv 0) (pa_cons (pe_lst (pa_cons pe_int (pa_cons pe_int (pa_cons pe_int (pa_cons pe_int (pa_cons (pe_op op_pow pe_int pe_int) pa_nil)))))) pa_nil))))
      (pss_one (ps_ret (pe_tup (pa_cons (pe_op op_sub (pe_call (ok_pull T) (hr.mono (by decide)) (by rfl) T.g_pull T.F_pull.kp T.b_pull .nil pass0 (pa_cons (pv 0) (pa_cons (pe_op op_add (pe_op op_mul pe_int (pv 1)) pe_int) pa_nil))) (pv 1)) (pa_cons (pe_op op_sub (pe_call (ok_pull T) (hr.mono (by decide)) (by rfl) T.g_pull T.F_pull.kp T.b_pull .nil pass0 (pa_cons (pv 0) (pa_cons (pe_op op_add (pe_op op_mul pe_int (pv 1)) pe_int) pa_nil))) (pv 1)) pa_nil)))))), ?_⟩
    refine ⟨.ref b, rfl, 10, 6, rfl, rfl, ⟨by decide, by decide, by decide⟩, (by show 5 ≤ sizeLine; decide), fun l hl => ?_⟩
    refine ⟨b, sb, l, _, rfl, B.new hl, upd_same, B.ne hl, by decide, by decide, fun i v H1 hv B1 k1 => ?_⟩
    obtain ⟨n, rfl, n0, n1⟩ : ∃ n : Int, v = .int n ∧ 1 ≤ n ∧ n ≤ 10 ^ 6 := by
      match i, hv with
      | 0, hv => cases hv; exact ⟨2, rfl, by decide, by decide⟩
      | 1, hv => cases hv; exact ⟨5, rfl, by decide, by decide⟩
      | 2, hv => cases hv; exact ⟨9, rfl, by decide, by decide⟩
      | 3, hv => cases hv; exact ⟨30, rfl, by decide, by decide⟩
      | 4, hv => cases hv; exact ⟨10 ^ 6, rfl, by decide, by decide⟩
      | n + 5, hv => simp at hv
    have hn : (2 * n + 1).natAbs < 2 ^ 100 := Nat.lt_of_le_of_lt (show (2 * n + 1).natAbs ≤ 2000001 by omega) (by decide)
    refine ⟨.ref b, rfl, _, rfl, 2, n, rfl, rfl, .inl ⟨by decide, by decide⟩, _, 1, rfl, rfl, b, sb, _, rfl, B1, (show (0 : Int) < 2 * n + 1 by omega), hn, fun z H2 z0 z1 B2 k2 => ?_⟩
    refine ⟨_, rfl, z, n, rfl, rfl, .ref b, rfl, _, rfl, 2, n, rfl, rfl, .inl ⟨by decide, by decide⟩, _, 1, rfl, rfl, b, sb, _, rfl, B2, (show (0 : Int) < 2 * n + 1 by omega), hn, fun z' H3 z0' z1' B3 k3 => ?_⟩
    refine ⟨_, rfl, z', n, rfl, rfl, (by show 2 ≤ sizeLine; decide), fun p hp => ?_⟩
    have kk : Keep b H H3 := (keep_new hl).trans (k1.trans (k2.trans k3))
    have hpn : H p = none := by
      cases e : H p with
      | none => rfl
      | some o => exact absurd (kk p o (B3.ne hp) e) (by rw [hp]; simp)
    exact q _ _ p _ (by omega) (by omega) (by omega) (by omega) hpn upd_same (B3.new hp) (kk.trans (keep_new hp))
end
section
variable {base : Heap} {K : PySem.W.Frag} {mg : Str → Option Value} {P : Program} {w : World}
def spSource (K : PySem.W.Frag) : Sp := fun vs H Q _ => ∃ (a : Addr) (ns : List Int), vs = [.ref a] ∧ SqL K H a (ns.map V.int) ∧ ns.length ≤ 63 ∧ ∀ b sb H', H b = none → Same H H' → Bag H' b sb → Q (.ref b) H'
theorem ok_source (T : Txt K mg) : FnOk P w K mg base CX0 1 T.f_source T.d_source ["_law_script"] (spSource K) := by
  refine T.F_source.ok sc_source (fun vs H Q E h => ?_) (fun cdv A outer s H vs Q E hr h => ?_)
  · obtain ⟨a, ns, rfl, _⟩ := h
    rfl
  · obtain ⟨a, ns, rfl, hS, hlen, q⟩ := h
    refine ⟨_, (pss_cons (ps_set (i := 1) sc_source.nd rfl (Or.inl rfl) pe_int)
      (pss_cons (ps_for PassesOwn.never rfl (pi_list (pe_slice sl_list (pv 0) po_none (po_some pe_int))) (pg_name (i := 2) sc_source.nd rfl (Or.inl rfl)) (pss_one (ps_set (i := 1) sc_source.nd rfl (Or.inl rfl) (pe_op op_mod (pe_op op_add (pe_op op_add (pe_op op_mul (pv 1) pe_int) (pe_op op_mod (pv 2) pe_int)) pe_int) pe_int))))
      (pss_one (ps_ret (pe_lst (pa_cons (pe_callTy call_list_of (by rfl) T.n_list (by decide +kernel) (pa_cons (pe_slice sl_list (pv 0) po_none (po_some pe_int)) pa_nil)) (pa_cons pe_int (pa_cons pe_int (pa_cons (pv 1) (pa_cons pe_int pa_nil)))))))))), ?_⟩
    have hcut : cutV (ns.map V.int) none (some 63) = ns.map V.int := by
      unfold cutV
      rw [HT.sIx_none, show HT.sIx (ns.map V.int).length (ns.map V.int).length (some 63) = min 63 (ns.map V.int).length from HT.sIx_nat _ _ 63]
      rw [List.drop_zero, List.length_map, Nat.sub_zero, Nat.min_eq_right hlen]
      exact List.take_of_length_le (by rw [List.length_map]; exact Nat.le_refl _)
    refine ⟨.ref a, rfl, 63, rfl, a, _, rfl, hS, fun p hp => ?_⟩
    rw [hcut]
    refine ⟨p, rfl, ⟨_, SqL.of upd_same⟩, for_list (K := K) (a := p) (xs := ns.map V.int) (fun i σ H2 => ∃ (m : Int) (y : Option V), σ = [some (.ref a), some (.int m), y] ∧ 0 ≤ m ∧ m < 2147483399 ∧ H2 = upd H p (.lst (ns.map V.int)))
      ⟨3812, none, rfl, by decide, by decide, rfl⟩ (fun i σ H2 _ ⟨_, _, _, _, _, e⟩ => by rw [e]; exact SqL.of upd_same) ?_ ?_⟩
    · rintro i x σ H2 hx ⟨m, y, rfl, m0, m1, rfl⟩
      obtain ⟨z, rfl⟩ : ∃ z, x = V.int z := by
        rw [List.getElem?_map] at hx
        cases e : ns[i]? with
        | none =>
          rw [e] at hx
          cases hx
        | some z =>
          rw [e] at hx
          exact ⟨z, (Option.some.inj hx).symm⟩
      refine ⟨_, rfl, m, 40692, rfl, rfl, .inr ⟨by decide, by decide⟩, _, rfl, z, 2147483399, rfl, rfl, (by show (0 : Int) < 2147483399; decide), _, _, rfl, rfl, _, 17, rfl, rfl, _, 2147483399, rfl, rfl, (by show (0 : Int) < 2147483399; decide), ?_⟩
      exact ⟨_, _, rfl, Int.emod_nonneg _ (by decide), Int.emod_lt_of_pos _ (by decide), rfl⟩
    · rintro σ H2 ⟨m, y, rfl, m0, m1, rfl⟩
      have hS2 : SqL K (upd H p (.lst (ns.map V.int))) a (ns.map V.int) := (same_new hp).seq hS
      refine ⟨.ref a, rfl, 63, rfl, a, _, rfl, hS2, fun p2 hp2 => ?_⟩
      rw [hcut]
      refine ⟨p2, _, rfl, .inl (SqL.of upd_same), fun l hl => ?_⟩
      refine ⟨_, rfl, (by show 5 ≤ sizeLine; decide), fun b hb => ?_⟩
      have sm : Same H (upd (upd (upd (upd H p (.lst (ns.map V.int))) p2 (.lst (ns.map V.int))) l (.lst (ns.map V.int))) b (.lst [.ref l, .int 0, .int 0, .int m, .int 0])) := (same_new hp).trans ((same_new hp2).trans ((same_new hl).trans (same_new hb)))
      exact q b l _ (((same_new hp).trans ((same_new hp2).trans (same_new hl))).free hb) sm ⟨ns, 0, 0, m, 0, upd_same, same_new hb _ _ upd_same, Int.le_refl _, by omega, m0, m1⟩
end
/-! ### like -/
def Flat (x y : V) : Prop := (∃ i, x = .int i ∧ y = .int i) ∨ (∃ b, x = .bl b ∧ y = .bl b) ∨ (x = .non ∧ y = .non) ∨ (∃ t, x = .str t ∧ y = .str t)
def Two (H : Hp) (p q : Addr) (xs ys : List V) : Prop := (H p = some (.tup xs) ∧ H q = some (.tup ys)) ∨ (H p = some (.lst xs) ∧ H q = some (.lst ys))
def Lk (H : Hp) : Nat → V → V → Prop
  | 0, x, y => Flat x y
  | n + 1, x, y => Flat x y ∨ ∃ (p q : Addr) (xs ys : List V), x = .ref p ∧ y = .ref q ∧ Two H p q xs ys ∧ xs.length = ys.length ∧ xs.length ≤ 1000 ∧ ∀ (i : Nat) (x y : V), xs[i]? = some x → ys[i]? = some y → Lk H n x y
theorem Two.same {H H' : Hp} {p q : Addr} {xs ys : List V} (h : Two H p q xs ys) (s : Same H H') : Two H' p q xs ys := by
  rcases h with ⟨a, b⟩ | ⟨a, b⟩
  · exact .inl ⟨s _ _ a, s _ _ b⟩
  · exact .inr ⟨s _ _ a, s _ _ b⟩
theorem Lk.same {H H' : Hp} (s : Same H H') : ∀ {n : Nat} {x y : V}, Lk H n x y → Lk H' n x y
  | 0, _, _, h => h
  | n + 1, _, _, h => by
    rcases h with h | ⟨p, q, xs, ys, e1, e2, t, l1, l2, a⟩
    · exact .inl h
    · exact .inr ⟨p, q, xs, ys, e1, e2, t.same s, l1, l2, fun i x y h1 h2 => (a i x y h1 h2).same s⟩
theorem Lk.flat {H : Hp} {n : Nat} {x y : V} (h : Flat x y) : Lk H n x y := match n with
  | 0 => h
  | _ + 1 => .inl h
section
variable {base : Heap} {K : PySem.W.Frag} {mg : Str → Option Value} {P : Program} {w : World}
def spLL (L : V → V → Hp → Prop) : Sp := fun vs H Q _ => ∃ x y : V, vs = [x, y] ∧ L x y H ∧ ∀ H', Same H H' → Q (.bl true) H'
theorem kit2 {a : String} {r1 r2 : Bool} (h1 : kitB a "tuple" = some r1) (h2 : kitB a "list" = some r2) : PySem.W.kitAny K (.type a) [.type "tuple", .type "list"] = some (r1 || r2) := by
  refine kitAny_cons (kit_ty h1) (fun e => ?_) (fun e => by rw [e]; rfl)
  subst e
  exact kitAny_cons (kit_ty h2) (fun e => by rw [e]; exact kitAny_nil) (fun e => by rw [e]; rfl)
theorem lk_core (T : Txt K mg) {k : Nat} {L L' : V → V → Hp → Prop} (G : FnOk P w K mg base CX0 k T.f_like T.d_like ["_law_found", "_law_due"] (spLL L')) (hs : ∀ x y H H', Same H H' → L' x y H → L' x y H')
    (hne : ∀ x y H, L x y H → Flat x y ∨ ∃ (p q : Addr) (xs ys : List V), x = .ref p ∧ y = .ref q ∧ Two H p q xs ys ∧ xs.length = ys.length ∧ xs.length ≤ 1000 ∧ ∀ (i : Nat) (x y : V), xs[i]? = some x → ys[i]? = some y → L' x y H) :
    FnOk P w K mg base CX0 (k + 1) T.f_like T.d_like ["_law_found", "_law_due"] (spLL L) := by
  refine T.F_like.ok sc_like (fun vs H Q E h => ?_) (fun cdv A outer s H vs Q E hr h => ?_)
  · obtain ⟨x, y, rfl, _⟩ := h
    rfl
  · obtain ⟨x, y, rfl, hl, qq⟩ := h
    refine ⟨_, (pss_cons (ps_if (pt_val (pe_callB call_isiT (by rfl) T.n_isinstance (by decide +kernel) (pa_cons (pv 1) (pa_cons (pe_tup (pa_cons (pe_bltn (v := .ty "tuple") (by rfl) T.n_tuple (by decide +kernel) rfl) (pa_cons (pe_bltn (v := .ty "list") (by rfl) T.n_list (by decide +kernel) rfl) pa_nil))) pa_nil)))) (pss_cons (ps_if (PW.pt (pw_or (pt_cmpR op_ne (pe_callB call_isi (by rfl) T.n_isinstance (by decide +kernel) (pa_cons (pv 0) (pa_cons (pe_bltn (v := .ty "tuple") (by rfl) T.n_tuple (by decide +kernel) rfl) pa_nil))) (pe_callB call_isi (by rfl) T.n_isinstance (by decide +kernel) (pa_cons (pv 1) (pa_cons (pe_bltn (v := .ty "tuple") (by rfl) T.n_tuple (by decide +kernel) rfl) pa_nil))) (nomark _)) (pw_or1 (pt_cmpR op_ne (pe_callB call_isi (by rfl) T.n_isinstance (by decide +kernel) (pa_cons (pv 0) (pa_cons (pe_bltn (v := .ty "list") (by rfl) T.n_list (by decide +kernel) rfl) pa_nil))) (pe_callB call_isi (by rfl) T.n_isinstance (by decide +kernel) (pa_cons (pv 1) (pa_cons (pe_bltn (v := .ty "list") (by rfl) T.n_list (by decide +kernel) rfl) pa_nil))) (nomark _))))) (pss_one (ps_ret pe_bl)) pss_nil)
      (pss_one (ps_ret (pe_and (pe_cmpR op_eq (pe_callB call_len_seq (by rfl) T.n_len (by decide +kernel) (pa_cons (pv 0) pa_nil)) (pe_callB call_len_seq (by rfl) T.n_len (by decide +kernel) (pa_cons (pv 1) pa_nil)) (nomark _)) (pe_one (pe_callB (cr_all rfl) (by rfl) T.n_all (by decide +kernel) (pa_cons (pe_lc (own := [("_law_k", 2)]) (g := (gName 2)) (tt := tYes) (te := tCall (spLL L') [] E0 (tCons (tOp (rIx K) _ _) (tCons (tOp (rIx K) _ _) _))) (by rfl) sc_like.nd (pi_range1 (by rfl) T.n_range (pa_cons (pe_callB call_len_seq (by rfl) T.n_len (by decide +kernel) (pa_cons (pv 1) pa_nil)) pa_nil)) (blkOk_by (own := [("_law_k", 2)]) (N := ["_law_found", "_law_due", "_law_k"]) (sc := defScope s_like) (by decide +kernel)) (fun _ _ _ _ _ => (pg_name (i := 2) sc_like.nd rfl (Or.inl rfl))) (fun _ _ _ _ _ => pts_nil) (fun _ _ _ _ _ => (pe_call G hr (by rfl) T.g_like T.F_like.kp T.b_like .nil pass0 (pa_cons (pe_ix ix_seq (pv 0) (pv 2) (fun _ _ => rfl)) (pa_cons (pe_ix ix_seq (pv 1) (pv 2) (fun _ _ => rfl)) pa_nil))))) pa_nil))))))) pss_nil)
      (pss_cons (ps_if (PW.pt (pw_or (pt_cmpR op_isN (pv 1) pe_non (nomark _)) (pw_or1 (pt_cmpR op_isN (pv 0) pe_non (nomark _))))) (pss_one (ps_ret (pe_and (pe_cmpR op_isN (pv 1) pe_non (nomark _)) (pe_one (pe_cmpR op_isN (pv 0) pe_non (nomark _)))))) pss_nil)
      (pss_one (ps_ret (pe_and (pe_cmpR op_eq (pe_callB call_isi (by rfl) T.n_isinstance (by decide +kernel) (pa_cons (pv 0) (pa_cons (pe_bltn (v := .ty "bool") (by rfl) T.n_bool (by decide +kernel) rfl) pa_nil))) (pe_callB call_isi (by rfl) T.n_isinstance (by decide +kernel) (pa_cons (pv 1) (pa_cons (pe_bltn (v := .ty "bool") (by rfl) T.n_bool (by decide +kernel) rfl) pa_nil))) (nomark _)) (pe_one (pe_cmpR op_eq (pv 0) (pv 1) (nomark _)))))))), ?_⟩
    refine ⟨_, rfl, by show 2 ≤ sizeLine; decide, fun tp htp => ?_⟩
    have sm := same_new (o := .tup [.ty "tuple", .ty "list"]) htp
    rcases hne x y H hl with (⟨i, rfl, rfl⟩ | ⟨b, rfl, rfl⟩ | ⟨rfl, rfl⟩ | ⟨i, rfl, rfl⟩) | ⟨p, q, xs, ys, rfl, rfl, hT, l1, l2, hA⟩
    · refine ⟨.int i, tp, [.ty "tuple", .ty "list"], .type "int", [.type "tuple", .type "list"], (false || false), rfl, upd_same, .cons (ClsV.ty _) (.cons (ClsV.ty _) .nil), TyX.base (TyOf.int _), kit2 (by decide +kernel) (by decide +kernel), _, rfl, iteF ?_⟩
      refine ⟨_, rfl, rfl, _, rfl, iteF ?_⟩
      refine ⟨_, rfl, rfl, _, rfl, iteF ?_⟩
      refine ⟨_, rfl, .int i, .ty "bool", _, _, false, rfl, ClsV.ty _, TyX.base (TyOf.int _), kit_ty (by decide +kernel), _, rfl, .int i, .ty "bool", _, _, false, rfl, ClsV.ty _, TyX.base (TyOf.int _), kit_ty (by decide +kernel), rfl, true, rfl, iteT ?_⟩
      refine ⟨_, rfl, _, rfl, rfl, ?_⟩
      rw [decide_eq_true rfl]
      exact qq _ sm
    · refine ⟨.bl b, tp, [.ty "tuple", .ty "list"], .type "bool", [.type "tuple", .type "list"], (false || false), rfl, upd_same, .cons (ClsV.ty _) (.cons (ClsV.ty _) .nil), TyX.base (TyOf.bl _), kit2 (by decide +kernel) (by decide +kernel), _, rfl, iteF ?_⟩
      refine ⟨_, rfl, rfl, _, rfl, iteF ?_⟩
      refine ⟨_, rfl, rfl, _, rfl, iteF ?_⟩
      refine ⟨_, rfl, .bl b, .ty "bool", _, _, true, rfl, ClsV.ty _, TyX.base (TyOf.bl _), kit_ty (by decide +kernel), _, rfl, .bl b, .ty "bool", _, _, true, rfl, ClsV.ty _, TyX.base (TyOf.bl _), kit_ty (by decide +kernel), rfl, true, rfl, iteT ?_⟩
      refine ⟨_, rfl, _, rfl, rfl, ?_⟩
      rw [decide_eq_true rfl]
      exact qq _ sm
    · refine ⟨.non, tp, [.ty "tuple", .ty "list"], .type "NoneType", [.type "tuple", .type "list"], (false || false), rfl, upd_same, .cons (ClsV.ty _) (.cons (ClsV.ty _) .nil), TyX.base TyOf.non, kit2 (by decide +kernel) (by decide +kernel), _, rfl, iteF ?_⟩
      refine ⟨_, rfl, rfl, _, rfl, iteT ?_⟩
      exact ⟨_, rfl, rfl, true, rfl, iteT ⟨_, rfl, rfl, qq _ sm⟩⟩
    · refine ⟨.str i, tp, [.ty "tuple", .ty "list"], .type "str", [.type "tuple", .type "list"], (false || false), rfl, upd_same, .cons (ClsV.ty _) (.cons (ClsV.ty _) .nil), TyX.base (TyOf.str _), kit2 (by decide +kernel) (by decide +kernel), _, rfl, iteF ?_⟩
      refine ⟨_, rfl, rfl, _, rfl, iteF ?_⟩
      refine ⟨_, rfl, rfl, _, rfl, iteF ?_⟩
      refine ⟨_, rfl, .str i, .ty "bool", _, _, false, rfl, ClsV.ty _, TyX.base (TyOf.str _), kit_ty (by decide +kernel), _, rfl, .str i, .ty "bool", _, _, false, rfl, ClsV.ty _, TyX.base (TyOf.str _), kit_ty (by decide +kernel), rfl, true, rfl, iteT ?_⟩
      refine ⟨_, rfl, _, rfl, rfl, ?_⟩
      rw [decide_eq_true rfl]
      exact qq _ sm
    · have hT' := hT.same sm
      rcases hT' with ⟨hp, hq⟩ | ⟨hp, hq⟩
      · refine ⟨.ref q, tp, [.ty "tuple", .ty "list"], .type "tuple", [.type "tuple", .type "list"], (true || false), rfl, upd_same, .cons (ClsV.ty _) (.cons (ClsV.ty _) .nil), TyX.base (TyOf.tup hq), kit2 (by decide +kernel) (by decide +kernel), _, rfl, iteT ?_⟩
        refine ⟨_, rfl, .ref p, .ty "tuple", _, _, true, rfl, ClsV.ty _, TyX.base (TyOf.tup hp), kit_ty (by decide +kernel), _, rfl, .ref q, .ty "tuple", _, _, true, rfl, ClsV.ty _, TyX.base (TyOf.tup hq), kit_ty (by decide +kernel), rfl, _, rfl, iteF ?_⟩
        refine ⟨_, rfl, .ref p, .ty "list", _, _, false, rfl, ClsV.ty _, TyX.base (TyOf.tup hp), kit_ty (by decide +kernel), _, rfl, .ref q, .ty "list", _, _, false, rfl, ClsV.ty _, TyX.base (TyOf.tup hq), kit_ty (by decide +kernel), rfl, _, rfl, iteF ?_⟩
        refine ⟨_, rfl, p, xs, rfl, .inr (SqT.of hp), _, rfl, q, ys, rfl, .inr (SqT.of hq), rfl, true, (by rw [l1, decide_eq_true rfl]), iteT ?_⟩
        refine ⟨_, rfl, q, ys, rfl, .inr (SqT.of hq), _, rfl, (by omega), (by omega), fun D hD => ?_⟩
        refine lc_range (lo := 0) (n := ys.length) (fun i H' => Same H H' ∧ H' D = some (.lst ((List.replicate i true).map V.bl))) ⟨sm.trans (same_new hD), upd_same⟩ ?_ ?_
        · rintro i H' hi ⟨sm', hd⟩
          obtain ⟨x1, e1, f1⟩ := at_some (xs := xs) (show 0 ≤ (0 : Int) + (i : Int) by omega) (by omega)
          obtain ⟨y1, e2, f2⟩ := at_some (xs := ys) (show 0 ≤ (0 : Int) + (i : Int) by omega) (by omega)
          rcases hT with ⟨hp0, hq0⟩ | ⟨hp0, hq0⟩
          · refine ⟨rfl, ⟨_, rfl, _, rfl, .inr (.inl ⟨p, xs, _, x1, rfl, rfl, SqT.of (sm' _ _ hp0), f1, _, rfl, _, rfl, .inr (.inl ⟨q, ys, _, y1, rfl, rfl, SqT.of (sm' _ _ hq0), f2, x1, y1, rfl, hs _ _ _ _ sm' (hA _ _ _ e1 e2), fun H2 s2 => ?_⟩)⟩)⟩⟩
            refine ⟨_, s2 _ _ hd, ?_, ?_, ?_⟩
            · rw [List.length_map, List.length_replicate]
              exact small1000 (by omega)
            · exact fun a o z => (upd_ne (ne_of_none z (sm.free hD))).trans (s2 _ _ (sm' a o z))
            · rw [upd_same, List.replicate_succ', List.map_append]
              rfl
          · exact absurd (sm _ _ hp0) (by rw [hp]; simp)
        · rintro H' ⟨sm', hd⟩
          refine ⟨D, _, rfl, SqL.of hd, ?_⟩
          rw [show (List.replicate ys.length true).all id = true by simp]
          exact qq _ sm'
      · refine ⟨.ref q, tp, [.ty "tuple", .ty "list"], .type "list", [.type "tuple", .type "list"], (false || true), rfl, upd_same, .cons (ClsV.ty _) (.cons (ClsV.ty _) .nil), TyX.base (TyOf.lst hq), kit2 (by decide +kernel) (by decide +kernel), _, rfl, iteT ?_⟩
        refine ⟨_, rfl, .ref p, .ty "tuple", _, _, false, rfl, ClsV.ty _, TyX.base (TyOf.lst hp), kit_ty (by decide +kernel), _, rfl, .ref q, .ty "tuple", _, _, false, rfl, ClsV.ty _, TyX.base (TyOf.lst hq), kit_ty (by decide +kernel), rfl, _, rfl, iteF ?_⟩
        refine ⟨_, rfl, .ref p, .ty "list", _, _, true, rfl, ClsV.ty _, TyX.base (TyOf.lst hp), kit_ty (by decide +kernel), _, rfl, .ref q, .ty "list", _, _, true, rfl, ClsV.ty _, TyX.base (TyOf.lst hq), kit_ty (by decide +kernel), rfl, _, rfl, iteF ?_⟩
        refine ⟨_, rfl, p, xs, rfl, .inl (SqL.of hp), _, rfl, q, ys, rfl, .inl (SqL.of hq), rfl, true, (by rw [l1, decide_eq_true rfl]), iteT ?_⟩
        refine ⟨_, rfl, q, ys, rfl, .inl (SqL.of hq), _, rfl, (by omega), (by omega), fun D hD => ?_⟩
        refine lc_range (lo := 0) (n := ys.length) (fun i H' => Same H H' ∧ H' D = some (.lst ((List.replicate i true).map V.bl))) ⟨sm.trans (same_new hD), upd_same⟩ ?_ ?_
        · rintro i H' hi ⟨sm', hd⟩
          obtain ⟨x1, e1, f1⟩ := at_some (xs := xs) (show 0 ≤ (0 : Int) + (i : Int) by omega) (by omega)
          obtain ⟨y1, e2, f2⟩ := at_some (xs := ys) (show 0 ≤ (0 : Int) + (i : Int) by omega) (by omega)
          rcases hT with ⟨hp0, hq0⟩ | ⟨hp0, hq0⟩
          · exact absurd (sm _ _ hp0) (by rw [hp]; simp)
          · refine ⟨rfl, ⟨_, rfl, _, rfl, .inl ⟨p, xs, _, x1, rfl, rfl, SqL.of (sm' _ _ hp0), f1, _, rfl, _, rfl, .inl ⟨q, ys, _, y1, rfl, rfl, SqL.of (sm' _ _ hq0), f2, x1, y1, rfl, hs _ _ _ _ sm' (hA _ _ _ e1 e2), fun H2 s2 => ?_⟩⟩⟩⟩
            refine ⟨_, s2 _ _ hd, ?_, ?_, ?_⟩
            · rw [List.length_map, List.length_replicate]
              exact small1000 (by omega)
            · exact fun a o z => (upd_ne (ne_of_none z (sm.free hD))).trans (s2 _ _ (sm' a o z))
            · rw [upd_same, List.replicate_succ', List.map_append]
              rfl
        · rintro H' ⟨sm', hd⟩
          refine ⟨D, _, rfl, SqL.of hd, ?_⟩
          rw [show (List.replicate ys.length true).all id = true by simp]
          exact qq _ sm'
theorem ok_likeN (T : Txt K mg) : ∀ n : Nat, FnOk P w K mg base CX0 (n + 1) T.f_like T.d_like ["_law_found", "_law_due"] (spLL fun x y H => Lk H n x y)
  | 0 => lk_core T (L' := fun _ _ _ => False) ⟨fun _ _ _ _ ⟨_, _, _, h, _⟩ => h.elim, fun _ _ _ _ _ _ _ _ _ _ _ _ _ ⟨_, _, _, h, _⟩ => h.elim⟩ (fun _ _ _ _ _ h => h) fun x y H h => .inl h
  | n + 1 => lk_core T (ok_likeN T n) (fun _ _ _ _ s h => h.same s) fun x y H h => h
theorem ok_like (T : Txt K mg) : FnOk P w K mg base CX0 6 T.f_like T.d_like ["_law_found", "_law_due"] (spLL fun x y H => Lk H 5 x y) := ok_likeN T 5
end
inductive LkAll (H : Hp) (n : Nat) : List V → List V → Prop
  | nil : LkAll H n [] []
  | cons {x y : V} {xs ys : List V} : Lk H n x y → LkAll H n xs ys → LkAll H n (x :: xs) (y :: ys)
theorem LkAll.get {H : Hp} {n : Nat} : ∀ {xs ys : List V}, LkAll H n xs ys → xs.length = ys.length ∧ ∀ (i : Nat) (x y : V), xs[i]? = some x → ys[i]? = some y → Lk H n x y
  | _, _, .nil => ⟨rfl, fun i x y h => by simp at h⟩
  | _, _, .cons h t => ⟨congrArg Nat.succ t.get.1, fun i x y h1 h2 => match i, h1, h2 with
    | 0, h1, h2 => by cases h1; cases h2; exact h
    | i + 1, h1, h2 => t.get.2 i x y (by simpa using h1) (by simpa using h2)⟩
theorem Lk.lists {H : Hp} {n : Nat} {p q : Addr} {xs ys : List V} (hp : H p = some (.lst xs)) (hq : H q = some (.lst ys)) (hl : xs.length ≤ 1000) (h : LkAll H n xs ys) : Lk H (n + 1) (.ref p) (.ref q) := .inr ⟨p, q, xs, ys, rfl, rfl, .inr ⟨hp, hq⟩, h.get.1, hl, h.get.2⟩
theorem Lk.tups {H : Hp} {n : Nat} {p q : Addr} {xs ys : List V} (hp : H p = some (.tup xs)) (hq : H q = some (.tup ys)) (hl : xs.length ≤ 1000) (h : LkAll H n xs ys) : Lk H (n + 1) (.ref p) (.ref q) := .inr ⟨p, q, xs, ys, rfl, rfl, .inl ⟨hp, hq⟩, h.get.1, hl, h.get.2⟩
theorem Lk.int {H : Hp} {n : Nat} {i j : Int} (e : i = j) : Lk H n (.int i) (.int j) := Lk.flat (.inl ⟨i, rfl, by rw [e]⟩)
theorem Lk.bl {H : Hp} {n : Nat} {i j : Bool} (e : i = j) : Lk H n (.bl i) (.bl j) := Lk.flat (.inr (.inl ⟨i, rfl, by rw [e]⟩))
theorem Lk.pair {H : Hp} {n : Nat} {p q : Addr} {x y x' y' : Int} (hp : H p = some (.tup [.int x, .int y])) (hq : H q = some (.tup [.int x', .int y'])) (e1 : x = x') (e2 : y = y') : Lk H (n + 1) (.ref p) (.ref q) :=
  .tups hp hq (by simp) (.cons (.int e1) (.cons (.int e2) .nil))
/-! ### the field of a caught error -/
/-- the error of the class cls with its dict at d: its word, its other field -/
structure ErrIs (K : PySem.W.Frag) (H : Hp) (cls : Value) (d : Option Addr) (w : Str) (fs : List (Str × V)) : Prop where
  ex : ∃ C dd : Addr, cls = .ref C ∧ d = some dd ∧ XfC K C ∧ H dd = some (.xd fs) ∧ ∀ f v, fs.lookup f = some v → PySem.W.findIn K (.ref C) f = some none
  wd : fs.lookup ("word" : Str) = some (.str w)
theorem ErrIs.same {K : PySem.W.Frag} {H H' : Hp} {cls : Value} {d : Option Addr} {w : Str} {fs : List (Str × V)} (h : ErrIs K H cls d w fs) (s : Same H H') : ErrIs K H' cls d w fs := by
  obtain ⟨⟨C, dd, e1, e2, x, hd, no⟩, wd⟩ := h
  exact ⟨⟨C, dd, e1, e2, x, s _ _ hd, no⟩, wd⟩
/-- a field is read -/
theorem ErrIs.read {K : PySem.W.Frag} {H : Hp} {a : Addr} {cls : Value} {d : Option Addr} {w : Str} {fs : List (Str × V)} (h : ErrIs K H cls d w fs) {f : Str} {v : V} {R : V → Prop} (hl : fs.lookup f = some v) (q : R v) :
    (V.ref a) = .ref a ∧ ∃ (C dd : Addr) (fs : List (Str × V)) (v : V), cls = .ref C ∧ d = some dd ∧ XfC K C ∧ PySem.W.findIn K (.ref C) f = some none ∧ H dd = some (.xd fs) ∧ fs.lookup f = some v ∧ R v := by
  obtain ⟨⟨C, dd, e1, e2, x, hd, no⟩, wd⟩ := h
  exact ⟨rfl, C, dd, fs, v, e1, e2, x, no _ _ hl, hd, hl, q⟩
def fieldOf (w : Str) : Option Str :=
  if inV (.str w) [.str "BadRoot", .str "BadCount", .str "NotLinked"] = true then some "number"
  else if inV (.str w) [.str "BadLength", .str "BadRow", .str "BadStep", .str "BadText", .str "BadDeed"] = true then some "at"
  else if inV (.str w) [.str "BadName", .str "Taken"] = true then some "name"
  else if inV (.str w) [.str "TooGreat", .str "Full"] = true then some "most"
  else if decide (V.str w = .str "NoSquares") = true then some "reason" else none
theorem fo0 {w : Str}  (e : inV (.str w) [.str "BadRoot", .str "BadCount", .str "NotLinked"] = true) : fieldOf w = some ("number" : Str) := by unfold fieldOf; rw [if_pos e]
theorem fo1 {w : Str} (b0 : ¬ (inV (.str w) [.str "BadRoot", .str "BadCount", .str "NotLinked"] = true)) (e : inV (.str w) [.str "BadLength", .str "BadRow", .str "BadStep", .str "BadText", .str "BadDeed"] = true) : fieldOf w = some ("at" : Str) := by unfold fieldOf; rw [if_neg b0, if_pos e]
theorem fo2 {w : Str} (b0 : ¬ (inV (.str w) [.str "BadRoot", .str "BadCount", .str "NotLinked"] = true)) (b1 : ¬ (inV (.str w) [.str "BadLength", .str "BadRow", .str "BadStep", .str "BadText", .str "BadDeed"] = true)) (e : inV (.str w) [.str "BadName", .str "Taken"] = true) : fieldOf w = some ("name" : Str) := by unfold fieldOf; rw [if_neg b0, if_neg b1, if_pos e]
theorem fo3 {w : Str} (b0 : ¬ (inV (.str w) [.str "BadRoot", .str "BadCount", .str "NotLinked"] = true)) (b1 : ¬ (inV (.str w) [.str "BadLength", .str "BadRow", .str "BadStep", .str "BadText", .str "BadDeed"] = true)) (b2 : ¬ (inV (.str w) [.str "BadName", .str "Taken"] = true)) (e : inV (.str w) [.str "TooGreat", .str "Full"] = true) : fieldOf w = some ("most" : Str) := by unfold fieldOf; rw [if_neg b0, if_neg b1, if_neg b2, if_pos e]
theorem fo4 {w : Str} (b0 : ¬ (inV (.str w) [.str "BadRoot", .str "BadCount", .str "NotLinked"] = true)) (b1 : ¬ (inV (.str w) [.str "BadLength", .str "BadRow", .str "BadStep", .str "BadText", .str "BadDeed"] = true)) (b2 : ¬ (inV (.str w) [.str "BadName", .str "Taken"] = true)) (b3 : ¬ (inV (.str w) [.str "TooGreat", .str "Full"] = true)) (e : decide (V.str w = .str "NoSquares") = true) : fieldOf w = some ("reason" : Str) := by unfold fieldOf; rw [if_neg b0, if_neg b1, if_neg b2, if_neg b3, if_pos e]
theorem fo5 {w : Str} (b0 : ¬ (inV (.str w) [.str "BadRoot", .str "BadCount", .str "NotLinked"] = true)) (b1 : ¬ (inV (.str w) [.str "BadLength", .str "BadRow", .str "BadStep", .str "BadText", .str "BadDeed"] = true)) (b2 : ¬ (inV (.str w) [.str "BadName", .str "Taken"] = true)) (b3 : ¬ (inV (.str w) [.str "TooGreat", .str "Full"] = true)) (b4 : ¬ (decide (V.str w = .str "NoSquares") = true)) : fieldOf w = none := by unfold fieldOf; rw [if_neg b0, if_neg b1, if_neg b2, if_neg b3, if_neg b4]
def fieldVal (w : Str) (fs : List (Str × V)) : Option V := match fieldOf w with
  | some f => fs.lookup f
  | none => some .non
section
variable {base : Heap} {K : PySem.W.Frag} {mg : Str → Option Value} {P : Program} {w : World}
def spFld (K : PySem.W.Frag) : Addr → Value → Option Addr → Sp := fun a cls d vs H Q _ => ∃ (wd : Str) (fs : List (Str × V)) (v : V), vs = [.ref a] ∧ ErrIs K H cls d wd fs ∧ fieldVal wd fs = some v ∧ ∀ H', Same H H' → Q v H'
theorem ok_field_of (T : Txt K mg) : FnP P w K mg base 1 T.f_field_of T.d_field_of ["_law_e"] (spFld K) := by
  refine fn_ofP T.F_field_of sc_field_of (fun a cls d vs H Q E h => ?_) (fun cdv A outer s H vs Q E p cls d zc dat hr h => ?_)
  · obtain ⟨wd, fs, v, rfl, _⟩ := h
    rfl
  · obtain ⟨wd, fs, v, rfl, E0, hv, q⟩ := h
    refine ⟨_, (pss_cons (ps_if (pt_cmpR op_in_seq (pe_xfG (a := p.1) (oe := p.2) (cls := cls) (d := d) List.mem_cons_self zc dat (pv 0)) (pe_tup (pa_cons pe_str (pa_cons pe_str (pa_cons pe_str pa_nil)))) (by rfl)) (pss_one (ps_ret (pe_xfG (a := p.1) (oe := p.2) (cls := cls) (d := d) List.mem_cons_self zc dat (pv 0)))) pss_nil)
      (pss_cons (ps_if (pt_cmpR op_in_seq (pe_xfG (a := p.1) (oe := p.2) (cls := cls) (d := d) List.mem_cons_self zc dat (pv 0)) (pe_tup (pa_cons pe_str (pa_cons pe_str (pa_cons pe_str (pa_cons pe_str (pa_cons pe_str pa_nil)))))) (by rfl)) (pss_one (ps_ret (pe_xfG (a := p.1) (oe := p.2) (cls := cls) (d := d) List.mem_cons_self zc dat (pv 0)))) pss_nil)
      (pss_cons (ps_if (pt_cmpR op_in_seq (pe_xfG (a := p.1) (oe := p.2) (cls := cls) (d := d) List.mem_cons_self zc dat (pv 0)) (pe_tup (pa_cons pe_str (pa_cons pe_str pa_nil))) (by rfl)) (pss_one (ps_ret (pe_xfG (a := p.1) (oe := p.2) (cls := cls) (d := d) List.mem_cons_self zc dat (pv 0)))) pss_nil)
      (pss_cons (ps_if (pt_cmpR op_in_seq (pe_xfG (a := p.1) (oe := p.2) (cls := cls) (d := d) List.mem_cons_self zc dat (pv 0)) (pe_tup (pa_cons pe_str (pa_cons pe_str pa_nil))) (by rfl)) (pss_one (ps_ret (pe_xfG (a := p.1) (oe := p.2) (cls := cls) (d := d) List.mem_cons_self zc dat (pv 0)))) pss_nil)
      (pss_one (ps_ret (pe_ifExp (pt_cmpR op_eq (pe_xfG (a := p.1) (oe := p.2) (cls := cls) (d := d) List.mem_cons_self zc dat (pv 0)) pe_str (nomark _)) (pe_xfG (a := p.1) (oe := p.2) (cls := cls) (d := d) List.mem_cons_self zc dat (pv 0)) pe_non))))))), ?_⟩
    have fv : ∀ {f : Str}, fieldOf wd = some f → fs.lookup f = some v := fun {f} e => by
      unfold fieldVal at hv
      rw [e] at hv
      exact hv
    refine ⟨_, rfl, E0.read E0.wd ?_⟩
    refine ⟨by show 3 ≤ sizeLine; decide, fun t0 n0 => ?_⟩
    have S1 := same_new (o := .tup [.str "BadRoot", .str "BadCount", .str "NotLinked"]) n0
    have E1 := E0.same S1
    refine ⟨t0, _, rfl, .inr (SqT.of upd_same), rfl, rfl, _, rfl, ite2 (fun e => ?_) (fun b0 => ?_)⟩
    · exact ⟨_, rfl, E1.read (fv (fo0  e)) (q _ S1)⟩
    refine ⟨_, rfl, E1.read E1.wd ?_⟩
    refine ⟨by show 5 ≤ sizeLine; decide, fun t1 n1 => ?_⟩
    have S2 := S1.trans (same_new (o := .tup [.str "BadLength", .str "BadRow", .str "BadStep", .str "BadText", .str "BadDeed"]) n1)
    have E2 := E0.same S2
    refine ⟨t1, _, rfl, .inr (SqT.of upd_same), rfl, rfl, _, rfl, ite2 (fun e => ?_) (fun b1 => ?_)⟩
    · exact ⟨_, rfl, E2.read (fv (fo1 b0 e)) (q _ S2)⟩
    refine ⟨_, rfl, E2.read E2.wd ?_⟩
    refine ⟨by show 2 ≤ sizeLine; decide, fun t2 n2 => ?_⟩
    have S3 := S2.trans (same_new (o := .tup [.str "BadName", .str "Taken"]) n2)
    have E3 := E0.same S3
    refine ⟨t2, _, rfl, .inr (SqT.of upd_same), rfl, rfl, _, rfl, ite2 (fun e => ?_) (fun b2 => ?_)⟩
    · exact ⟨_, rfl, E3.read (fv (fo2 b0 b1 e)) (q _ S3)⟩
    refine ⟨_, rfl, E3.read E3.wd ?_⟩
    refine ⟨by show 2 ≤ sizeLine; decide, fun t3 n3 => ?_⟩
    have S4 := S3.trans (same_new (o := .tup [.str "TooGreat", .str "Full"]) n3)
    have E4 := E0.same S4
    refine ⟨t3, _, rfl, .inr (SqT.of upd_same), rfl, rfl, _, rfl, ite2 (fun e => ?_) (fun b3 => ?_)⟩
    · exact ⟨_, rfl, E4.read (fv (fo3 b0 b1 b2 e)) (q _ S4)⟩
    refine ⟨_, rfl, E4.read E4.wd ?_⟩
    refine ⟨rfl, _, rfl, ite2 (fun e => ?_) (fun b4 => ?_)⟩
    · exact ⟨_, rfl, E4.read (fv (fo4 b0 b1 b2 b3 e)) (q _ S4)⟩
    · have e : fieldOf wd = none := fo5 b0 b1 b2 b3 b4
      have ev : v = .non := by
        unfold fieldVal at hv
        rw [e] at hv
        exact (Option.some.inj hv).symm
      rw [ev] at q
      exact q _ S4
end
/-! ### the def that asks, and tells what was raised -/
section
variable {K : PySem.W.Frag} {mg : Str → Option Value}
/-- what is told of an answer, of an error of the first, of the second, of the third kind -/
def Told (Q : VK) (w : Str) (v : V) (H : Hp) : Prop := ∀ H' p, Same H H' → H' p = some (.tup [.str w, v]) → Q (.ref p) H'
def Raised (K : PySem.W.Frag) (G : Addr) (Q : VK) : XK := fun cls d H => PySem.W.exmOne K cls (.ref G) = some true ∧ ∃ (w : Str) (fs : List (Str × V)) (v : V), ErrIs K H cls d w fs ∧ fieldVal w fs = some v ∧ Told Q w v H
def TTry (K : PySem.W.Frag) (G : Addr) : (XK → Hp → VK → Prop) → Hp → VK → Prop := fun tl H Q => tl (Raised K G Q) H fun v H1 => [V.str "told", v].length ≤ sizeLine ∧ ∀ p, H1 p = none → Q (.ref p) (upd H1 p (.tup [.str "told", v]))
end
section
variable {base : Heap} {K : PySem.W.Frag} {mg : Str → Option Value} {w : World}
theorem try_gives {X : Cx} (T : Txt K mg) (hP : X.K = K) (hm : X.mg = mg) {k : Nat} (hr : Room (k + 3) X.A) {cdg : Value} {q : Str} :
    LamX.GivesTo X ["_law_ask", "_law_e"] "_law_try" (defScope s_try) T.f_try cdg (defBody s_try) "_law_ask" q (TTry K T.r_GrainError) := by
  subst hP
  subst hm
  intro f c' s H Q tl act hc h
  have hr2 : Room (k + 2) (X.A.deeper (envOfC "_law_try" (defScope s_try) s.heap.objs.size T.f_try cdg)) := hr.deeper _
  refine ⟨_, pss_one (ps_tryAs (X := (cxOf CX0 X.prog X.w X.K X.mg X.base ["_law_ask", "_law_e"] "_law_try" (defScope s_try) T.f_try cdg X.A X.stack s H E0).nox) (i := 1)
      (tb := fun W D σ H => ∃ Ech : XK, (∀ cls d σ' H', Ech cls d H' → W cls d σ' H') ∧ σ[0]? = some (some (.ref f)) ∧ H c' = some (LamX.CodeO c' q) ∧ tl Ech H fun v H1 => [V.str "told", v].length ≤ sizeLine ∧ ∀ p, H1 p = none → D.rt (.ref p) (upd H1 p (.tup [.str "told", v])))
      rfl rfl sc_try.nd rfl rfl (fun W pn xe tk _ => ?_)
      (.cons (c := .ref T.r_GrainError) (ts := fun a cls d => tRet (tTup (tCons (tXfA X.K a cls d "word" (tVar 1)) (tCons (fun σ H Q => tCons (tVar 1) tNil σ H fun vs H1 => spFld X.K a cls d vs H1 Q E0) tNil)))) ⟨by rfl, by decide, .inl T.g_GrainError⟩ (fun a oe cls d pn zc dat => pss_one (ps_ret (pe_tup (pa_cons (pe_xfG (a := a) (oe := oe) (cls := cls) (d := d) List.mem_cons_self zc dat (pv 1)) (pa_cons (pe_callP (a := a) (oe := oe) (cls := cls) (d := d) List.mem_cons_self zc dat (ok_field_of T) ?_ (by rfl) T.g_field_of T.F_field_of.kp T.b_field_of (pa_cons (pv 1) pa_nil)) pa_nil)))))
      (.cons (c := .ref T.r_GrainMissing) (ts := fun a cls d => tRet (tTup (tCons (tXfA X.K a cls d "word" (tVar 1)) (tCons (tIf (tTest (tOp rEq (tXfA X.K a cls d "word" (tVar 1)) (tC (.str "NoSheet")))) (tXfA X.K a cls d "sheet" (tVar 1)) (tXfA X.K a cls d "name" (tVar 1))) tNil)))) ⟨by rfl, by decide, .inl T.g_GrainMissing⟩ (fun a oe cls d pn zc dat => pss_one (ps_ret (pe_tup (pa_cons (pe_xfG (a := a) (oe := oe) (cls := cls) (d := d) List.mem_cons_self zc dat (pv 1)) (pa_cons (pe_ifExp (pt_cmpR op_eq (pe_xfG (a := a) (oe := oe) (cls := cls) (d := d) List.mem_cons_self zc dat (pv 1)) pe_str (nomark _)) (pe_xfG (a := a) (oe := oe) (cls := cls) (d := d) List.mem_cons_self zc dat (pv 1)) (pe_xfG (a := a) (oe := oe) (cls := cls) (d := d) List.mem_cons_self zc dat (pv 1))) pa_nil)))))
      (.cons (c := .ref T.e_NothingLeft.C) (ts := fun a cls d => tRet (tTup (tCons (tXfA X.K a cls d "word" (tVar 1)) (tCons (tC .non) tNil)))) ⟨by rfl, by decide, .inl T.e_NothingLeft.g⟩ (fun a oe cls d pn zc dat => pss_one (ps_ret (pe_tup (pa_cons (pe_xfG (a := a) (oe := oe) (cls := cls) (d := d) List.mem_cons_self zc dat (pv 1)) (pa_cons pe_non pa_nil))))) .nil)))), ?_⟩
  · constructor
    intro pins s' σ H' D I h'
    obtain ⟨Ech, hW, h1, h2, h3⟩ := h'
    have asked := fun p1 p2 => act W pn xe Ech p1 p2 tk hW
    exact (pss_one (ps_ret (pe_tup (pa_cons pe_str (pa_cons (asked _ _) pa_nil))))).run pins s' σ H' D I ⟨h1, h2, h3⟩
  · exact ⟨by have := hr.dp; show X.A.depth + 1 + 3 * 1 + 5 < _; omega, by have := hr.un; show X.A.units + 3 + 16 * 1 + 200 < _; omega⟩
  · refine ⟨Raised X.K T.r_GrainError Q, fun cls d σ' H' hR => ?_, rfl, hc, h⟩
    obtain ⟨em, wd, fs, v, er, fv, q1⟩ := hR
    refine ⟨true, em, fun _ a na hl => ?_, fun z => nomatch z⟩
    have at1 : (σ'.set 1 (some (V.ref a)))[1]? = some (some (V.ref a)) := by
      rw [List.getElem?_set_self hl]
    refine ⟨_, at1, er.read er.wd ?_⟩
    refine ⟨_, at1, wd, fs, v, rfl, er, fv, fun H2 s2 => ⟨by show 2 ≤ sizeLine; decide, fun p hp => q1 _ p (s2.trans (same_new hp)) upd_same⟩⟩
end
/-! ### calls of a def with a star parameter -/
section
variable {X : Cx}
theorem pe_callR {CX : CXT} {k : Nat} {f : Addr} {sp : Sp} {E : XK} {x : Str} {p pos : Pos} {e : Expr} {es : List Expr} {t : TA}
    (F : FnR X.prog X.w X.K X.mg X.base CX k f sp) (hr : Room k X.A) (hg : Gl X x) (hm : X.mg x = some (.ref f)) (hk : PySem.W.keepIn X.K (.ref f) = true) (hx : Passes CX X E) (ha : PA X (e :: es) t)
    (hdb : (x == ("__debug__" : Str)) = false := by decide) (he : starEach (e :: es) X.env = (false, eval e X.env) :: starEach es X.env := by rfl)
    (hpl : (backTo pos (starEach es X.env)).any (·.1) = false := by rfl) :
    PE X (.Call (.Name x p) (e :: es) [] pos) (fun σ H Q => t σ H fun vs H1 => sp vs H1 Q E) :=
  ⟨fun pins s σ H Q I h => wpAny_Call_Name_kw (ld_glob I hg hm (PySem.W.callWith_K (h₀ := X.base) I.ok.mod.kin hk
    (thn (ha.run pos pins s σ H _ I h) fun us s1 ⟨vs, H1, I1, r, q⟩ => ⟨I1.kIn, wpAny_call (run_fnR F hr hx I1 r q)⟩) he hpl) hdb)⟩
theorem pe_callR0 {CX : CXT} {k : Nat} {f : Addr} {sp : Sp} {E : XK} {x : Str} {p pos : Pos}
    (F : FnR X.prog X.w X.K X.mg X.base CX k f sp) (hr : Room k X.A) (hg : Gl X x) (hm : X.mg x = some (.ref f)) (hk : PySem.W.keepIn X.K (.ref f) = true) (hx : Passes CX X E)
    (hdb : (x == ("__debug__" : Str)) = false := by decide) : PE X (.Call (.Name x p) [] [] pos) (fun _ H Q => sp [] H Q E) :=
  ⟨fun pins s σ H Q I h => wpAny_Call_Name_kw (ld_glob I hg hm (PySem.W.callWith_K0 I.kIn hk (wpAny_call (run_fnR (us := []) F hr hx I .nil h))) hdb)⟩
end
/-! ### lists of ints that comprehensions make -/
def Pt (H : Hp) (D : Addr) (ns : List Int) (i : Nat) (H' : Hp) : Prop := Same H H' ∧ H' D = some (.lst ((ns.take i).map V.int))
theorem pt_step {H H' : Hp} {D : Addr} {ns : List Int} {i : Nat} {z : Int} (h : Pt H D ns i H') (hD : H D = none) (hz : ns[i]? = some z) : Pt H D ns (i + 1) (upd H' D (.lst ((ns.take i).map V.int ++ [.int z]))) := by
  refine ⟨fun a o e => (upd_ne (ne_of_none e hD)).trans (h.1 a o e), ?_⟩
  rw [upd_same, List.take_add_one, hz, List.map_append]
  rfl
theorem pt_size {ns : List Int} {i : Nat} (h : ns.length ≤ 1000) : ((ns.take i).map V.int).length < sizeLine := by
  rw [List.length_map, List.length_take]
  exact small1000 (by omega)
theorem pt_end {H H' : Hp} {D : Addr} {ns : List Int} {i : Nat} (h : Pt H D ns i H') (hi : ns.length ≤ i) : Same H H' ∧ H' D = some (.lst (ns.map V.int)) := by
  have := h.2
  rw [List.take_of_length_le hi] at this
  exact ⟨h.1, this⟩
/-! ### pairs -/
def PairAt (K : PySem.W.Frag) (H : Hp) (v : V) (x y : Int) : Prop := ∃ t : Addr, v = .ref t ∧ SqT K H t [.int x, .int y]
theorem PairAt.same {K : PySem.W.Frag} {H H' : Hp} {v : V} {x y : Int} (h : PairAt K H v x y) (s : Same H H') : PairAt K H' v x y := by
  obtain ⟨t, e, h⟩ := h
  exact ⟨t, e, Evl.ex_t (show Evl.Ex H H' from s) h⟩
inductive PairsAt (K : PySem.W.Frag) (H : Hp) : List V → List (Int × Int) → Prop
  | nil : PairsAt K H [] []
  | cons {v : V} {vs : List V} {x y : Int} {ps : List (Int × Int)} : PairAt K H v x y → PairsAt K H vs ps → PairsAt K H (v :: vs) ((x, y) :: ps)
theorem PairsAt.get {K : PySem.W.Frag} {H : Hp} : ∀ {vs : List V} {ps : List (Int × Int)}, PairsAt K H vs ps → ∀ {i : Nat} {v : V}, vs[i]? = some v → ∃ x y, ps[i]? = some (x, y) ∧ PairAt K H v x y
  | _, _, .nil, i, v, h => by simp at h
  | _, _, .cons p t, 0, v, h => by cases h; exact ⟨_, _, rfl, p⟩
  | _, _, .cons p t, i + 1, v, h => t.get (i := i) (by simpa using h)
theorem PairsAt.same {K : PySem.W.Frag} {H H' : Hp} (s : Same H H') : ∀ {vs : List V} {ps : List (Int × Int)}, PairsAt K H vs ps → PairsAt K H' vs ps
  | _, _, .nil => .nil
  | _, _, .cons p t => .cons (p.same s) (t.same s)
theorem PairsAt.len {K : PySem.W.Frag} {H : Hp} : ∀ {vs : List V} {ps : List (Int × Int)}, PairsAt K H vs ps → vs.length = ps.length
  | _, _, .nil => rfl
  | _, _, .cons p t => congrArg Nat.succ t.len
def s1 (ps : List (Int × Int)) : Int := (ps.map (·.1)).sum
def s2 (ps : List (Int × Int)) : Int := (ps.map (·.2)).sum
/-- a new pair -/
def NewPair (H : Hp) (x y : Int) (Q : VK) : Prop := ∀ p H', H p = none → Same H H' → H' p = some (.tup [.int x, .int y]) → Q (.ref p) H'
/-! ### tuples stay -/
theorem tup_keep {H H' : Hp} {b sb : Addr} (B : Bag H b sb) (k : Keep b H H') (p : Addr) (xs : List V) (h : H p = some (.tup xs)) : H' p = some (.tup xs) := k _ _ (B.tup h) h
theorem tup_put {H : Hp} {l : Addr} {ys zs : List V} (hl : H l = some (.lst ys)) (p : Addr) (xs : List V) (h : H p = some (.tup xs)) : (upd H l (.lst zs)) p = some (.tup xs) := (upd_ne (ne_of h hl (by intro z; cases z))).trans h
theorem tup_same {H H' : Hp} (s : Same H H') (p : Addr) (xs : List V) (h : H p = some (.tup xs)) : H' p = some (.tup xs) := s _ _ h
/-! ### alike, from its parts -/
/-! ### the sign by squares -/
def ab (i : Int) : Int := if i < 0 then -i else i
def vl (a b d : Int) : Int := a * ab a + d * b * ab b
def sgnI (x : Int) : Int := (if decide (0 < x) = true then 1 else 0) - (if decide (x < 0) = true then 1 else 0)
theorem sgnI_pos {x : Int} (h : 0 < x) : sgnI x = 1 := by
  unfold sgnI
  rw [if_pos (decide_eq_true h), if_neg (by simp; omega)]
  rfl
theorem sgnI_neg {x : Int} (h : x < 0) : sgnI x = -1 := by
  unfold sgnI
  rw [if_neg (by simp; omega), if_pos (decide_eq_true h)]
  rfl
theorem sgnI_zero : sgnI 0 = 0 := by decide
theorem ab_abs (i : Int) : (ab i).natAbs = i.natAbs := by
  unfold ab
  split <;> omega
theorem ab_neg {i : Int} (h : i < 0) : ab i = -i := if_pos h
theorem ab_nn {i : Int} (h : 0 ≤ i) : ab i = i := if_neg (by omega)
section
variable {base : Heap} {K : PySem.W.Frag} {mg : Str → Option Value} {P : Program} {w : World}
def spSign (K : PySem.W.Frag) : Sp := fun vs H Q _ => ∃ (t : Addr) (d a b : Int), vs = [.ref t, .int d] ∧ SqT K H t [.int a, .int b] ∧ d.natAbs < 2 ^ 64 ∧ a.natAbs < 2 ^ 9000 ∧ b.natAbs < 2 ^ 9000 ∧ Q (.int (sgnI (vl a b d))) H
theorem ok_lsign (T : Txt K mg) : FnOk P w K mg base CX0 1 T.f_lsign T.d_lsign ["_law_pair", "_law_root"] (spSign K) := by
  refine T.F_lsign.ok sc_lsign (fun vs H Q E h => ?_) (fun cdv A outer s H vs Q E hr h => ?_)
  · obtain ⟨t, d, a, b, rfl, _⟩ := h
    rfl
  · obtain ⟨t, d, a, b, rfl, hT, d1, a1, b1, q⟩ := h
    refine ⟨_, (pss_cons (ps_set (i := 2) sc_lsign.nd rfl (Or.inl rfl) (pe_op op_add (pe_op op_mulW (pe_ix ix_tup (pv 0) pe_int (fun _ _ => rfl)) (pe_callB call_abs (by rfl) T.n_abs (by decide +kernel) (pa_cons (pe_ix ix_tup (pv 0) pe_int (fun _ _ => rfl)) pa_nil))) (pe_op op_mulW (pe_op op_mulW (pv 1) (pe_ix ix_tup (pv 0) pe_int (fun _ _ => rfl))) (pe_callB call_abs (by rfl) T.n_abs (by decide +kernel) (pa_cons (pe_ix ix_tup (pv 0) pe_int (fun _ _ => rfl)) pa_nil)))))
      (pss_one (ps_ret (pe_op op_sub (pe_callTy call_int1 (by rfl) T.n_int (by decide +kernel) (pa_cons (pe_cmpR op_gt (pv 2) pe_int (nomark _)) pa_nil)) (pe_callTy call_int1 (by rfl) T.n_int (by decide +kernel) (pa_cons (pe_cmpR op_lt (pv 2) pe_int (nomark _)) pa_nil)))))), ?_⟩
    have a2 : (ab a).natAbs < 2 ^ 9000 := by rw [ab_abs]; exact a1
    have b2 : (ab b).natAbs < 2 ^ 9000 := by rw [ab_abs]; exact b1
    have m1 : (d * b).natAbs < 2 ^ (64 + 9000) := wide_lt d1 b1
    refine ⟨_, rfl, t, _, 0, .int a, rfl, rfl, hT, atI_nat (j := 0) rfl, _, rfl, t, _, 0, .int a, rfl, rfl, hT, atI_nat (j := 0) rfl, a, rfl, a, _, rfl, rfl, wide_mul a1 a2 (by decide) (by decide) (by decide),
      _, rfl, _, rfl, t, _, 1, .int b, rfl, rfl, hT, atI_nat (j := 1) rfl, d, b, rfl, rfl, wide_mul d1 b1 (by decide) (by decide) (by decide), _, rfl, t, _, 1, .int b, rfl, rfl, hT, atI_nat (j := 1) rfl, b, rfl, _, _, rfl, rfl, wide_mul m1 b2 (by decide) (by decide) (by decide), _, _, rfl, rfl, ?_⟩
    exact ⟨_, rfl, vl a b d, 0, rfl, rfl, .inr ⟨_, rfl, _, rfl, vl a b d, 0, rfl, rfl, .inr ⟨_, rfl, _, _, rfl, rfl, q⟩⟩⟩
end
/-! ### sign, compare, is_length -/
section
variable {base : Heap} {K : PySem.W.Frag} {mg : Str → Option Value} {P : Program} {w : World}
def spPSign (K : PySem.W.Frag) : Sp := fun vs H Q _ => ∃ (v : V) (d a b : Int), vs = [v, .int d] ∧ PairAt K H v a b ∧ d.natAbs < 2 ^ 64 ∧ a.natAbs < 2 ^ 9000 ∧ b.natAbs < 2 ^ 9000 ∧ Q (.int (sgnI (vl a b d))) H
theorem ok_sign (T : Txt K mg) : FnOk P w K mg base CX0 1 T.f_sign T.d_sign ["pair", "root"] (spPSign K) := by
  refine T.F_sign.ok sc_sign (fun vs H Q E h => ?_) (fun cdv A outer s H vs Q E hr h => ?_)
  · obtain ⟨t, d, a, b, rfl, _⟩ := h
    rfl
  · obtain ⟨v, d, a, b, rfl, ⟨t, rfl, hT⟩, d1, a1, b1, q⟩ := h
    refine ⟨_, (pss_cons (ps_asg (pv 0) (pg_tup (by rfl) (pgs_cons (pg_name (i := 3) sc_sign.nd rfl (Or.inl rfl)) (pgs_cons (pg_name (i := 4) sc_sign.nd rfl (Or.inl rfl)) pgs_nil))))
      (pss_cons (ps_set (i := 2) sc_sign.nd rfl (Or.inl rfl) (pe_op op_add (pe_op op_mulW (pv 3) (pe_callB call_abs (by rfl) T.n_abs (by decide +kernel) (pa_cons (pv 3) pa_nil))) (pe_op op_mulW (pe_op op_mulW (pv 1) (pv 4)) (pe_callB call_abs (by rfl) T.n_abs (by decide +kernel) (pa_cons (pv 4) pa_nil)))))
      (pss_cons (ps_if (pt_cmpR op_gt (pv 2) pe_int (nomark _)) (pss_one (ps_ret pe_int)) pss_nil)
      (pss_cons (ps_if (pt_cmpR op_lt (pv 2) pe_int (nomark _)) (pss_one (ps_ret (pe_un un_neg pe_int))) pss_nil)
      (pss_one (ps_ret pe_int)))))), ?_⟩
    have a2 : (ab a).natAbs < 2 ^ 9000 := by rw [ab_abs]; exact a1
    have b2 : (ab b).natAbs < 2 ^ 9000 := by rw [ab_abs]; exact b1
    have m1 : (d * b).natAbs < 2 ^ (64 + 9000) := wide_lt d1 b1
    refine ⟨_, rfl, t, _, rfl, hT, rfl, .int a, [.int b], rfl, .int b, [], rfl, rfl, ?_⟩
    refine ⟨_, rfl, _, rfl, a, rfl, a, _, rfl, rfl, wide_mul a1 a2 (by decide) (by decide) (by decide),
      _, rfl, _, rfl, d, b, rfl, rfl, wide_mul d1 b1 (by decide) (by decide) (by decide), _, rfl, b, rfl, _, _, rfl, rfl, wide_mul m1 b2 (by decide) (by decide) (by decide), _, _, rfl, rfl, ?_⟩
    refine ⟨_, rfl, vl a b d, 0, rfl, rfl, _, rfl, ite2 (fun e => ?_) (fun e => ?_)⟩
    · rw [sgnI_pos (of_decide_eq_true e)] at q
      exact q
    · have e1 : ¬ 0 < vl a b d := fun z => e (decide_eq_true z)
      refine ⟨_, rfl, vl a b d, 0, rfl, rfl, _, rfl, ite2 (fun e => ?_) (fun e => ?_)⟩
      · rw [sgnI_neg (of_decide_eq_true e)] at q
        exact ⟨1, rfl, q⟩
      · have e2 : ¬ vl a b d < 0 := fun z => e (decide_eq_true z)
        rw [show vl a b d = 0 by omega, sgnI_zero] at q
        exact q
end
section
variable {base : Heap} {K : PySem.W.Frag} {mg : Str → Option Value} {P : Program} {w : World}
def spIsLen (K : PySem.W.Frag) : Sp := fun vs H Q _ => ∃ (v : V) (d a b : Int), vs = [v, .int d] ∧ PairAt K H v a b ∧ d.natAbs < 2 ^ 64 ∧ a.natAbs < 2 ^ 9000 ∧ b.natAbs < 2 ^ 9000 ∧ Q (.bl (decide (0 < sgnI (vl a b d)))) H
theorem ok_is_length (T : Txt K mg) : FnOk P w K mg base CX0 2 T.f_is_length T.d_is_length ["pair", "root"] (spIsLen K) := by
  refine T.F_is_length.ok sc_is_length (fun vs H Q E h => ?_) (fun cdv A outer s H vs Q E hr h => ?_)
  · obtain ⟨v, d, a, b, rfl, _⟩ := h
    rfl
  · obtain ⟨v, d, a, b, rfl, h1, d1, a1, b1, q⟩ := h
    refine ⟨_, (pss_one (ps_ret (pe_cmpR op_gt (pe_call (ok_sign T) (hr.mono (by decide)) (by rfl) T.g_sign T.F_sign.kp T.b_sign .nil pass0 (pa_cons (pv 0) (pa_cons (pv 1) pa_nil))) pe_int (nomark _)))), ?_⟩
    exact ⟨_, rfl, _, rfl, v, d, a, b, rfl, h1, d1, a1, b1, _, 0, rfl, rfl, q⟩
end
/-! ### whole_root, floor_of -/
theorem bits_up {n : Int} (h : 0 ≤ n) : n < 2 ^ (Builtin.Int.intBits n) := by
  obtain ⟨m, rfl⟩ := Int.eq_ofNat_of_zero_le h
  have h1 : (m : Int).natAbs = m := rfl
  have h2 : m < 2 ^ (Builtin.Int.intBits (m : Int)) := by
    unfold Builtin.Int.intBits
    rw [h1]
    split
    · rename_i z
      have z' : m = 0 := by
        first
          | exact z
          | (have := z; simp at this; omega)
      subst z'
      decide
    · exact Nat.lt_log2_self
  have h3 : ((m : Nat) : Int) < ((2 ^ (Builtin.Int.intBits (m : Int)) : Nat) : Int) := by exact_mod_cast h2
  rw [Int.natCast_pow] at h3
  exact h3
theorem bits_le {n : Int} {k : Nat} (hk : 0 < k) (h : n.natAbs < 2 ^ k) : Builtin.Int.intBits n ≤ k := by
  have := PySem.Flt.log2_lt_of hk h
  unfold Builtin.Int.intBits
  split
  · omega
  · omega
theorem guess_up {n : Int} {k : Nat} (h : 0 ≤ n) (hk : Builtin.Int.intBits n ≤ 2 * k) : n < (1 * 2 ^ k + 1) * (1 * 2 ^ k + 1) := by
  have h1 := bits_up h
  have h2 : (2 : Int) ^ (Builtin.Int.intBits n) ≤ 2 ^ (2 * k) := by
    have : 2 ^ (Builtin.Int.intBits n) ≤ 2 ^ (2 * k) := Nat.pow_le_pow_right (by decide) hk
    exact_mod_cast this
  have h3 : (2 : Int) ^ (2 * k) = 2 ^ k * 2 ^ k := by
    rw [Nat.two_mul, Int.pow_add]
  have h4 : (0 : Int) ≤ 2 ^ k := by
    have : 0 ≤ (2 ^ k : Nat) := Nat.zero_le _
    exact_mod_cast this
  rw [h3] at h2
  generalize (2 : Int) ^ k = x at h2 h4 ⊢
  grind
section
variable {base : Heap} {K : PySem.W.Frag} {mg : Str → Option Value} {P : Program} {w : World}
def spWhole : Sp := fun vs H Q _ => ∃ n : Int, vs = [.int n] ∧ 0 ≤ n ∧ n.natAbs < 2 ^ 8000 ∧ ∀ g : Int, 0 ≤ g → g * g ≤ n → n < (g + 1) * (g + 1) → Q (.int g) H
def WRoot (n : Int) (H : Hp) (m : Nat) (σ : L2.St) (H' : Hp) : Prop := ∃ g : Int, σ = [some (.int n), some (.int g)] ∧ H' = H ∧ 0 ≤ g ∧ g.natAbs < 2 ^ 4002 ∧ n < (g + 1) * (g + 1) ∧ m = g.toNat
theorem ok_whole_root (T : Txt K mg) : FnOk P w K mg base CX0 1 T.f_whole_root T.d_whole_root ["number"] spWhole := by
  refine T.F_whole_root.ok sc_whole_root (fun vs H Q E h => ?_) (fun cdv A outer s H vs Q E hr h => ?_)
  · obtain ⟨n, rfl, _⟩ := h
    rfl
  · obtain ⟨n, rfl, n0, n1, q⟩ := h
    refine ⟨_, (pss_cons (ps_set (i := 1) sc_whole_root.nd rfl (Or.inl rfl) (pe_op op_shl pe_int (pe_op op_fdiv (pe_op op_add (pe_bits (pv 0)) pe_int) pe_int)))
      (pss_cons (ps_while PassesOwn.never (pt_cmpR op_gt (pe_op op_mulW (pv 1) (pv 1)) (pv 0) (nomark _)) (pss_one (ps_set (i := 1) sc_whole_root.nd rfl (Or.inl rfl) (pe_op op_fdiv (pe_op op_add (pv 1) (pe_op op_fdivW (pv 0) (pv 1))) pe_int))))
      (pss_one (ps_ret (pv 1))))), ?_⟩
    have hb := bits_le (by decide) n1
    have e1 : (((Builtin.Int.intBits n : Nat) : Int) + 1) / 2 = (((Builtin.Int.intBits n + 1) / 2 : Nat) : Int) := by omega
    have e2 : ((((Builtin.Int.intBits n : Nat) : Int) + 1) / 2).toNat = (Builtin.Int.intBits n + 1) / 2 := by rw [e1]; rfl
    refine ⟨_, rfl, n, rfl, _, 1, rfl, rfl, _, 2, rfl, rfl, ⟨by decide, by decide⟩, 1, _, rfl, rfl, ⟨by omega, by omega, by decide⟩, ?_⟩
    dsimp only
    rw [e2]
    refine ⟨WRoot n H, ⟨_, (1 * 2 ^ ((Builtin.Int.intBits n + 1) / 2)), rfl, rfl, ?_, ?_, guess_up n0 (by omega), rfl⟩, ?_⟩
    · have : 0 ≤ (2 ^ ((Builtin.Int.intBits n + 1) / 2) : Nat) := Nat.zero_le _
      have z : (0 : Int) ≤ 2 ^ ((Builtin.Int.intBits n + 1) / 2) := by exact_mod_cast this
      omega
    · rw [Int.one_mul, Int.natAbs_pow]
      exact Nat.pow_lt_pow_right (by decide) (by omega)
    · rintro m σ H' ⟨g, rfl, rfl, g0, g1, g2, rfl⟩
      refine ⟨_, rfl, _, rfl, g, g, rfl, rfl, wide_mul g1 g1 (by decide) (by decide) (by decide), _, rfl, _, n, rfl, rfl, _, rfl, ite2 (fun e => ?_) (fun e => ?_)⟩
      · have e' : n < g * g := of_decide_eq_true e
        have gp : 0 < g := by
          rcases Int.lt_or_le 0 g with z | z
          · exact z
          · have : g = 0 := by omega
            rw [this] at e'
            omega
        refine ⟨fun σ' H'' => ∃ m', m' < g.toNat ∧ WRoot n H' m' σ' H'', fun _ _ z => z, ?_⟩
        have d1 := newton_dn gp e'
        have d2 := newton_nn gp n0
        refine ⟨_, rfl, _, rfl, _, rfl, n, g, rfl, rfl, wide_div gp g1 (by decide) (by decide), g, _, rfl, rfl, _, 2, rfl, rfl, ⟨by decide, by decide⟩, ?_⟩
        exact ⟨_, by omega, (g + n / g) / 2, rfl, rfl, d2, Nat.lt_of_le_of_lt (by omega) g1, newton_up gp n0, rfl⟩
      · have e' : ¬ n < g * g := fun z => e (decide_eq_true z)
        exact ⟨_, rfl, q g g0 (by omega) g2⟩
end
/-! ### is_root, check_root -/
def isRB (n : Int) : Bool := decide (2 ≤ n ∧ n ≤ 99) && okR n
theorem sq_dec : ∀ n : Nat, n < 100 → 2 ≤ n → ∀ g : Nat, g < 10 → g * g ≤ n → n < (g + 1) * (g + 1) → (!decide (g * g = n)) = okR (n : Int) := by decide +kernel
theorem isR_of {n g : Int} (h0 : 2 ≤ n) (h1 : n ≤ 99) (g0 : 0 ≤ g) (g1 : g * g ≤ n) (g2 : n < (g + 1) * (g + 1)) : (!decide (V.int (g * g) = V.int n)) = isRB n := by
  obtain ⟨m, rfl⟩ := Int.eq_ofNat_of_zero_le (show 0 ≤ n by omega)
  obtain ⟨k, rfl⟩ := Int.eq_ofNat_of_zero_le g0
  have hk : k < 10 := by
    rcases Nat.lt_or_ge k 10 with z | z
    · exact z
    · have := sq_le (show (0 : Int) ≤ 10 by decide) (show (10 : Int) ≤ (k : Int) by omega)
      omega
  have := sq_dec m (by omega) (by omega) k hk (by exact_mod_cast g1) (by exact_mod_cast g2)
  unfold isRB
  have e99 : decide (2 ≤ (m : Int) ∧ (m : Int) ≤ 99) = true := decide_eq_true ⟨h0, h1⟩
  rw [e99, Bool.true_and, ← this]
  congr 1
  by_cases z : k * k = m
  · rw [decide_eq_true z, decide_eq_true (by subst z; rw [Int.natCast_mul])]
  · rw [decide_eq_false z, decide_eq_false (fun e => z (by have := V.int.inj e; exact_mod_cast this))]
section
variable {base : Heap} {K : PySem.W.Frag} {mg : Str → Option Value} {w : World}
def spIsRoot : Sp := fun vs H Q _ => ∃ n : Int, vs = [.int n] ∧ Q (.bl (isRB n)) H
theorem ok_is_root {P : Program} (T : Txt K mg) : FnOk P w K mg base CX0 2 T.f_is_root T.d_is_root ["number"] spIsRoot := by
  refine T.F_is_root.ok sc_is_root (fun vs H Q E h => ?_) (fun cdv A outer s H vs Q E hr h => ?_)
  · obtain ⟨n, rfl, _⟩ := h
    rfl
  · obtain ⟨n, rfl, q⟩ := h
    refine ⟨_, (pss_cons (ps_if (PW.pt (pw_or (pt_cmpR op_lt (pv 0) pe_int (nomark _)) (pw_or1 (pt_cmpR op_gt (pv 0) pe_int (nomark _))))) (pss_one (ps_ret pe_bl)) pss_nil)
      (pss_cons (ps_set (i := 1) sc_is_root.nd rfl (Or.inl rfl) (pe_call (ok_whole_root T) (hr.mono (by decide)) (by rfl) T.g_whole_root T.F_whole_root.kp T.b_whole_root .nil pass0 (pa_cons (pv 0) pa_nil)))
      (pss_one (ps_ret (pe_cmpR op_ne (pe_op op_mulW (pv 1) (pv 1)) (pv 0) (nomark _)))))), ?_⟩
    refine ⟨_, rfl, n, 2, rfl, rfl, _, rfl, ite2 (fun e => ?_) (fun e => ?_)⟩
    · have : ¬ (2 ≤ n ∧ n ≤ 99) := by have := of_decide_eq_true e; omega
      unfold isRB at q
      rw [decide_eq_false this] at q
      exact q
    refine ⟨_, rfl, n, 99, rfl, rfl, _, rfl, ite2 (fun e2 => ?_) (fun e2 => ?_)⟩
    · have : ¬ (2 ≤ n ∧ n ≤ 99) := by have := of_decide_eq_true e2; omega
      unfold isRB at q
      rw [decide_eq_false this] at q
      exact q
    have h2 : 2 ≤ n := by
      have : ¬ n < 2 := fun z => e (decide_eq_true z)
      omega
    have h99 : n ≤ 99 := by
      have : ¬ n > 99 := fun z => e2 (decide_eq_true z)
      omega
    refine ⟨_, rfl, n, rfl, by omega, Nat.lt_of_le_of_lt (show n.natAbs ≤ 99 by omega) (Nat.lt_of_lt_of_le (show 99 < 2 ^ 7 by decide) (Nat.pow_le_pow_right (by decide) (by decide))), fun g g0 g1 g2 => ?_⟩
    have gb : g.natAbs < 2 ^ 7 := by
      have : g ≤ 99 := by
        rcases Int.lt_or_le 99 g with z | z
        · have := sq_le (show (0 : Int) ≤ 99 by decide) (Int.le_of_lt z)
          omega
        · exact z
      show g.natAbs < 128
      omega
    refine ⟨_, rfl, _, rfl, g, g, rfl, rfl, wide_mul gb gb (by decide) (by decide) (by decide), _, rfl, rfl, ?_⟩
    rw [isR_of h2 h99 g0 g1 g2]
    exact q
end
/-! ### what is asked of the def that asks -/
section
variable {X : Cx} {k : Nat} {c P0 : Addr} {params : Arguments} {body d : Expr} {v0 : V} {scope : Scope} {t : XK → TE} {p lpos pos : Pos} {b : Str}
theorem one_tab {P0 : Addr} {q : Str} : ∀ p ∈ [(P0, q)], p.1 = P0 → p.2 = q := by
  intro p hp _
  rw [List.mem_singleton.mp hp]
theorem pe_try (T : Txt X.K X.mg) (hg : Gl X "_law_try") (TB : LamX.TabB X.base X.mg c P0) (hcode : X.env.code = .ref c) (hr : Room (k + 3) X.A) (L : LamX.LamS X.env.scope scope) (hdef : defaultsOf params X.env = ([], []))
    (hbind : ∀ (q : Str) (cl : List (Str × Addr)) (pm cv ctv : Value), bindArgs (PySem.W.kla_fn "<lambda>" q params body scope cl pm cv ctv) ⟨[], []⟩ = pure [])
    (hbody : ∀ (A : Around) (outer : List Env) (s : Shared) (H : Hp) (E : XK) (f c' : Addr), Room (k + 1) (A.deeper (LamX.lamEnv X scope s.heap.objs.size f c')) → PE (LamX.lamCx X A outer s H E scope f c') body (t E)) :
    PE X (.Call (.Name "_law_try" p) [.Lambda params body scope lpos] [] pos) (LamX.tLam [(P0, X.env.qual ++ "<lambda>")] (TTry X.K T.r_GrainError) t) := by
  obtain ⟨oc2, od2, kV2, doc2, pm2, an2, cdv2, ct2, osl2, eT, lkT, cdT⟩ := T.F_try.ex
  have bT := T.b_try
  rw [eT] at bT
  rw [eT] at lkT
  exact LamX.pe_lamcall hg T.g_try T.F_try.kp lkT cdT bT sc_try rfl (Or.inl rfl) (try_gives T rfl rfl (k := k) hr) TB hcode (List.mem_singleton.mpr rfl) one_tab hr L hdef hbind hbody
theorem pass_never {X : Cx} {P : Program} {w : World} : Passes (L2.CX P w) X (fun _ _ _ => False) := by
  intro pins σ H s e s' I z
  obtain ⟨_, _, _, _, _, _, _, _, _, _, _, _, he⟩ := z
  exact he.elim
end
/-! ### an error of the first kind, told -/
section
variable {P : Program} {K : PySem.W.Frag} {mg : Str → Option Value} {G : Addr} {st : Stmt} {nm qual : Str} {B newId initId : String} {bmB : List Value}
theorem exm_er (T : Er P K mg B newId initId bmB [.ref G] st nm qual) {cg : ClassData} (hg : PySem.W.clsIn K G = some cg) (tg : PySem.W.typeIn K (.ref G) = some (.type "type")) (sb : PySem.W.subIn K (.ref G) (.type "BaseException") = some true) : PySem.W.exmOne K (.ref T.C) (.ref G) = some true := by
  unfold PySem.W.exmOne
  rw [if_pos (by rw [sb]; rfl)]
  unfold PySem.W.kitCls
  dsimp only
  rw [hg, tg, if_pos (show ((some cg).isSome && some (Value.type "type") == some (Value.type "type")) = true from show (true && some (Value.type "type") == some (Value.type "type")) = true by decide +kernel)]
  show PySem.W.mroIn K T.C (.ref G) = _
  obtain ⟨cd, hc, _, hm⟩ := T.cl
  unfold PySem.W.mroIn
  rw [hc, Option.bind_some, hm]
  show some ((Value.ref T.C :: ([Value.ref G] ++ _)).contains (.ref G)) = some true
  congr 1
  rw [List.contains_cons, List.cons_append, List.contains_cons, beq_self_eq_true]
  simp
theorem raised_er (T : Er P K mg B newId initId bmB [.ref G] st nm qual) {cg : ClassData} (hg : PySem.W.clsIn K G = some cg) (tg : PySem.W.typeIn K (.ref G) = some (.type "type")) (sb : PySem.W.subIn K (.ref G) (.type "BaseException") = some true)
    {w : Str} {fs : List (Str × V)} {v : V} (no : ∀ f v, fs.lookup f = some v → PySem.W.findIn K (.ref T.C) f = some none) (wd : fs.lookup ("word" : Str) = some (.str w)) (fv : fieldVal w fs = some v)
    {Q : VK} {d : Addr} {Hf : Hp} (hd : Hf d = some (.xd fs)) (q : Told Q w v Hf) : Raised K G Q (.ref T.C) (some d) Hf :=
  ⟨exm_er T hg tg sb, w, fs, v, ⟨⟨_, d, rfl, rfl, xfc_of T, hd, no⟩, wd⟩, fv, q⟩
theorem no_two {C : Addr} {f1 : Str} {v1 v2 : V} (h1 : PySem.W.findIn K (.ref C) f1 = some none) (h2 : PySem.W.findIn K (.ref C) "word" = some none) : ∀ f v, List.lookup f [(f1, v1), (("word" : Str), v2)] = some v → PySem.W.findIn K (.ref C) f = some none := by
  intro f v e
  simp only [List.lookup] at e
  split at e
  · rename_i z
    rw [eq_of_beq z]
    exact h1
  · split at e
    · rename_i z
      rw [eq_of_beq z]
      exact h2
    · cases e
theorem no_one {C : Addr} {v2 : V} (h2 : PySem.W.findIn K (.ref C) "word" = some none) : ∀ f v, List.lookup f [(("word" : Str), v2)] = some v → PySem.W.findIn K (.ref C) f = some none := by
  intro f v e
  simp only [List.lookup] at e
  split at e
  · rename_i z
    rw [eq_of_beq z]
    exact h2
  · cases e
end
/-! ### what stays where lambdas are made -/
theorem Bag.extN {H H' : Hp} {b sb : Addr} (B : Bag H b sb) (e : LamX.ExtN H H') : Bag H' b sb := by
  obtain ⟨ns, i, j, m, c, h1, h2, h3, h4, h5, h6⟩ := B
  exact ⟨ns, i, j, m, c, e _ _ h1 (fun _ z => by cases z), e _ _ h2 (fun _ z => by cases z), h3, h4, h5, h6⟩
theorem lst_extN {H H' : Hp} {a : Addr} {xs : List V} (h : H a = some (.lst xs)) (e : LamX.ExtN H H') : H' a = some (.lst xs) := e _ _ h (fun _ z => by cases z)
theorem tup_extN {H H' : Hp} {a : Addr} {xs : List V} (h : H a = some (.tup xs)) (e : LamX.ExtN H H') : H' a = some (.tup xs) := e _ _ h (fun _ z => by cases z)
theorem tabs_keep {H H' : Hp} {b sb : Addr} {T : List (Addr × Str)} (t : LamX.Tabs T H) (B : Bag H b sb) (k : Keep b H H') : LamX.Tabs T H' := by
  intro p hp
  obtain ⟨ps, h1, h2, h3⟩ := t p hp
  obtain ⟨ns, i, j, m, c, B⟩ := B
  refine ⟨ps, k _ _ (ne_of h1 B.hb (by intro z; cases z)) h1, h2, fun pos cv hc => ?_⟩
  obtain ⟨c', e1, e2⟩ := h3 pos cv hc
  exact ⟨c', e1, k _ _ (ne_of e2 B.hb (by intro z; unfold LamX.CodeO at z; cases z)) e2⟩
/-! ### texts: numbers, pieces of three, lines -/
def decT (n : Int) : Str := Str.ofString (toString n)
theorem neg_text {n : Int} (h : n < 0) : Str.ofString "-" ++ decT (-n) = decT n := by
  match n, h with
  | Int.negSucc m, _ =>
    apply TL.ext_tl
    rw [TL.tl_append]
    unfold decT
    rw [TL.tl_ofString, TL.tl_ofString, TL.tl_ofString, ← List.map_append, ← String.toList_append]
    rfl
def sgT (b : Int) : Str := if 0 < b then Str.ofString "+" else Str.ofString ""
def pairT (a b : Int) : Str := if b = 0 then decT a else if a = 0 then decT b ++ Str.ofString "r" else decT a ++ sgT b ++ decT b ++ Str.ofString "r"
theorem empty_str : Str.ofString "" = Str.empty := by decide +kernel
theorem join_len_le (y : Str) : ∀ ps : List Str, (Str.join y ps).length ≤ (ps.map (·.length)).sum + ps.length * y.length
  | [] => by
    show (0 : Nat) ≤ _
    exact Nat.zero_le _
  | [x] => by
    show x.length ≤ _
    simp only [List.map_cons, List.map_nil, List.sum_cons, List.sum_nil]
    omega
  | x :: z :: r => by
    have ih := join_len_le y (z :: r)
    show (x ++ y ++ Str.join y (z :: r)).length ≤ _
    rw [Str.length_append, Str.length_append]
    simp only [List.map_cons, List.sum_cons, List.length_cons, Nat.succ_mul] at ih ⊢
    omega
theorem join_snoc (x : Str) : ∀ ls : List Str, Str.join (Str.ofString "") (ls ++ [x]) = Str.join (Str.ofString "") ls ++ x
  | [] => by
    show x = Str.empty ++ x
    rw [Str.empty_append]
  | [y] => by
    show y ++ Str.ofString "" ++ x = y ++ x
    rw [empty_str, Str.append_empty]
  | y :: z :: r => by
    have ih := join_snoc x (z :: r)
    show y ++ Str.ofString "" ++ Str.join (Str.ofString "") (z :: (r ++ [x])) = y ++ Str.ofString "" ++ Str.join (Str.ofString "") (z :: r) ++ x
    rw [show z :: (r ++ [x]) = (z :: r) ++ [x] from rfl, ih, Str.append_assoc, Str.append_assoc, Str.append_assoc]
abbrev mkS (l : List Nat) : Str := ⟨l.toArray⟩
theorem mkS_len (l : List Nat) : (mkS l).length = l.length := by
  rw [TL.len_tl, TL.tl_mk]
/-- the pieces of three behind the first f signs -/
def pcs (z : List Nat) (f k : Nat) : List Str := (List.range k).map fun i => mkS ((z.drop (f + 3 * i)).take 3)
/-- the same from the end, as the law finds them -/
def pcsR (z : List Nat) (j : Nat) : List Str := (List.range j).map fun i => mkS ((z.drop (z.length - 3 * (i + 1))).take 3)
theorem pcs_rev {z : List Nat} {f k : Nat} (h : z.length = f + 3 * k) : (pcsR z k).reverse = pcs z f k := by
  apply List.ext_getElem?
  intro i
  unfold pcs pcsR
  by_cases hi : i < k
  · rw [List.getElem?_reverse (by simpa using hi), List.length_map, List.length_range, List.getElem?_map, List.getElem?_map, List.getElem?_range (by omega), List.getElem?_range hi]
    simp only [Option.map_some]
    rw [show z.length - 3 * (k - 1 - i + 1) = f + 3 * i by omega]
  · rw [List.getElem?_eq_none (by simp; omega), List.getElem?_eq_none (by simp; omega)]
def frs (n : Nat) : Nat := if n = 0 then 3 else (n - 1) % 3 + 1
def grpT (z : Str) : Str := Txt.join (Str.ofString ",") (mkS (z.cps.toList.take (frs z.length)) :: pcs z.cps.toList (frs z.length) ((z.length - 1) / 3))
theorem pcs_len {z : List Nat} {f k : Nat} : ∀ y ∈ pcs z f k, y.length ≤ 3 := by
  intro y hy
  obtain ⟨i, _, rfl⟩ := List.mem_map.mp hy
  rw [mkS_len, List.length_take]
  exact Nat.min_le_left _ _
theorem sum_le_three : ∀ {ps : List Str}, (∀ y ∈ ps, y.length ≤ 3) → (ps.map (·.length)).sum ≤ 3 * ps.length
  | [], _ => Nat.zero_le _
  | y :: ps, h => by
    have := sum_le_three fun z hz => h z (List.mem_cons_of_mem y hz)
    have := h y List.mem_cons_self
    simp only [List.map_cons, List.sum_cons, List.length_cons]
    omega
theorem frs_le (n : Nat) : frs n ≤ 3 := by
  unfold frs
  split <;> omega
theorem grp_all (z : Str) : ∀ y ∈ mkS (z.cps.toList.take (frs z.length)) :: pcs z.cps.toList (frs z.length) ((z.length - 1) / 3), y.length ≤ 3 := by
  intro y hy
  rcases List.mem_cons.mp hy with rfl | h
  · rw [mkS_len, List.length_take]
    exact Nat.le_trans (Nat.min_le_left _ _) (frs_le _)
  · exact pcs_len y h
theorem grp_len (z : Str) : (grpT z).length ≤ 4 * ((z.length - 1) / 3 + 1) := by
  unfold grpT
  rw [TL.join_eq]
  refine Nat.le_trans (join_len_le _ _) ?_
  have h := sum_le_three (grp_all z)
  have e : (Str.ofString ",").length = 1 := by decide +kernel
  rw [e]
  simp only [List.length_cons] at h ⊢
  have l : (pcs z.cps.toList (frs z.length) ((z.length - 1) / 3)).length = (z.length - 1) / 3 := by
    unfold pcs
    rw [List.length_map, List.length_range]
  rw [l] at h ⊢
  omega
theorem just_len (x : Str) (i : Int) : (Txt.ljust x i).length ≤ x.length + i.toNat ∧ (Txt.rjust x i).length ≤ x.length + i.toNat := by
  have key : ∀ {l : List Nat} {y : Str}, y.cps.toList = l → y.length = l.length := fun h => (TL.len_tl _).trans (congrArg List.length h)
  constructor
  · rw [show Txt.ljust x i = Txt.ljustF x i 32 from rfl, key (PyProof.Rows.ljustF_list x i 32), List.length_append, List.length_replicate, ← TL.len_tl]
    omega
  · rw [show Txt.rjust x i = Txt.rjustF x i 32 from rfl, key (PyProof.Rows.rjustF_list x i 32), List.length_append, List.length_replicate, ← TL.len_tl]
    omega
def lineT (x : Int × Int × Int × Int) (n wh : Int) : Str :=
  Txt.rjust (decT n) 8 ++ Str.ofString "  " ++ (Txt.ljust (pairT x.1 x.2.1) 14 ++ Str.ofString "  " ++ Txt.ljust (pairT x.2.2.1 x.2.2.2) 14) ++ Str.ofString "  " ++ Txt.rjust (grpT (decT wh)) 12 ++ Str.ofString "\n"
/-! ### the texts of numbers, of pairs -/
theorem ps_never {X : Cx} {st : Stmt} : PS X st (fun _ _ _ => False) := ⟨fun _ _ _ _ _ _ h => h.elim⟩
theorem log2_lt_of {m k : Nat} (h : m < 2 ^ k) (hk : 0 < k) : m.log2 < k := by
  by_cases z : m = 0
  · rw [z]
    simpa using hk
  · exact (Nat.log2_lt z).mpr h
theorem text_len {n : Int} (h : n.natAbs < 10 ^ 64) : n.natAbs.log2 < 1920 ∧ (decT n).length ≤ 70 := by
  refine ⟨log2_lt_of (Nat.lt_of_lt_of_le h (by decide)) (by decide), ?_⟩
  have e := int_text_length_le10 (k := 64) (by decide) h
  unfold decT
  rw [PySem.ofString_length]
  omega
theorem dV' {x y : Int} : decide (V.int x = V.int y) = decide (x = y) := by
  by_cases h : x = y
  · rw [decide_eq_true h, h, decide_eq_true rfl]
  · rw [decide_eq_false h, decide_eq_false fun z => h (V.int.inj z)]
theorem sz_eq : sizeLine = 16777216 := rfl
section
variable {base : Heap} {K : PySem.W.Frag} {mg : Str → Option Value} {P : Program} {w : World}
def spDecL (L : Int → Prop) : Sp := fun vs H Q _ => ∃ n : Int, vs = [.int n] ∧ n.natAbs < 10 ^ 64 ∧ L n ∧ ∀ H', Same H H' → Q (.str (decT n)) H'
theorem dec_core (T : Txt K mg) {k : Nat} {sp' : Sp} {L : Int → Prop} (G : FnOk P w K mg base CX0 k T.f_decimal_text T.d_decimal_text ["number"] sp')
    (neg : ∀ (n : Int) (H : Hp) (Q : VK), L n → n < 0 → n.natAbs < 10 ^ 64 → (∀ H', Same H H' → Q (.str (decT (-n))) H') → sp' [.int (-n)] H Q E0) : FnOk P w K mg base CX0 (k + 1) T.f_decimal_text T.d_decimal_text ["number"] (spDecL L) := by
  refine T.F_decimal_text.ok sc_decimal_text (fun vs H Q E h => ?_) (fun cdv A outer s H vs Q E hr h => ?_)
  · obtain ⟨n, rfl, _⟩ := h
    rfl
  · obtain ⟨n, rfl, hn, hL, q⟩ := h
    refine ⟨_, (pss_cons (ps_if (pt_cmpR op_lt (pv 0) pe_int (nomark _)) (pss_one (ps_ret (pe_joined (.cons pe_str (.cons (pe_fmt (pe_call G hr (by rfl) T.g_decimal_text T.F_decimal_text.kp T.b_decimal_text .nil pass0 (pa_cons (pe_un un_neg (pv 0)) pa_nil))) .nil))))) pss_nil)
      (pss_cons (ps_set (i := 1) sc_decimal_text.nd rfl (Or.inl rfl) (pv 0))
      (pss_cons (ps_set (i := 2) sc_decimal_text.nd rfl (Or.inl rfl) (pe_lst pa_nil))
      (pss_cons (ps_while PassesOwn.never (pt_cmpR op_ge (pv 1) (pe_glob (v := .int (10 ^ 64)) (by rfl) T.g_GROUP T.rv_GROUP) (nomark _)) (pss_cons ps_never
      (pss_one ps_never)))
      (pss_cons (ps_expr (pe_bm PySem.F.plainAttrs_list PySem.F.slot_list_append PySem.F.type_list_append mt_append (pv 2) (pa_cons (pe_callTy call_str_int (by rfl) T.n_str (by decide +kernel) (pa_cons (pv 1) pa_nil)) pa_nil)))
      (pss_one (ps_ret (pe_join pe_str (pe_revL (pv 2)))))))))), ?_⟩
    refine ⟨_, rfl, n, 0, rfl, rfl, _, rfl, ?_⟩
    by_cases hneg : n < 0
    · rw [decide_eq_true hneg]
      obtain ⟨g1, g2⟩ := text_len (n := -n) (by omega)
      have e0 : Str.empty ++ Str.ofString "-" = Str.ofString "-" := Str.empty_append _
      have l0 : (Str.ofString "-").length = 1 := by decide +kernel
      refine iteT ⟨_, rfl, by rw [e0, l0, sz_eq]; decide, _, rfl, n, rfl, neg n H _ hL hneg hn fun H' s' => .inl ⟨_, rfl, by rw [sz_eq]; omega, _, rfl, ?_, ?_⟩⟩
      · rw [e0, Str.length_append, l0, sz_eq]
        omega
      · rw [e0, neg_text hneg]
        exact q _ s'
    · rw [decide_eq_false hneg]
      obtain ⟨g1, g2⟩ := text_len hn
      refine iteF ⟨_, rfl, Nat.zero_le _, fun l hl => ?_⟩
      refine ⟨fun m σ G => m = 0 ∧ σ = [some (.int n), some (.int n), some (.ref l), none] ∧ G = upd H l (.lst []), ⟨0, rfl, rfl, rfl⟩, ?_⟩
      rintro m σ G ⟨rfl, rfl, rfl⟩
      refine ⟨_, rfl, n, 10 ^ 64, rfl, rfl, _, rfl, ?_⟩
      rw [decide_eq_false (by omega)]
      refine iteF ⟨_, rfl, .inl ⟨rfl, _, SqL.of upd_same⟩, _, rfl, n, rfl, g1, l, _, _, rfl, rfl, upd_same, by decide, ?_⟩
      refine ⟨⟨_, rfl⟩, _, rfl, l, _, rfl, SqL.of upd_same, fun p hp => ⟨_, p, [decT n], rfl, rfl, .inl (SqL.of (by rw [upd_same]; rfl)), ?_, ?_⟩⟩
      · show (decT n).length + 0 + 1 * 0 ≤ 16777216
        omega
      · have s1 : Same H (upd (upd (upd H l (.lst [])) l (.lst ([] ++ [.str (decT n)]))) p (.lst ([] ++ [V.str (decT n)]).reverse)) := fun a o z => by
          have na := ne_of_none z hl
          rw [upd_ne (ne_of_none ((upd_ne na).trans ((upd_ne na).trans z)) hp), upd_ne na, upd_ne na]
          exact z
        exact q _ s1
theorem ok_dec0 (T : Txt K mg) : FnOk P w K mg base CX0 1 T.f_decimal_text T.d_decimal_text ["number"] (spDecL fun n => 0 ≤ n) :=
  dec_core T (k := 0) (sp' := fun _ _ _ _ => False) ⟨fun _ _ _ _ h => h.elim, fun _ _ _ _ _ _ _ _ _ _ _ _ _ h => h.elim⟩ fun n H Q h0 hn _ _ => by omega
def spDec : Sp := fun vs H Q _ => ∃ n : Int, vs = [.int n] ∧ n.natAbs < 10 ^ 64 ∧ ∀ H', Same H H' → Q (.str (decT n)) H'
theorem ok_decimal_text (T : Txt K mg) : FnOk P w K mg base CX0 2 T.f_decimal_text T.d_decimal_text ["number"] spDec := by
  have h := dec_core (L := fun _ => True) T (ok_dec0 (P := P) (w := w) (base := base) T) fun n H Q _ hn hb q => ⟨-n, rfl, by omega, by omega, q⟩
  exact h.imp fun vs H Q E ⟨n, e, hb, q⟩ => ⟨n, e, hb, trivial, q⟩
end
/-! ### the texts of pairs -/
section
variable {base : Heap} {K : PySem.W.Frag} {mg : Str → Option Value} {P : Program} {w : World}
def spPairT (K : PySem.W.Frag) : Sp := fun vs H Q _ => ∃ (p : Addr) (a b : Int), vs = [.ref p] ∧ SqT K H p [.int a, .int b] ∧ a.natAbs < 10 ^ 64 ∧ b.natAbs < 10 ^ 64 ∧ ∀ H', Same H H' → Q (.str (pairT a b)) H'
theorem pair_len {a b : Int} (ha : a.natAbs < 10 ^ 64) (hb : b.natAbs < 10 ^ 64) : (pairT a b).length ≤ 150 := by
  have h1 := (text_len ha).2
  have h2 := (text_len hb).2
  have r1 : (Str.ofString "r").length = 1 := by decide +kernel
  have s1 : (sgT b).length ≤ 1 := by
    unfold sgT
    split <;> decide +kernel
  unfold pairT
  split
  · omega
  split
  · rw [Str.length_append, r1]
    omega
  · rw [Str.length_append, Str.length_append, Str.length_append, r1]
    omega
theorem ok_pair_text (T : Txt K mg) : FnOk P w K mg base CX0 3 T.f_pair_text T.d_pair_text ["pair"] (spPairT K) := by
  refine T.F_pair_text.ok sc_pair_text (fun vs H Q E h => ?_) (fun cdv A outer s H vs Q E hr h => ?_)
  · obtain ⟨p, a, b, rfl, _⟩ := h
    rfl
  · obtain ⟨p, a, b, rfl, hp, ha, hb, q⟩ := h
    refine ⟨_, (pss_cons (ps_asg (pv 0) (pg_tup (by rfl) (pgs_cons (pg_name (i := 2) sc_pair_text.nd rfl (Or.inl rfl)) (pgs_cons (pg_name (i := 3) sc_pair_text.nd rfl (Or.inl rfl)) pgs_nil))))
      (pss_cons (ps_if (pt_cmpR op_eq (pv 3) pe_int (nomark _)) (pss_one (ps_ret (pe_call (ok_decimal_text T) (hr.mono (by decide)) (by rfl) T.g_decimal_text T.F_decimal_text.kp T.b_decimal_text .nil pass0 (pa_cons (pv 2) pa_nil)))) pss_nil)
      (pss_cons (ps_if (pt_cmpR op_eq (pv 2) pe_int (nomark _)) (pss_one (ps_ret (pe_joined (.cons (pe_fmt (pe_call (ok_decimal_text T) (hr.mono (by decide)) (by rfl) T.g_decimal_text T.F_decimal_text.kp T.b_decimal_text .nil pass0 (pa_cons (pv 3) pa_nil))) (.cons pe_str .nil))))) pss_nil)
      (pss_cons (ps_set (i := 1) sc_pair_text.nd rfl (Or.inl rfl) (pe_ifExp (pt_cmpR op_gt (pv 3) pe_int (nomark _)) pe_str pe_str))
      (pss_one (ps_ret (pe_joined (.cons (pe_fmt (pe_call (ok_decimal_text T) (hr.mono (by decide)) (by rfl) T.g_decimal_text T.F_decimal_text.kp T.b_decimal_text .nil pass0 (pa_cons (pv 2) pa_nil))) (.cons (pe_fmt (pv 1)) (.cons (pe_fmt (pe_call (ok_decimal_text T) (hr.mono (by decide)) (by rfl) T.g_decimal_text T.F_decimal_text.kp T.b_decimal_text .nil pass0 (pa_cons (pv 3) pa_nil))) (.cons pe_str .nil))))))))))), ?_⟩
    have la := (text_len ha).2
    have lb := (text_len hb).2
    have r1 : (Str.ofString "r").length = 1 := by decide +kernel
    refine ⟨_, rfl, p, _, rfl, hp, rfl, .int a, _, rfl, .int b, _, rfl, rfl, ?_⟩
    unfold pairT at q
    by_cases b0 : b = 0
    · rw [if_pos b0] at q
      exact ⟨_, rfl, rfl, true, congrArg V.bl (by rw [dV', decide_eq_true b0]), iteT ⟨_, rfl, a, rfl, ha, fun H1 s1 => q _ s1⟩⟩
    rw [if_neg b0] at q
    refine ⟨_, rfl, rfl, false, congrArg V.bl (by rw [dV', decide_eq_false b0]), iteF ?_⟩
    by_cases a0 : a = 0
    · rw [if_pos a0] at q
      refine ⟨_, rfl, rfl, true, congrArg V.bl (by rw [dV', decide_eq_true a0]), iteT ⟨_, rfl, b, rfl, hb, fun H1 s1 => .inl ⟨_, rfl, by rw [sz_eq]; omega, _, rfl, by rw [Str.empty_append, sz_eq]; omega, _, rfl, by rw [Str.empty_append, Str.length_append, r1, sz_eq]; omega, ?_⟩⟩⟩
      rw [Str.empty_append]
      exact q _ s1
    rw [if_neg a0] at q
    refine ⟨_, rfl, rfl, false, congrArg V.bl (by rw [dV', decide_eq_false a0]), iteF ?_⟩
    have s1 : (sgT b).length ≤ 1 := by
      unfold sgT
      split <;> decide +kernel
    have fin : ∀ H1, Same H H1 → ∀ sg, sg = sgT b → Q (.str (Str.empty ++ decT a ++ sg ++ decT b ++ Str.ofString "r")) H1 := by
      rintro H1 e sg rfl
      rw [Str.empty_append]
      exact q _ e
    have go : ∀ sg : Str, sg = sgT b → tRet (fun σ H Q => tJs [tFmt (tCall spDec [] E0 (tCons (tVar 1) tNil)), tFmt (tVar 3), tFmt (tCall spDec [] E0 (tCons (tVar 2) tNil)), tC (.str "r")] Str.empty σ H fun out H1 => Q (.str out) H1) { nx := fun _ H' => Q .non H', rt := Q } [some (.ref p), some (.int a), some (.int b), some (.str sg)] H := by
      intro sg esg
      have hsg : sg.length ≤ 1 := by rw [esg]; exact s1
      refine ⟨_, rfl, a, rfl, ha, fun H1 e1 => .inl ⟨_, rfl, by rw [sz_eq]; omega, _, rfl, by rw [Str.empty_append, sz_eq]; omega, _, rfl, .inl ⟨_, rfl, by rw [sz_eq]; omega, _, rfl, by rw [Str.empty_append, Str.length_append, sz_eq]; omega, _, rfl, b, rfl, hb, fun H2 e2 => .inl ⟨_, rfl, by rw [sz_eq]; omega, _, rfl, by rw [Str.empty_append, Str.length_append, Str.length_append, sz_eq]; omega, _, rfl, by rw [Str.empty_append, Str.length_append, Str.length_append, Str.length_append, r1, sz_eq]; omega, ?_⟩⟩⟩⟩
      exact fin H2 (e1.trans e2) sg esg
    by_cases bp : b > 0
    · exact ⟨_, rfl, b, 0, rfl, rfl, true, congrArg V.bl (decide_eq_true bp), iteT (go _ (by unfold sgT; rw [if_pos bp]))⟩
    · exact ⟨_, rfl, b, 0, rfl, rfl, false, congrArg V.bl (decide_eq_false bp), iteF (go _ (by unfold sgT; rw [if_neg bp]))⟩
end
/-! ### the law's own texts of pairs -/
section
variable {base : Heap} {K : PySem.W.Frag} {mg : Str → Option Value} {P : Program} {w : World}
theorem ok_lpair_text (T : Txt K mg) : FnOk P w K mg base CX0 1 T.f_lpair_text T.d_lpair_text ["_law_pair"] (spPairT K) := by
  refine T.F_lpair_text.ok sc_lpair_text (fun vs H Q E h => ?_) (fun cdv A outer s H vs Q E hr h => ?_)
  · obtain ⟨p, a, b, rfl, _⟩ := h
    rfl
  · obtain ⟨p, a, b, rfl, hp, ha, hb, q⟩ := h
    refine ⟨_, (pss_cons (ps_asg (pv 0) (pg_tup (by rfl) (pgs_cons (pg_name (i := 1) sc_lpair_text.nd rfl (Or.inl rfl)) (pgs_cons (pg_name (i := 2) sc_lpair_text.nd rfl (Or.inl rfl)) pgs_nil))))
      (pss_cons (ps_if (pt_cmpR op_eq (pv 2) pe_int (nomark _)) (pss_one (ps_ret (pe_callTy call_str_int (by rfl) T.n_str (by decide +kernel) (pa_cons (pv 1) pa_nil)))) pss_nil)
      (pss_cons (ps_if (pt_cmpR op_eq (pv 1) pe_int (nomark _)) (pss_one (ps_ret (pe_op op_add_str (pe_callTy call_str_int (by rfl) T.n_str (by decide +kernel) (pa_cons (pv 2) pa_nil)) pe_str))) pss_nil)
      (pss_one (ps_ret (pe_op op_add_str (pe_op op_add_str (pe_op op_add_str (pe_callTy call_str_int (by rfl) T.n_str (by decide +kernel) (pa_cons (pv 1) pa_nil)) (pe_ifExp (pt_cmpR op_gt (pv 2) pe_int (nomark _)) pe_str pe_str)) (pe_callTy call_str_int (by rfl) T.n_str (by decide +kernel) (pa_cons (pv 2) pa_nil))) pe_str)))))), ?_⟩
    obtain ⟨ga, la⟩ := text_len ha
    obtain ⟨gb, lb⟩ := text_len hb
    have r1 : (Str.ofString "r").length = 1 := by decide +kernel
    refine ⟨_, rfl, p, _, rfl, hp, rfl, .int a, _, rfl, .int b, _, rfl, rfl, ?_⟩
    unfold pairT at q
    by_cases b0 : b = 0
    · rw [if_pos b0] at q
      exact ⟨_, rfl, rfl, true, congrArg V.bl (by rw [dV', decide_eq_true b0]), iteT ⟨_, rfl, a, rfl, ga, q _ (Same.refl _)⟩⟩
    rw [if_neg b0] at q
    refine ⟨_, rfl, rfl, false, congrArg V.bl (by rw [dV', decide_eq_false b0]), iteF ?_⟩
    by_cases a0 : a = 0
    · rw [if_pos a0] at q
      exact ⟨_, rfl, rfl, true, congrArg V.bl (by rw [dV', decide_eq_true a0]), iteT ⟨_, rfl, b, rfl, gb, decT b, _, rfl, rfl, by rw [r1, sz_eq]; omega, q _ (Same.refl _)⟩⟩
    rw [if_neg a0] at q
    refine ⟨_, rfl, rfl, false, congrArg V.bl (by rw [dV', decide_eq_false a0]), iteF ?_⟩
    have s1 : (sgT b).length ≤ 1 := by
      unfold sgT
      split <;> decide +kernel
    by_cases bp : b > 0
    · have e : sgT b = Str.ofString "+" := if_pos bp
      rw [e] at q s1
      exact ⟨_, rfl, a, rfl, ga, _, rfl, b, 0, rfl, rfl, true, congrArg V.bl (decide_eq_true bp), iteT ⟨decT a, _, rfl, rfl, by rw [sz_eq]; omega, _, rfl, b, rfl, gb, _, decT b, rfl, rfl, by rw [Str.length_append, sz_eq]; omega, _, _, rfl, rfl, by rw [Str.length_append, Str.length_append, r1, sz_eq]; omega, q _ (Same.refl _)⟩⟩
    · have e : sgT b = Str.ofString "" := if_neg bp
      rw [e] at q s1
      exact ⟨_, rfl, a, rfl, ga, _, rfl, b, 0, rfl, rfl, false, congrArg V.bl (decide_eq_false bp), iteF ⟨decT a, _, rfl, rfl, by rw [sz_eq]; omega, _, rfl, b, rfl, gb, _, decT b, rfl, rfl, by rw [Str.length_append, sz_eq]; omega, _, _, rfl, rfl, by rw [Str.length_append, Str.length_append, r1, sz_eq]; omega, q _ (Same.refl _)⟩⟩
end
/-! ### numbers that are read: a text is a number's own exactly where it has no needless zero -/
open PySem.NumText in
theorem dval_lt : ∀ {cs : List Nat}, AllDigits cs → digitsVal cs < 10 ^ cs.length := by
  intro cs
  have h : ∀ n (cs : List Nat), cs.length = n → AllDigits cs → digitsVal cs < 10 ^ n := by
    intro n
    induction n with
    | zero =>
      intro cs hl _
      rw [List.eq_nil_of_length_eq_zero hl]
      decide
    | succ n ih =>
      intro cs hl had
      have hne : cs ≠ [] := fun e => by rw [e] at hl; simp at hl
      have e := List.dropLast_concat_getLast hne
      have l1 : cs.dropLast.length = n := by rw [List.length_dropLast, hl]; rfl
      have h1 := ih cs.dropLast l1 fun c hc => had c (List.dropLast_subset _ hc)
      have h2 := had _ (List.getLast_mem hne)
      rw [← e, digitsVal_snoc, Nat.pow_succ]
      omega
  exact h _ cs rfl
open PySem.NumText in
theorem num_canon {cs : List Nat} (had : AllDigits cs) (hne : cs ≠ []) : TL.numL (digitsVal cs) = cs ↔ (cs = [48] ∨ cs.head? ≠ some 48) := by
  constructor
  · intro h
    match cs, hne with
    | c :: r, _ =>
      by_cases z : c = 48
      · subst z
        cases r with
        | nil => exact .inl rfl
        | cons c2 r2 =>
          exfalso
          have hl := TL.numL_len (n := digitsVal (c2 :: r2)) (k := (c2 :: r2).length) (Nat.succ_pos _) (dval_lt had.tail)
          rw [digitsVal_zero] at h
          rw [h] at hl
          simp at hl
          omega
      · exact .inr fun e => z (Option.some.inj e)
  · intro h
    have hc : cs.length = (cs.length - 1) + 1 := by
      have : cs.length ≠ 0 := fun e => hne (List.eq_nil_of_length_eq_zero e)
      omega
    have big : cs.length - 1 = 0 ∨ ∃ c r, cs = c :: r ∧ 49 ≤ c := by
      rcases h with rfl | h
      · exact .inl rfl
      · match cs, hne with
        | c :: r, _ =>
          have h1 := had.head
          have h2 : c ≠ 48 := fun e => h (congrArg some e)
          exact .inr ⟨c, r, rfl, by omega⟩
    have e := toDigits_digitsVal _ cs hc had big
    unfold TL.numL
    rw [e, List.map_map]
    have : ∀ l : List Nat, AllDigits l → l.map (Char.toNat ∘ Char.ofNat) = l := by
      intro l
      induction l with
      | nil => exact fun _ => rfl
      | cons c r ih =>
        intro hl
        have h1 := hl.head
        rw [List.map_cons, ih hl.tail]
        congr 1
        have : ∀ c : Nat, c < 58 → Char.toNat (Char.ofNat c) = c := by decide
        exact this c (by omega)
    exact this cs had
def minusB (z : List Nat) : Bool := z.head? == some 45
def digsL (z : List Nat) : List Nat := if minusB z = true then z.drop 1 else z
def digB (c : Nat) : Bool := decide (48 ≤ c ∧ c ≤ 57)
def guardB (z : List Nat) : Bool := decide (1 ≤ (digsL z).length ∧ (digsL z).length ≤ 20) && (digsL z).all digB
def zeroB (z : List Nat) : Bool := ((digsL z).head? == some 48) && !(z == [48])
def valN (z : List Nat) : Int := if minusB z = true then -((NumText.digitsVal (digsL z) : Nat) : Int) else ((NumText.digitsVal (digsL z) : Nat) : Int)
/-- the number of a text, or nothing -/
def readN (z : List Nat) : Option Int := if guardB z = true then (if zeroB z = true then none else some (valN z)) else none
theorem guard_digits {z : List Nat} (h : guardB z = true) : NumText.AllDigits (digsL z) ∧ digsL z ≠ [] ∧ (digsL z).length ≤ 20 := by
  unfold guardB at h
  rw [Bool.and_eq_true] at h
  obtain ⟨h1, h2⟩ := h
  have h1 := of_decide_eq_true h1
  refine ⟨fun c hc => ?_, fun e => ?_, h1.2⟩
  · exact of_decide_eq_true (List.all_eq_true.mp h2 c hc)
  · rw [e] at h1
    simp at h1
theorem minus_eq {z : List Nat} (h : minusB z = true) : z = 45 :: digsL z := by
  unfold digsL
  rw [if_pos h]
  unfold minusB at h
  match z, h with
  | c :: r, h =>
    have : c = 45 := by simpa using h
    rw [this]
    rfl
theorem guard_int {z : List Nat} (h : guardB z = true) : intText? (mkS z) = some (valN z) := by
  obtain ⟨h1, h2, h3⟩ := guard_digits h
  unfold valN
  by_cases m : minusB z = true
  · rw [if_pos m]
    refine intText_neg (x := mkS z) (cs := digsL z) (minus_eq m) h1 h2 ?_
    rw [mkS_len]
    have := congrArg List.length (minus_eq m)
    rw [List.length_cons] at this
    omega
  · have e : digsL z = z := by
      unfold digsL
      rw [if_neg m]
    rw [if_neg m]
    rw [e] at h1 h2 h3 ⊢
    exact intText_digits (x := mkS z) h1 h2 (by rw [mkS_len]; omega)
theorem guard_len {z : List Nat} (h : guardB z = true) : z.length ≤ 21 := by
  obtain ⟨_, _, h3⟩ := guard_digits h
  by_cases m : minusB z = true
  · have := congrArg List.length (minus_eq m)
    rw [List.length_cons] at this
    omega
  · unfold digsL at h3
    rw [if_neg m] at h3
    omega
theorem guard_bd {z : List Nat} (h : guardB z = true) : (valN z).natAbs < 10 ^ 20 := by
  obtain ⟨h1, h2, h3⟩ := guard_digits h
  have := Nat.lt_of_lt_of_le (dval_lt h1) (Nat.pow_le_pow_right (show 0 < 10 by decide) h3)
  unfold valN
  split <;> omega
/-- str(int(text)) == text -/
theorem guard_text {z : List Nat} (h : guardB z = true) : decT (valN z) = mkS z ↔ zeroB z = false := by
  obtain ⟨h1, h2, h3⟩ := guard_digits h
  have tlN : ∀ n : Nat, TL.tl (decT ((n : Nat) : Int)) = TL.numL n := fun n => TL.tl_num n
  have ext : ∀ {s : Str}, s = mkS z ↔ TL.tl s = z := fun {s} => ⟨fun e => by rw [e, TL.tl_mk], fun e => TL.ext_tl (by rw [e, TL.tl_mk])⟩
  rw [ext]
  unfold valN
  by_cases m : minusB z = true
  · have ez := minus_eq m
    have nz : (z == [48]) = false := by
      rw [ez]
      rfl
    rw [if_pos m]
    unfold zeroB
    rw [nz, Bool.not_false, Bool.and_true]
    have hd : ∃ c r, digsL z = c :: r ∧ 48 ≤ c ∧ c ≤ 57 := by
      match hz : digsL z, h2 with
      | c :: r, _ =>
        rw [hz] at h1
        exact ⟨c, r, rfl, h1.head⟩
    by_cases v0 : NumText.digitsVal (digsL z) = 0
    · -- a minus and noughts
      obtain ⟨c, r, ec, c0, c1⟩ := hd
      have c48 : c = 48 := by
        rcases Nat.lt_or_ge c 49 with l | l
        · omega
        · rw [ec] at v0
          have := NumText.digitsVal_pos (cs := r) l
          omega
      rw [v0, ec, c48]
      constructor
      · intro e
        rw [ez] at e
        have e0 : TL.tl (decT (-((0 : Nat) : Int))) = [48] := by decide +kernel
        rw [e0] at e
        cases e
      · intro e
        simp at e
    · have neg : -((NumText.digitsVal (digsL z) : Nat) : Int) < 0 := by omega
      rw [← neg_text neg, TL.tl_append, Int.neg_neg, tlN]
      have em : TL.tl (Str.ofString "-") = [45] := by decide +kernel
      rw [em]
      have cut : ([45] ++ TL.numL (NumText.digitsVal (digsL z)) = z) ↔ TL.numL (NumText.digitsVal (digsL z)) = digsL z := by
        constructor
        · intro e
          rw [List.singleton_append] at e
          have := e.trans ez
          injection this
        · intro e
          rw [e, List.singleton_append]
          exact ez.symm
      rw [cut, num_canon h1 h2]
      have n48 : digsL z ≠ [48] := fun e => v0 (by rw [e]; decide)
      simp [n48]
  · have e : digsL z = z := by
      unfold digsL
      rw [if_neg m]
    rw [if_neg m, tlN]
    rw [e] at h1 h2 ⊢
    rw [num_canon h1 h2]
    unfold zeroB
    rw [e]
    by_cases q : z = [48]
    · subst q
      simp
    · have : (z == [48]) = false := by simpa using q
      rw [this]
      simp [q]
/-! ### pairs that are read -/
def signB (c : Nat) : Bool := c == 43 || c == 45
/-- the places of signs behind the first letter -/
def sgs (b : List Nat) : List Nat := (List.range' 1 (b.length - 1)).filter fun k => signB (b.getD k 0)
def sgAt (b : List Nat) : Nat := (sgs b).getLast?.getD 0
def IsAt (b : List Nat) (k : Nat) : Prop := (k = 0 ∧ ∀ j, 1 ≤ j → j < b.length → signB (b.getD j 0) = false) ∨ (1 ≤ k ∧ k < b.length ∧ signB (b.getD k 0) = true ∧ ∀ j, k < j → j < b.length → signB (b.getD j 0) = false)
theorem at_one {b : List Nat} {k l : Nat} (h : IsAt b k) (g : IsAt b l) : k = l := by
  rcases h with ⟨rfl, h⟩ | ⟨h1, h2, h3, h4⟩ <;> rcases g with ⟨rfl, g⟩ | ⟨g1, g2, g3, g4⟩
  · rfl
  · rw [h l g1 g2] at g3
    cases g3
  · rw [g k h1 h2] at h3
    cases h3
  · rcases Nat.lt_trichotomy k l with z | z | z
    · rw [h4 l z g2] at g3
      cases g3
    · exact z
    · rw [g4 k z h2] at h3
      cases h3
theorem sgAt_is (b : List Nat) : IsAt b (sgAt b) := by
  have mem : ∀ k, k ∈ sgs b ↔ (1 ≤ k ∧ k < b.length) ∧ signB (b.getD k 0) = true := by
    intro k
    unfold sgs
    rw [List.mem_filter, List.mem_range'_1]
    constructor
    · rintro ⟨⟨h1, h2⟩, h3⟩
      exact ⟨⟨h1, by omega⟩, h3⟩
    · rintro ⟨⟨h1, h2⟩, h3⟩
      exact ⟨⟨h1, by omega⟩, h3⟩
  unfold sgAt
  cases hl : (sgs b).getLast? with
  | none =>
    have e : sgs b = [] := List.getLast?_eq_none_iff.mp hl
    refine .inl ⟨rfl, fun j h1 h2 => ?_⟩
    cases hs : signB (b.getD j 0) with
    | false => rfl
    | true =>
      have := (mem j).mpr ⟨⟨h1, h2⟩, hs⟩
      rw [e] at this
      cases this
  | some k =>
    have hk := (mem k).mp (List.mem_of_getLast? hl)
    show IsAt b k
    refine .inr ⟨hk.1.1, hk.1.2, hk.2, fun j h1 h2 => ?_⟩
    cases hs : signB (b.getD j 0) with
    | false => rfl
    | true =>
      have hj := (mem j).mpr ⟨⟨by omega, h2⟩, hs⟩
      -- the list ascends
      have asc : (sgs b).Pairwise (· < ·) := List.Pairwise.filter _ List.pairwise_lt_range'
      obtain ⟨ys, e⟩ := List.getLast?_eq_some_iff.mp hl
      rw [e] at hj asc
      rcases List.mem_append.mp hj with z | z
      · have := (List.pairwise_append.mp asc).2.2 j z k (by simp)
        omega
      · have := List.mem_singleton.mp z
        omega
/-- what a text with an r at its end tells, the sign at k -/
def resP (b : List Nat) (k : Nat) : Option (Int × Int) :=
  if k = 0 then (match readN b with | none => none | some n => if n = 0 then none else some (0, n))
  else match readN (b.take k), readN (if (b.drop k).head? = some 43 then (b.drop k).drop 1 else b.drop k) with
    | some m, some n => if n = 0 ∨ m = 0 ∨ ((b.drop k).head? = some 43 ∧ n < 0) then none else some (m, n)
    | _, _ => none
def readP (z : List Nat) : Option (Int × Int) := if z.getLast? = some 114 then resP z.dropLast (sgAt z.dropLast) else (readN z).map fun n => (n, 0)
theorem readN_text {z : List Nat} {n : Int} (h : readN z = some n) : decT n = mkS z ∧ n.natAbs < 10 ^ 20 := by
  unfold readN at h
  split at h
  · rename_i g
    split at h
    · cases h
    · rename_i zb
      cases h
      exact ⟨(guard_text g).mpr (by simpa using zb), guard_bd g⟩
  · cases h
theorem mk_inj {a b : List Nat} : mkS a = mkS b ↔ a = b := ⟨fun e => by have := congrArg TL.tl e; rwa [TL.tl_mk, TL.tl_mk] at this, fun e => by rw [e]⟩
theorem mk_app (a b : List Nat) : mkS a ++ mkS b = mkS (a ++ b) := TL.ext_tl (by rw [TL.tl_append, TL.tl_mk, TL.tl_mk, TL.tl_mk])
theorem r_S : Str.ofString "r" = mkS [114] := by decide +kernel
theorem plus_S : Str.ofString "+" = mkS [43] := by decide +kernel
theorem nil_S : Str.ofString "" = mkS [] := by decide +kernel
theorem dec_zero : decT 0 = mkS [48] := by decide +kernel
theorem minus_neg {z : List Nat} {n : Int} (h : readN z = some n) (m : minusB z = true) : n ≤ 0 := by
  unfold readN at h
  split at h
  · split at h
    · cases h
    · cases h
      unfold valN
      rw [if_pos m]
      omega
  · cases h
/-- what the program makes of it -/
def progP (b : List Nat) (k : Nat) : Option (Int × Int) :=
  match (if k = 0 then readN [48] else readN (b.take k)), readN (if k = 0 then b else if (b.drop k).head? = some 43 then (b.drop k).drop 1 else b.drop k) with
  | some m, some n => if pairT m n = mkS (b ++ [114]) then some (m, n) else none
  | _, _ => none
theorem prog_res {b : List Nat} {k : Nat} (h : IsAt b k) : progP b k = resP b k := by
  unfold progP resP
  have zr : readN [48] = some 0 := by decide +kernel
  by_cases k0 : k = 0
  · rw [if_pos k0, if_pos k0, if_pos k0, zr]
    cases hn : readN b with
    | none => rfl
    | some n =>
      obtain ⟨tx, _⟩ := readN_text hn
      dsimp only
      by_cases n0 : n = 0
      · have no : ¬ pairT 0 n = mkS (b ++ [114]) := by
          unfold pairT
          rw [if_pos n0, dec_zero, mk_inj]
          rw [n0, dec_zero, mk_inj] at tx
          rw [← tx]
          decide
        rw [if_neg no, if_pos n0]
      · have yes : pairT 0 n = mkS (b ++ [114]) := by
          unfold pairT
          rw [if_neg n0, if_pos rfl, tx, r_S, mk_app]
        rw [if_pos yes, if_neg n0]
  · rw [if_neg k0, if_neg k0, if_neg k0]
    rcases h with ⟨z, _⟩ | ⟨k1, kb, ks, _⟩
    · exact absurd z k0
    have eb : b.take k ++ b.drop k = b := List.take_append_drop k b
    obtain ⟨c, r, eo, hc⟩ : ∃ c r, b.drop k = c :: r ∧ signB c = true := by
      have e : b[k]? = some b[k] := List.getElem?_eq_getElem kb
      refine ⟨b[k], b.drop (k + 1), List.drop_eq_getElem_cons kb, ?_⟩
      rw [List.getD_eq_getElem?_getD, e] at ks
      exact ks
    have lone : (b.take k).length = k := by rw [List.length_take, Nat.min_eq_left (by omega)]
    cases hm : readN (b.take k) with
    | none => rfl
    | some m =>
      obtain ⟨tm, _⟩ := readN_text hm
      cases hn : readN (if (b.drop k).head? = some 43 then (b.drop k).drop 1 else b.drop k) with
      | none => rfl
      | some n =>
        obtain ⟨tn, _⟩ := readN_text hn
        dsimp only
        by_cases n0 : n = 0
        · have no : ¬ pairT m n = mkS (b ++ [114]) := by
            unfold pairT
            rw [if_pos n0, tm, mk_inj]
            intro e
            have := congrArg List.length e
            rw [lone, List.length_append] at this
            simp at this
            omega
          rw [if_neg no, if_pos (.inl n0)]
        by_cases m0 : m = 0
        · have no : ¬ pairT m n = mkS (b ++ [114]) := by
            unfold pairT
            rw [if_neg n0, if_pos m0, tn, r_S, mk_app, mk_inj]
            intro e
            have e := List.append_cancel_right e
            have le := congrArg List.length e
            have : (b.drop k).length = b.length - k := List.length_drop
            split at le
            · rw [List.length_drop] at le
              omega
            · omega
          rw [if_neg no, if_pos (.inr (.inl m0))]
        have hc' : c = 43 ∨ c = 45 := by
          unfold signB at hc
          simpa using hc
        have whole : b = b.take k ++ (c :: r) := by rw [← eo]; exact eb.symm
        have pt : pairT m n = decT m ++ sgT n ++ decT n ++ Str.ofString "r" := by
          unfold pairT
          rw [if_neg n0, if_neg m0]
        have hd : (b.drop k).head? = some c := by rw [eo]; rfl
        rcases hc' with rfl | rfl
        · rw [if_pos hd] at hn tn
          rw [eo, List.drop_one, List.tail_cons] at hn tn
          by_cases np : 0 < n
          · have yes : pairT m n = mkS (b ++ [114]) := by
              rw [pt, tm, tn, r_S]
              unfold sgT
              rw [if_pos np, plus_S, mk_app, mk_app, mk_app, mk_inj, List.append_assoc (b.take k), List.singleton_append, ← whole]
            rw [if_pos yes, if_neg]
            rintro (z | z | z)
            · exact n0 z
            · exact m0 z
            · omega
          · have no : ¬ pairT m n = mkS (b ++ [114]) := by
              rw [pt, tm, tn, r_S]
              unfold sgT
              rw [if_neg np, nil_S, mk_app, mk_app, mk_app, mk_inj, List.append_nil]
              intro e
              have e := List.append_cancel_right e
              have := congrArg List.length e
              rw [List.length_append, lone] at this
              have l2 := congrArg List.length whole
              rw [List.length_append, lone, List.length_cons] at l2
              omega
            rw [if_neg no, if_pos (.inr (.inr ⟨hd, by omega⟩))]
        · have nh : ¬ (b.drop k).head? = some 43 := by rw [hd]; decide
          rw [if_neg nh] at hn tn
          have neg := minus_neg hn (by rw [eo]; rfl)
          have yes : pairT m n = mkS (b ++ [114]) := by
            rw [pt, tm, tn, r_S]
            unfold sgT
            rw [if_neg (by omega), nil_S, mk_app, mk_app, mk_app, mk_inj, List.append_nil, eb]
          rw [if_pos yes, if_neg]
          rintro (z | z | z)
          · exact n0 z
          · exact m0 z
          · exact nh z.1
/-! ### pieces of texts, by their letters -/
theorem mk_letters (l : List Nat) : (mkS l).cps.toList = l := TL.tl_mk l
theorem neg_ix (n d : Nat) : HT.sIx n d (some (-1)) = n - 1 := by
  unfold HT.sIx
  dsimp only
  rw [if_pos (by decide)]
  omega
theorem cut_front (l : List Nat) (k : Nat) : cutS (mkS l) none (some (k : Int)) = mkS (l.take k) := by
  unfold cutS
  rw [HT.sIx_nat, HT.sIx_none, mk_letters, mkS_len, List.drop_zero, Nat.sub_zero]
  rcases Nat.le_total k l.length with h | h
  · rw [Nat.min_eq_left h]
  · rw [Nat.min_eq_right h, List.take_of_length_le h, List.take_of_length_le (Nat.le_refl _)]
theorem cut_back (l : List Nat) (k : Nat) : cutS (mkS l) (some (k : Int)) none = mkS (l.drop k) := by
  unfold cutS
  rw [HT.sIx_nat, HT.sIx_none, mk_letters, mkS_len]
  rcases Nat.le_total k l.length with h | h
  · rw [Nat.min_eq_left h, List.take_of_length_le (by rw [List.length_drop]; exact Nat.le_refl _)]
  · rw [Nat.min_eq_right h, List.drop_eq_nil_of_le h, List.drop_eq_nil_of_le (Nat.le_refl _), List.take_nil]
theorem cut_init (l : List Nat) : cutS (mkS l) none (some (-1)) = mkS l.dropLast := by
  unfold cutS
  rw [neg_ix, HT.sIx_none, mk_letters, mkS_len, List.drop_zero, Nat.sub_zero, List.dropLast_eq_take]
theorem cut_mid (l : List Nat) {k : Nat} (hk : k ≤ l.length) : cutS (mkS l) (some (k : Int)) (some (-1)) = mkS (l.dropLast.drop k) := by
  unfold cutS
  rw [neg_ix, HT.sIx_nat, mk_letters, mkS_len, Nat.min_eq_left hk, List.dropLast_eq_take, List.drop_take]
theorem last_one : ∀ (l : List Nat), l.drop (l.length - 1) = l.getLast?.toList
  | [] => rfl
  | [c] => rfl
  | c :: d :: r => by
    have e := last_one (d :: r)
    rw [List.getLast?_cons_cons]
    rw [← e]
    have : (c :: d :: r).length - 1 = ((d :: r).length - 1) + 1 := by simp
    rw [this, List.drop_succ_cons]
theorem cut_last (l : List Nat) : cutS (mkS l) (some (-1)) none = mkS l.getLast?.toList := by
  unfold cutS
  rw [neg_ix, HT.sIx_none, mk_letters, mkS_len, last_one, List.take_of_length_le]
  · cases l with
    | nil => exact Nat.le_refl _
    | cons c r =>
      cases (c :: r).getLast? with
      | none => exact Nat.zero_le _
      | some d => show 1 ≤ _; simp
theorem last_is (l : List Nat) (c : Nat) : decide (cutS (mkS l) (some (-1)) none = mkS [c]) = (l.getLast? == some c) := by
  rw [cut_last, Bool.eq_iff_iff, decide_eq_true_iff, mk_inj]
  cases l.getLast? with
  | none => simp
  | some d => simp
theorem one_at (l : List Nat) (c i : Nat) : Builtin.Str.subAt (mkS l) (mkS [c]) i = (l[i]? == some c) := by
  rw [StrLaws.subAt_eq, mk_letters, mk_letters, mkS_len, List.length_singleton]
  have e : (l.drop i).take 1 = l[i]?.toList := by
    rcases Nat.lt_or_ge i l.length with h | h
    · rw [List.drop_eq_getElem_cons h, List.getElem?_eq_getElem h]
      rfl
    · rw [List.drop_eq_nil_of_le h, List.getElem?_eq_none h]
      rfl
  rw [e]
  cases l[i]? with
  | none => rfl
  | some d =>
    rw [Bool.eq_iff_iff, beq_iff_eq, beq_iff_eq]
    simp
theorem ends_is (l : List Nat) (c : Nat) : PySem.Txt.endswith (mkS l) (mkS [c]) = (l.getLast? == some c) := by
  unfold PySem.Txt.endswith
  rw [one_at, mkS_len, mkS_len, List.length_singleton, List.getLast?_eq_getElem?]
  cases l with
  | nil => rfl
  | cons d r =>
    have : decide (0 + 1 ≤ (d :: r).length) = true := decide_eq_true (by simp)
    rw [this, Bool.true_and]
theorem prefix_is (l : List Nat) (c : Nat) : PySem.Txt.removeprefix (mkS l) (mkS [c]) = mkS (if l.head? = some c then l.drop 1 else l) := by
  rw [PySem.StrLaws.removeprefix_eq, one_at, mkS_len, mkS_len, List.length_singleton, mk_letters]
  cases l with
  | nil => rfl
  | cons d r =>
    have : decide (0 + 1 ≤ (d :: r).length) = true := decide_eq_true (by simp)
    rw [this, Bool.true_and]
    by_cases h : d = c
    · subst h
      rw [if_pos (by simp), if_pos (show (d :: r).head? = some d from rfl)]
      show mkS _ = _
      rw [List.take_of_length_le (by simp)]
    · rw [if_neg (by simpa using h), if_neg (by simpa using h)]
/-- where a letter stands last -/
def LastC (l : List Nat) (c : Nat) (r : Int) : Prop := (r = -1 ∧ ∀ j < l.length, l.getD j 0 ≠ c) ∨ ∃ k : Nat, r = k ∧ k < l.length ∧ l.getD k 0 = c ∧ ∀ j, k < j → j < l.length → l.getD j 0 ≠ c
theorem rfind_is (l : List Nat) (c : Nat) : LastC l c (PySem.Txt.rfind (mkS l) (mkS [c])) := by
  have at_iff : ∀ i, PySem.StrLaws.At (mkS l) (mkS [c]) (mkS l).length i ↔ i < l.length ∧ l.getD i 0 = c := by
    intro i
    unfold PySem.StrLaws.At
    rw [one_at, mkS_len, mkS_len, List.length_singleton]
    constructor
    · rintro ⟨h1, h2⟩
      have h : i < l.length := h1
      refine ⟨h, ?_⟩
      rw [List.getElem?_eq_getElem h] at h2
      rw [List.getD_eq_getElem?_getD, List.getElem?_eq_getElem h]
      simpa using h2
    · rintro ⟨h, h2⟩
      refine ⟨h, ?_⟩
      rw [List.getD_eq_getElem?_getD, List.getElem?_eq_getElem h] at h2
      rw [List.getElem?_eq_getElem h]
      simpa using h2
  unfold PySem.Txt.rfind
  rcases PySem.StrLaws.last_spec (mkS l) (mkS [c]) with ⟨e, no⟩ | ⟨i, e, a, no⟩
  · rw [e]
    exact .inl ⟨rfl, fun j hj z => no j ((at_iff j).mpr ⟨hj, z⟩)⟩
  · rw [e]
    obtain ⟨h1, h2⟩ := (at_iff i).mp a
    exact .inr ⟨i, rfl, h1, h2, fun j hj hl z => no j hj ((at_iff j).mpr ⟨hl, z⟩)⟩
theorem max_at {b : List Nat} {p m : Int} (hp : LastC b 43 p) (hm : LastC b 45 m) : ((if m > p then m else p) < 1 ∧ IsAt b 0) ∨ ∃ k : Nat, 1 ≤ k ∧ (if m > p then m else p) = k ∧ IsAt b k := by
  have sg : ∀ j, b.getD j 0 ≠ 43 → b.getD j 0 ≠ 45 → signB (b.getD j 0) = false := by
    intro j h1 h2
    unfold signB
    rw [beq_eq_false_iff_ne.mpr h1, beq_eq_false_iff_ne.mpr h2]
    rfl
  have top : ∀ (k : Nat), k < b.length → signB (b.getD k 0) = true → (∀ j, k < j → j < b.length → b.getD j 0 ≠ 43 ∧ b.getD j 0 ≠ 45) → ∀ x : Int, x = k → (x < 1 ∧ IsAt b 0) ∨ ∃ k : Nat, 1 ≤ k ∧ x = k ∧ IsAt b k := by
    intro k hk hs hn x ex
    rcases Nat.eq_zero_or_pos k with rfl | k1
    · exact .inl ⟨by omega, .inl ⟨rfl, fun j j1 jl => sg j (hn j (by omega) jl).1 (hn j (by omega) jl).2⟩⟩
    · exact .inr ⟨k, k1, ex, .inr ⟨k1, hk, hs, fun j jk jl => sg j (hn j jk jl).1 (hn j jk jl).2⟩⟩
  rcases hp with ⟨rfl, np⟩ | ⟨i, rfl, li, ei, ni⟩ <;> rcases hm with ⟨rfl, nm⟩ | ⟨j, rfl, lj, ej, nj⟩
  · rw [if_neg (by decide)]
    exact .inl ⟨by decide, .inl ⟨rfl, fun x _ xl => sg x (np x xl) (nm x xl)⟩⟩
  · rw [if_pos (by omega)]
    exact top j lj (by rw [ej]; rfl) (fun x h1 h2 => ⟨np x h2, nj x h1 h2⟩) _ rfl
  · rw [if_neg (by omega)]
    exact top i li (by rw [ei]; rfl) (fun x h1 h2 => ⟨ni x h1 h2, nm x h2⟩) _ rfl
  · by_cases h : (j : Int) > i
    · rw [if_pos h]
      exact top j lj (by rw [ej]; rfl) (fun x h1 h2 => ⟨ni x (by omega) h2, nj x h1 h2⟩) _ rfl
    · rw [if_neg h]
      refine top i li (by rw [ei]; rfl) (fun x h1 h2 => ⟨ni x h1 h2, ?_⟩) _ rfl
      exact nj x (by omega) h2
/-! ### texts that are read back, and texts that are too long -/
def lets (n : Int) : List Nat := if n < 0 then 45 :: TL.numL n.natAbs else TL.numL n.natAbs
theorem dec_lets (n : Int) : decT n = mkS (lets n) := by
  have nat : ∀ m : Nat, decT (m : Int) = mkS (TL.numL m) := fun m => TL.ext_tl (by rw [TL.tl_mk]; exact TL.tl_num m)
  unfold lets
  by_cases h : n < 0
  · rw [if_pos h, ← neg_text h, show -n = ((n.natAbs : Nat) : Int) by omega, nat, show Str.ofString "-" = mkS [45] by decide +kernel, mk_app]
    rfl
  · rw [if_neg h]
    have := nat n.natAbs
    rwa [show ((n.natAbs : Nat) : Int) = n by omega] at this
theorem num_minus (m : Nat) : minusB (TL.numL m) = false := by
  unfold minusB
  rw [beq_eq_false_iff_ne]
  intro e
  exact TL.numL_free (n := m) (s := 45) (.inl (by decide)) (List.mem_of_mem_head? e)
theorem lets_digs (n : Int) : digsL (lets n) = TL.numL n.natAbs := by
  unfold digsL lets
  by_cases h : n < 0
  · rw [if_pos h, if_pos (by rfl)]
    rfl
  · rw [if_neg h, if_neg (by rw [num_minus]; decide)]
theorem lets_minus (n : Int) : minusB (lets n) = decide (n < 0) := by
  unfold lets
  by_cases h : n < 0
  · rw [if_pos h, decide_eq_true h]
    rfl
  · rw [if_neg h, decide_eq_false h, num_minus]
theorem read_lets {n : Int} (h : n.natAbs < 10 ^ 20) : readN (lets n) = some n := by
  have g : guardB (lets n) = true := by
    unfold guardB
    rw [lets_digs, Bool.and_eq_true]
    have l0 : (TL.numL n.natAbs).length ≠ 0 := fun e => TL.numL_ne n.natAbs (List.eq_nil_of_length_eq_zero e)
    refine ⟨decide_eq_true ⟨by omega, TL.numL_len (by decide) h⟩, List.all_eq_true.mpr fun c hc => decide_eq_true ?_⟩
    exact TL.numL_digits _ c hc
  have v : valN (lets n) = n := by
    unfold valN
    rw [lets_minus, lets_digs, TL.numL_val]
    by_cases z : n < 0
    · rw [if_pos (decide_eq_true z)]
      omega
    · rw [if_neg (by rw [decide_eq_false z]; decide)]
      omega
  have t := guard_text g
  rw [v] at t
  unfold readN
  rw [if_pos g, t.mp (dec_lets n), if_neg (by decide), v]
theorem lets_ne (n : Int) : lets n ≠ [] := by
  unfold lets
  split
  · exact fun e => by cases e
  · exact TL.numL_ne _
theorem num_sign {m j : Nat} (h : j < (TL.numL m).length) : signB ((TL.numL m).getD j 0) = false := by
  have : (TL.numL m).getD j 0 ∈ TL.numL m := by
    rw [List.getD_eq_getElem?_getD, List.getElem?_eq_getElem h]
    exact List.getElem_mem h
  have := TL.numL_digits m _ this
  unfold signB
  rw [beq_eq_false_iff_ne.mpr (by omega), beq_eq_false_iff_ne.mpr (by omega)]
  rfl
theorem lets_at (n : Int) : IsAt (lets n) 0 := by
  refine .inl ⟨rfl, fun j h1 h2 => ?_⟩
  revert h2
  unfold lets
  split
  · intro h2
    obtain ⟨i, rfl⟩ : ∃ i, j = i + 1 := ⟨j - 1, by omega⟩
    rw [List.getD_cons_succ]
    rw [List.length_cons] at h2
    exact num_sign (by omega)
  · exact fun h2 => num_sign h2
theorem lets_last (n : Int) : ¬ (lets n).getLast? = some 114 := by
  intro e
  have m := List.mem_of_getLast? e
  revert m
  unfold lets
  split
  · intro m
    rcases List.mem_cons.mp m with z | z
    · cases z
    · exact TL.numL_free (.inr (by decide)) z
  · exact fun m => TL.numL_free (.inr (by decide)) m
def pairL (a b : Int) : List Nat := if b = 0 then lets a else if a = 0 then lets b ++ [114] else lets a ++ (if 0 < b then [43] else []) ++ lets b ++ [114]
theorem pair_lets (a b : Int) : pairT a b = mkS (pairL a b) := by
  unfold pairT pairL sgT
  split
  · exact dec_lets a
  split
  · rw [dec_lets, r_S, mk_app]
  · split
    · rw [dec_lets, dec_lets, plus_S, r_S, mk_app, mk_app, mk_app]
    · rw [dec_lets, dec_lets, nil_S, r_S, mk_app, mk_app, mk_app]
theorem read_pairL {a b : Int} (ha : a.natAbs < 10 ^ 20) (hb : b.natAbs < 10 ^ 20) : readP (pairL a b) = some (a, b) := by
  unfold readP pairL
  by_cases b0 : b = 0
  · rw [if_pos b0, if_neg (lets_last a), read_lets ha, b0]
    rfl
  rw [if_neg b0]
  by_cases a0 : a = 0
  · rw [if_pos a0, if_pos (by simp), List.dropLast_concat, at_one (sgAt_is _) (lets_at b)]
    unfold resP
    rw [if_pos rfl, read_lets hb]
    dsimp only
    rw [if_neg b0, a0]
  rw [if_neg a0, if_pos (by simp), List.dropLast_concat]
  have la : (lets a).length ≠ 0 := fun e => lets_ne a (List.eq_nil_of_length_eq_zero e)
  -- the sign, and what stands behind it
  obtain ⟨c, m, e, sc⟩ : ∃ c m, (if 0 < b then [43] else []) ++ lets b = c :: TL.numL m ∧ ((c = 43 ∧ 0 < b ∧ lets b = TL.numL m) ∨ (c = 45 ∧ b < 0 ∧ lets b = 45 :: TL.numL m)) := by
    by_cases p : 0 < b
    · have : lets b = TL.numL b.natAbs := by unfold lets; rw [if_neg (by omega)]
      exact ⟨43, b.natAbs, by rw [if_pos p, this]; rfl, .inl ⟨rfl, p, this⟩⟩
    · have n : b < 0 := by omega
      have : lets b = 45 :: TL.numL b.natAbs := by unfold lets; rw [if_pos n]
      exact ⟨45, b.natAbs, by rw [if_neg p, this]; rfl, .inr ⟨rfl, n, this⟩⟩
  rw [List.append_assoc, e]
  have sg : signB c = true := by
    rcases sc with ⟨rfl, _⟩ | ⟨rfl, _⟩ <;> rfl
  have iA : IsAt (lets a ++ c :: TL.numL m) (lets a).length := by
    refine .inr ⟨by omega, by rw [List.length_append, List.length_cons]; omega, ?_, fun j h1 h2 => ?_⟩
    · rw [List.getD_eq_getElem?_getD, List.getElem?_append_right (Nat.le_refl _), Nat.sub_self]
      exact sg
    · rw [List.length_append, List.length_cons] at h2
      obtain ⟨i, rfl⟩ : ∃ i, j = (lets a).length + (i + 1) := ⟨j - (lets a).length - 1, by omega⟩
      rw [List.getD_eq_getElem?_getD, List.getElem?_append_right (by omega), Nat.add_sub_cancel_left, List.getElem?_cons_succ, ← List.getD_eq_getElem?_getD]
      exact num_sign (by omega)
  rw [at_one (sgAt_is _) iA]
  unfold resP
  rw [if_neg la, List.take_left', List.drop_left', read_lets ha]
  · rcases sc with ⟨rfl, p, eb⟩ | ⟨rfl, n, eb⟩
    · rw [if_pos (show (43 :: TL.numL m).head? = some 43 from rfl), List.drop_one, List.tail_cons, ← eb, read_lets hb]
      dsimp only
      rw [if_neg]
      rintro (z | z | z) <;> omega
    · rw [if_neg (by simp), ← eb, read_lets hb]
      dsimp only
      rw [if_neg]
      rintro (z | z | z)
      · omega
      · omega
      · rw [eb] at z
        cases z.1
  · rfl
  · rfl
theorem readN_short {z : List Nat} {n : Int} (h : readN z = some n) : z.length ≤ 21 := by
  unfold readN at h
  split at h
  · rename_i g
    exact guard_len g
  · cases h
theorem readP_short {z : List Nat} {p : Int × Int} (h : readP z = some p) : z.length ≤ 44 := by
  unfold readP at h
  split at h
  · rename_i e
    obtain ⟨b, rfl⟩ := List.getLast?_eq_some_iff.mp e
    rw [List.dropLast_concat] at h
    rw [List.length_append, List.length_singleton]
    unfold resP at h
    split at h
    · cases hn : readN b with
      | none =>
        rw [hn] at h
        cases h
      | some n =>
        have := readN_short hn
        omega
    · generalize sgAt b = k at h
      cases hm : readN (b.take k) with
      | none =>
        rw [hm] at h
        cases h
      | some m =>
        cases hn : readN (if (b.drop k).head? = some 43 then (b.drop k).drop 1 else b.drop k) with
        | none =>
          rw [hm, hn] at h
          cases h
        | some n =>
          have h1 := readN_short hm
          have h2 := readN_short hn
          rw [List.length_take] at h1
          split at h2
          · rw [List.length_drop, List.length_drop] at h2
            omega
          · rw [List.length_drop] at h2
            omega
  · cases hn : readN z with
    | none =>
      rw [hn] at h
      cases h
    | some n =>
      have := readN_short hn
      omega
theorem long_none {z : List Nat} (h : 44 < z.length) : readP z = none := by
  cases e : readP z with
  | none => rfl
  | some p =>
    have := readP_short e
    omega
/-! ### heaps, with what is wrong in them told -/
section
variable {X : Cx}
theorem pi_seq {tg e : Expr} {t : TE} (h : PE X e t) : PI X tg e (fun σ H R => iList X.K t σ H R ∨ iTup X.K t σ H R) := PI.or (pi_list h) (pi_tup h)
/-- d.items() -/
theorem pe_itemsDS {o : Expr} {apos cpos : Pos} {td : TE} (ho : PE X o td) (hb : attributeBase o "items" X.env (eval o X.env) = eval o X.env := by rfl) (hl : (apos.endLine == cpos.line) = true := by rfl) :
    PE X (.Call (.Attribute o "items" apos) [] [] cpos) (fun σ H Q => td σ H fun v G => rItemsDS X.prog X.w v [] G Q) := by
  constructor
  intro pins s σ H Q I h
  apply wpAny_Call_method0_late hb hl
  refine thn (ho.run pins s σ H _ I h) ?_
  rintro u s1 ⟨v, G, I1, rv, d, es, rfl, _, D, q⟩
  cases rv
  obtain ⟨t1, t2⟩ := ds_dict I1 D.rd
  exact ⟨"dict", "dict.items", PySem.F.plainAttrs_dict, PySem.F.slot_dict_items, PySem.F.type_dict_items, t1, t2, Calls.callWith_builtin rfl (PySem.evalArgs_none (mt_itemsDS pins s1 σ G (.ref d) [] (.ref d) [] Q I1 rfl .nil ⟨d, es, rfl, rfl, D, q⟩))⟩
end
/-- a for over enumerate of a list that stays -/
theorem for_enumL {K : PySem.W.Frag} {a : Addr} {xs : List V} {g : TG} {tb : TS} {D : Ends} {σ : L2.St} {H : Hp} (Pv : Nat → L2.St → Hp → Prop) (h0 : Pv 0 σ H) (hl : ∀ i τ G, i ≤ xs.length → Pv i τ G → SqL K G a xs)
    (turn : ∀ i x τ G T, xs[i]? = some x → Pv i τ G → G T = none → g (.ref T) τ (upd G T (.tup [.int (i : Nat), x])) fun τ2 G2 => tb { D with nx := Pv (i + 1), ct := Pv (i + 1), bk := D.nx } τ2 G2) (fin : ∀ τ G, Pv xs.length τ G → D.nx τ G) :
    ∃ W : Nat → Nat → L2.St → Hp → Prop, (∃ m, W 0 m σ H) ∧ ∀ i m τ G, W i m τ G → ((Ite K a).stop i G ∧ D.nx τ G) ∨ ((Ite K a).go i G ∧ ∃ N : L2.St → Hp → Prop, (∀ τ' G', N τ' G' → ∃ m', m' < m ∧ W (i + 1) m' τ' G') ∧
      ∀ x G', (Ite K a).yld i G x G' → g x τ G' fun τ2 G2 => tb { D with nx := N, ct := N, bk := D.nx } τ2 G2) := by
  refine ⟨fun i m τ G => m + i = xs.length ∧ Pv i τ G, ⟨xs.length, rfl, h0⟩, ?_⟩
  rintro i m τ G ⟨hm, pv⟩
  have sq := hl i τ G (by omega) pv
  cases m with
  | zero =>
    obtain rfl : i = xs.length := by omega
    exact .inl ⟨⟨xs, sq, Nat.le_refl _⟩, fin τ G pv⟩
  | succ m =>
    refine .inr ⟨⟨xs, xs[i], sq, List.getElem?_eq_getElem (by omega)⟩, Pv (i + 1), fun τ' G' z => ⟨m, Nat.lt_succ_self m, by omega, z⟩, ?_⟩
    rintro x G' ⟨T, y, rfl, hT, rfl, at_⟩
    exact turn i y τ G T (at_ xs sq) pv hT
/-! rows, as they are handed in -/
def LenOk (d a b : Int) : Prop := 0 < vl a b d ∧ a.natAbs < 2 ^ 200 ∧ b.natAbs < 2 ^ 200
def ShOk (d : Int) (x : Sh) : Prop := LenOk d x.1 x.2.1 ∧ LenOk d x.2.2.1 x.2.2.2
def EsOk (d : Int) (es : DEs) : Prop := ∀ e ∈ es, ShOk d e.1 ∧ 1 ≤ e.2.2
/-- the rows es, in a list or in a tuple -/
inductive Handed (K : PySem.W.Frag) (H : Hp) : V → DEs → Prop
  | list {l : Addr} {as : List Addr} {es : DEs} (hl : SqL K H l (as.map V.ref)) (hr : RowsAt H as es) (hk : ∀ e ∈ es, ShAt H e.2.1 e.1) : Handed K H (.ref l) es
  | tup {t : Addr} {as : List Addr} {es : DEs} (ht : SqT K H t (as.map V.ref)) (hr : RowsAt H as es) (hk : ∀ e ∈ es, ShAt H e.2.1 e.1) : Handed K H (.ref t) es
theorem Handed.same {K : PySem.W.Frag} {H H' : Hp} {r : V} {es : DEs} (h : Handed K H r es) (s : Same H H') : Handed K H' r es := by
  cases h with
  | list hl hr hk => exact .list (Same.seq s hl) (hr.mono fun p xs z => s _ _ z) fun e he => (hk e he).same s
  | tup ht hr hk => exact .tup (Evl.ex_t s ht) (hr.mono fun p xs z => s _ _ z) fun e he => (hk e he).same s
theorem Handed.none {K : PySem.W.Frag} {H : Hp} {t : Addr} (ht : SqT K H t []) : Handed K H (.ref t) [] := .tup (as := []) ht .nil fun e he => by cases he
theorem RowsAt.row {H : Hp} {as : List Addr} {es : DEs} (h : RowsAt H as es) {i : Nat} {v : V} (hv : (as.map V.ref)[i]? = some v) : ∃ a e, v = .ref a ∧ es[i]? = some e ∧ H a = some (.tup [.ref e.2.1, .int e.2.2]) := by
  rw [List.getElem?_map] at hv
  cases ha : as[i]? with
  | none =>
    rw [ha] at hv
    cases hv
  | some a =>
    rw [ha] at hv
    obtain ⟨e, he, z⟩ := Paired.getL h ha
    exact ⟨a, e, (Option.some.inj hv).symm, he, z⟩
theorem RowsAt.len {H : Hp} {as : List Addr} {es : DEs} (h : RowsAt H as es) : as.length = es.length := Paired.length h
theorem w100 {x : Int} (h : x.natAbs < 2 ^ 200) : x.natAbs < 2 ^ 9000 := Nat.lt_of_lt_of_le h (Nat.pow_le_pow_right (by decide) (by decide))
/-- whether a tuple of two pairs is a sheet, whether a row has a sheet and a count -/
def shB (d : Int) (x : Sh) : Bool := decide (0 < vl x.1 x.2.1 d) && decide (0 < vl x.2.2.1 x.2.2.2 d)
def rowB (d : Int) (e : Sh × Addr × Int) : Bool := decide (1 ≤ e.2.2) && shB d e.1
def Sh100 (x : Sh) : Prop := x.1.natAbs < 2 ^ 200 ∧ x.2.1.natAbs < 2 ^ 200 ∧ x.2.2.1.natAbs < 2 ^ 200 ∧ x.2.2.2.natAbs < 2 ^ 200
theorem ShOk.b {d : Int} {x : Sh} (h : ShOk d x) : shB d x = true ∧ Sh100 x := ⟨by unfold shB; rw [decide_eq_true h.1.1, decide_eq_true h.2.1]; rfl, h.1.2.1, h.1.2.2, h.2.2.1, h.2.2.2⟩
theorem sg_pos (a b d : Int) : decide (0 < sgnI (vl a b d)) = decide (0 < vl a b d) := by
  rcases Int.lt_trichotomy (vl a b d) 0 with h | h | h
  · rw [sgnI_neg h, decide_eq_false (by decide), decide_eq_false (by omega)]
  · rw [h]
    rfl
  · rw [sgnI_pos h, decide_eq_true h]
    rfl
section
variable {base : Heap} {K : PySem.W.Frag} {mg : Str → Option Value} {P : Program} {w : World}
def spIsSheet (K : PySem.W.Frag) : Sp := fun vs H Q _ => ∃ (p : Addr) (d : Int) (x : Sh), vs = [.ref p, .int d] ∧ ShAt H p x ∧ d.natAbs < 2 ^ 64 ∧ Sh100 x ∧ Q (.bl (shB d x)) H
theorem ok_is_sheet (T : Txt K mg) : FnOk P w K mg base CX0 3 T.f_is_sheet T.d_is_sheet ["sheet", "root"] (spIsSheet K) := by
  refine T.F_is_sheet.ok sc_is_sheet (fun vs H Q E h => ?_) (fun cdv A outer s H vs Q E hr h => ?_)
  · obtain ⟨p, d, x, rfl, _⟩ := h
    rfl
  · obtain ⟨p, d, x, rfl, ⟨u, v, h1, h2, h3⟩, hd, ⟨b1, b2, b3, b4⟩, q⟩ := h
    refine ⟨_, (pss_cons (ps_asg (pv 0) (pg_tup (by rfl) (pgs_cons (pg_name (i := 2) sc_is_sheet.nd rfl (Or.inl rfl)) (pgs_cons (pg_name (i := 3) sc_is_sheet.nd rfl (Or.inl rfl)) pgs_nil))))
      (pss_one (ps_ret (pe_and (pe_call (ok_is_length T) (hr.mono (by decide)) (by rfl) T.g_is_length T.F_is_length.kp T.b_is_length .nil pass0 (pa_cons (pv 2) (pa_cons (pv 1) pa_nil))) (pe_one (pe_call (ok_is_length T) (hr.mono (by decide)) (by rfl) T.g_is_length T.F_is_length.kp T.b_is_length .nil pass0 (pa_cons (pv 3) (pa_cons (pv 1) pa_nil)))))))), ?_⟩
    refine ⟨_, rfl, p, _, rfl, SqT.of h1, rfl, .ref u, _, rfl, .ref v, _, rfl, rfl, ?_⟩
    refine ⟨_, rfl, _, rfl, .ref u, d, _, _, rfl, ⟨u, rfl, SqT.of h2⟩, hd, w100 b1, w100 b2, _, (by rw [sg_pos]), ?_⟩
    unfold shB at q
    cases z : decide (0 < vl x.1 x.2.1 d) with
    | false =>
      rw [z, Bool.false_and] at q
      exact iteF q
    | true =>
      rw [z, Bool.true_and] at q
      refine iteT ⟨_, rfl, _, rfl, .ref v, d, _, _, rfl, ⟨v, rfl, SqT.of h3⟩, hd, w100 b3, w100 b4, ?_⟩
      rw [sg_pos]
      exact q
/-- an error of one number, made and raised -/
def Throws (C : Addr) (fs : List (Str × V)) (H : Hp) (E : XK) : Prop := ∀ x Hf, H x = none → Same H Hf → Hf x = some (.xd fs) → E (.ref C) (some x) Hf
theorem Throws.up {C : Addr} {fs : List (Str × V)} {H H1 : Hp} {E : XK} (h : Throws C fs H E) (s : Same H H1) : Throws C fs H1 E := fun x Hf hx s1 f1 => h x Hf (s.free hx) (s.trans s1) f1
def badRow (i : Nat) : List (Str × V) := [("at", .int (i : Int)), ("word", .str "BadRow")]
def badRoot (n : V) : List (Str × V) := [("number", n), ("word", .str "BadRoot")]
end
section
variable {base : Heap} {K : PySem.W.Frag} {mg : Str → Option Value} {w : World}
def spCkRoot (T : Txt K mg) : Sp := fun vs H Q E => ∃ n : Int, vs = [.int n] ∧ (isRB n = true → Q .non H) ∧ (isRB n = false → Throws T.e_BadRoot.C (badRoot (.int n)) H E)
theorem ok_check_root (T : Txt K mg) : FnOk PySem.Challenge.pw_grainyard_k65_texts_of_heaps w K mg base (L2.CX PySem.Challenge.pw_grainyard_k65_texts_of_heaps w) 3 T.f_check_root T.d_check_root ["root"] (spCkRoot T) := by
  refine T.F_check_root.okX sc_check_root (fun vs H Q E h => ?_) (fun cdv A outer s H vs Q E hr h => ?_)
  · obtain ⟨n, rfl, _⟩ := h
    rfl
  · obtain ⟨n, rfl, q1, q2⟩ := h
    refine ⟨_, (pss_one (ps_if (pt_not (pt_val (pe_call (ok_is_root T) (hr.mono (by decide)) (by rfl) T.g_is_root T.F_is_root.kp T.b_is_root .nil pass0 (pa_cons (pv 0) pa_nil)))) (pss_one (ps_raise rfl (takes_of rfl rfl rfl rfl) (pmk_oex (oex_of T.e_BadRoot) T.e_BadRoot.iC T.e_BadRoot.tI (ini_BadRoot T) (hr.mono (by decide)) (bi_BadRoot T) .nil pass0 (by rfl) T.e_BadRoot.g (pa_cons (pv 0) pa_nil)))) pss_nil)), ?_⟩
    refine ⟨_, rfl, n, rfl, _, rfl, ?_⟩
    cases e : isRB n with
    | true => exact iteF (q1 e)
    | false => exact iteT ⟨_, rfl, mk_use rfl (by decide) fun d Hf hd s1 f1 => q2 e d Hf hd s1 f1⟩
def Es100 (es : DEs) : Prop := ∀ e ∈ es, Sh100 e.1
def FirstBad (d : Int) (es : DEs) (i : Nat) : Prop := (∃ e, es[i]? = some e ∧ rowB d e = false) ∧ ∀ j f, j < i → es[j]? = some f → rowB d f = true
def spCkRows (T : Txt K mg) : Sp := fun vs H Q E => ∃ (r : V) (d : Int) (es : DEs), vs = [r, .int d] ∧ Handed K H r es ∧ d.natAbs < 2 ^ 64 ∧ Es100 es ∧ ((∀ e ∈ es, rowB d e = true) → ∀ H', Same H H' → Q .non H') ∧ (∀ i, FirstBad d es i → Throws T.e_BadRow.C (badRow i) H E)
theorem ok_check_rows (T : Txt K mg) : FnOk PySem.Challenge.pw_grainyard_k65_texts_of_heaps w K mg base (L2.CX PySem.Challenge.pw_grainyard_k65_texts_of_heaps w) 4 T.f_check_rows T.d_check_rows ["rows", "root"] (spCkRows T) := by
  refine T.F_check_rows.okX sc_check_rows (fun vs H Q E h => ?_) (fun cdv A outer s H vs Q E hr h => ?_)
  · obtain ⟨r, d, es, rfl, _⟩ := h
    rfl
  · obtain ⟨r, d, es, rfl, hh, hd, b, q1, q2⟩ := h
    refine ⟨_, (pss_one (ps_for (passes_of rfl) rfl (PI.or (pi_enum (by rfl) T.n_enumerate (pa_cons (pv 0) pa_nil)) (pi_enumT (by rfl) T.n_enumerate (pa_cons (pv 0) pa_nil))) (pg_tup (by rfl) (pgs_cons (pg_name (i := 2) sc_check_rows.nd rfl (Or.inl rfl)) (pgs_cons (pg_tup (by rfl) (pgs_cons (pg_name (i := 3) sc_check_rows.nd rfl (Or.inl rfl)) (pgs_cons (pg_name (i := 4) sc_check_rows.nd rfl (Or.inl rfl)) pgs_nil))) pgs_nil))) (pss_one (ps_if (PW.pt (pw_or (pt_cmpR op_lt (pv 4) pe_int (nomark _)) (pw_or1 (pt_not (pt_val (pe_call (ok_is_sheet T) (hr.mono (by decide)) (by rfl) T.g_is_sheet T.F_is_sheet.kp T.b_is_sheet .nil pass0 (pa_cons (pv 3) (pa_cons (pv 1) pa_nil)))))))) (pss_one (ps_raise rfl (takes_of rfl rfl rfl rfl) (pmk_oex (oex_of T.e_BadRow) T.e_BadRow.iC T.e_BadRow.tI (ini_BadRow T) (hr.mono (by decide)) (bi_BadRow T) .nil pass0 (by rfl) T.e_BadRow.g (pa_cons (pv 2) pa_nil)))) pss_nil)))), ?_⟩
    have all : ∀ n, n = es.length → (∀ j f, j < n → es[j]? = some f → rowB d f = true) → ∀ e ∈ es, rowB d e = true := by
      intro n hn g e he
      obtain ⟨j, hj⟩ := List.mem_iff_getElem?.mp he
      exact g j e (by rw [hn]; exact (List.getElem?_eq_some_iff.mp hj).1) hj
    cases hh with
    | @list l as _ hl hr hk =>
      refine .inl ⟨_, rfl, l, _, rfl, hl, for_enumL (K := K) (a := l) (xs := as.map V.ref) (fun i σ H' => ∃ y2 y3 y4, σ = [some (.ref l), some (.int d), y2, y3, y4] ∧ Same H H' ∧ ∀ j f, j < i → es[j]? = some f → rowB d f = true) ⟨_, _, _, rfl, Same.refl _, fun j f hj => absurd hj (Nat.not_lt_zero _)⟩ ?_ ?_ ?_⟩
      · rintro i τ G hi ⟨_, _, _, _, s, _⟩
        exact Same.seq s hl
      · rintro i x τ G T1 hx ⟨y2, y3, y4, rfl, s, good⟩ hT
        obtain ⟨a, e, rfl, he, ha⟩ := hr.row hx
        have s1 := s.trans (same_new (o := .tup [.int (i : Nat), .ref a]) hT)
        have me := List.mem_of_getElem? he
        refine ⟨T1, _, rfl, SqT.of upd_same, rfl, .int i, _, rfl, .ref a, _, rfl, a, _, rfl, SqT.of (s1 _ _ ha), rfl, .ref e.2.1, _, rfl, .int e.2.2, _, rfl, rfl, rfl, ?_⟩
        have bad : rowB d e = false → Throws T.e_BadRow.C (badRow i) (upd G T1 (.tup [.int (i : Nat), .ref a])) E := fun z => (q2 i ⟨⟨e, he, z⟩, good⟩).up s1
        refine ⟨_, rfl, e.2.2, 1, rfl, rfl, _, rfl, ite2 (fun z => ?_) (fun z => ?_)⟩
        · refine ⟨_, rfl, mk_use rfl (by decide) fun x Hf hx s2 f2 => bad ?_ x Hf hx s2 f2⟩
          have z := of_decide_eq_true z
          unfold rowB
          rw [decide_eq_false (by omega)]
          rfl
        · have z1 : 1 ≤ e.2.2 := by
            have : ¬ e.2.2 < 1 := fun q => z (decide_eq_true q)
            omega
          refine ⟨_, rfl, _, rfl, e.2.1, d, e.1, rfl, (hk e me).same s1, hd, b e me, _, rfl, ?_⟩
          cases q : shB d e.1 with
          | true =>
            refine iteF ⟨_, _, _, rfl, s1, fun j f hj hf => ?_⟩
            rcases Nat.lt_succ_iff_lt_or_eq.mp hj with l | rfl
            · exact good j f l hf
            · cases he.symm.trans hf
              unfold rowB
              rw [decide_eq_true z1, q]
              rfl
          | false =>
            refine iteT ⟨_, rfl, mk_use rfl (by decide) fun x Hf hx s2 f2 => bad ?_ x Hf hx s2 f2⟩
            unfold rowB
            rw [q, Bool.and_false]
      · rintro τ G ⟨_, _, _, rfl, s, good⟩
        rw [List.length_map, hr.len] at good
        exact q1 (all _ rfl good) _ s
    | @tup l as _ hl hr hk =>
      refine .inr ⟨_, rfl, l, _, rfl, hl, for_enumT (K := K) (a := l) (xs := as.map V.ref) (fun i σ H' => ∃ y2 y3 y4, σ = [some (.ref l), some (.int d), y2, y3, y4] ∧ Same H H' ∧ ∀ j f, j < i → es[j]? = some f → rowB d f = true) ⟨_, _, _, rfl, Same.refl _, fun j f hj => absurd hj (Nat.not_lt_zero _)⟩ ?_ ?_ ?_⟩
      · rintro i τ G hi ⟨_, _, _, _, s, _⟩
        exact Evl.ex_t s hl
      · rintro i x τ G T1 hx ⟨y2, y3, y4, rfl, s, good⟩ hT
        obtain ⟨a, e, rfl, he, ha⟩ := hr.row hx
        have s1 := s.trans (same_new (o := .tup [.int (i : Nat), .ref a]) hT)
        have me := List.mem_of_getElem? he
        refine ⟨T1, _, rfl, SqT.of upd_same, rfl, .int i, _, rfl, .ref a, _, rfl, a, _, rfl, SqT.of (s1 _ _ ha), rfl, .ref e.2.1, _, rfl, .int e.2.2, _, rfl, rfl, rfl, ?_⟩
        have bad : rowB d e = false → Throws T.e_BadRow.C (badRow i) (upd G T1 (.tup [.int (i : Nat), .ref a])) E := fun z => (q2 i ⟨⟨e, he, z⟩, good⟩).up s1
        refine ⟨_, rfl, e.2.2, 1, rfl, rfl, _, rfl, ite2 (fun z => ?_) (fun z => ?_)⟩
        · refine ⟨_, rfl, mk_use rfl (by decide) fun x Hf hx s2 f2 => bad ?_ x Hf hx s2 f2⟩
          have z := of_decide_eq_true z
          unfold rowB
          rw [decide_eq_false (by omega)]
          rfl
        · have z1 : 1 ≤ e.2.2 := by
            have : ¬ e.2.2 < 1 := fun q => z (decide_eq_true q)
            omega
          refine ⟨_, rfl, _, rfl, e.2.1, d, e.1, rfl, (hk e me).same s1, hd, b e me, _, rfl, ?_⟩
          cases q : shB d e.1 with
          | true =>
            refine iteF ⟨_, _, _, rfl, s1, fun j f hj hf => ?_⟩
            rcases Nat.lt_succ_iff_lt_or_eq.mp hj with l | rfl
            · exact good j f l hf
            · cases he.symm.trans hf
              unfold rowB
              rw [decide_eq_true z1, q]
              rfl
          | false =>
            refine iteT ⟨_, rfl, mk_use rfl (by decide) fun x Hf hx s2 f2 => bad ?_ x Hf hx s2 f2⟩
            unfold rowB
            rw [q, Bool.and_false]
      · rintro τ G ⟨_, _, _, rfl, s, good⟩
        rw [List.length_map, hr.len] at good
        exact q1 (all _ rfl good) _ s
end
section
variable {base : Heap} {K : PySem.W.Frag} {mg : Str → Option Value} {P : Program} {w : World}
/-- what a dict that is made is told by -/
def NewD (P : Program) (w : World) (H : Hp) (es : DEs) (Q : VK) : Prop := ∀ d H', H d = none → Same H H' → DAt P w H' d es → Q (.ref d) H'
def spMerged (K : PySem.W.Frag) (P : Program) (w : World) : Sp := fun vs H Q _ => ∃ (r : V) (es : DEs), vs = [r] ∧ Handed K H r es ∧ es.length ≤ 1000 ∧ NewD P w H (sortE (mergeD es)) Q
theorem step_put {H H1 : Hp} {c : Addr} {es : DEs} {e : Sh × Addr × Int} {i : Nat} (hc : H c = none) (s : Same H H1) (D : DAt P w H1 c (mergeTo es i)) (hs : ShAt H1 e.2.1 e.1) (he : es[i]? = some e) :
    Same H (upd H1 c (DS P w c (putD (mergeTo es i) e.1 e.2.1 ((valD (mergeTo es i) e.1).getD 0 + e.2.2)))) ∧ DAt P w (upd H1 c (DS P w c (putD (mergeTo es i) e.1 e.2.1 ((valD (mergeTo es i) e.1).getD 0 + e.2.2)))) c (mergeTo es (i + 1)) := by
  refine ⟨fun a o z => (upd_ne (ne_of_none z hc)).trans (s a o z), ?_⟩
  rw [mergeTo_succ he]
  exact D.put hs
theorem small_of {n : Nat} (h : n ≤ 1000) : n < sizeLine := small1000 h
theorem sortE_at {acc : DEs} (nd : (keysD acc).Nodup) {i : Nat} {b : Sh × Addr} (hb : (sortK acc)[i]? = some b) : ∃ n, valD acc b.1 = some n ∧ (sortE acc)[i]? = some (b.1, b.2, n) ∧ (b.1, b.2, n) ∈ acc := by
  obtain ⟨e, he, e1⟩ := List.mem_map.mp ((sortK_perm acc).mem_iff.mp (List.mem_of_getElem? hb))
  have hv := valD_mem nd he
  have k1 : e.1 = b.1 := congrArg Prod.fst e1
  have k2 : e.2.1 = b.2 := congrArg Prod.snd e1
  rw [k1] at hv
  refine ⟨e.2.2, hv, ?_, ?_⟩
  · unfold sortE
    rw [List.getElem?_map, hb]
    show some (b.1, b.2, (valD acc b.1).getD 0) = _
    rw [hv]
    rfl
  · rw [← k1, ← k2]
    exact he
theorem ok_merged (T : Txt K mg) : FnOk P w K mg base CX0 1 T.f_merged T.d_merged ["rows"] (spMerged K P w) := by
  refine T.F_merged.ok sc_merged (fun vs H Q E h => ?_) (fun cdv A outer s H vs Q E hr h => ?_)
  · obtain ⟨r, es, rfl, _⟩ := h
    rfl
  · obtain ⟨r, es, rfl, hh, hn, q⟩ := h
    refine ⟨_, (pss_cons (ps_set (i := 1) sc_merged.nd rfl (Or.inr rfl) pe_dnewS)
      (Evl.pss_cut (ps_for PassesOwn.never rfl (pi_seq (pv 0)) (pg_tup (by rfl) (pgs_cons (pg_name (i := 2) sc_merged.nd rfl (Or.inl rfl)) (pgs_cons (pg_name (i := 3) sc_merged.nd rfl (Or.inl rfl)) pgs_nil))) (pss_one (ps_sput hr.units (pv 1) (pv 2) (pe_op op_add (pe_sget2 hr.units (pv 1) (pv 2) pe_int ⟨rfl, rfl, rfl, rfl⟩) (pv 3)) rfl)))
      (pss_one (ps_ret (pe_dcS (own := [("sheet", 2)]) (g := (gName 2)) (tk := tVar 2) (tv := tSGet P w (tVar 1) (tVar 2)) (by rfl) hr.units sc_merged.nd (pi_list (pe_callB (cr_sortedDS rfl hr.units) (by rfl) T.n_sorted (by decide +kernel) (pa_cons (pv 1) pa_nil))) (blkOk_by (own := [("sheet", 2)]) (N := ["rows", "counts", "sheet", "count"]) (sc := defScope s_merged) (by decide +kernel)) (fun _ _ _ _ _ => (pg_name (i := 2) sc_merged.nd rfl (Or.inl rfl))) (fun _ _ _ _ _ => (pv 2)) (fun _ _ _ _ _ => (pe_sget hr.units (pv 1) (pv 2) (fun _ _ => rfl)))))))), ?_⟩
    intro c hc
    refine ⟨fun σ H' => ∃ y2 y3, σ = [some r, some (.ref c), y2, y3] ∧ Same H H' ∧ DAt P w H' c (mergeD es), ?_, ?_⟩
    · have D0 : DAt P w (upd H c (DS P w c [])) c [] := ⟨upd_same, fun x hx => by cases hx⟩
      cases hh with
      | @list l as _ hl hr2 hk =>
        refine .inl ⟨_, rfl, l, rfl, ⟨_, (same_new hc).seq hl⟩, for_list (K := K) (a := l) (xs := as.map V.ref) (fun i σ H' => ∃ y2 y3, σ = [some (.ref l), some (.ref c), y2, y3] ∧ Same H H' ∧ DAt P w H' c (mergeTo es i)) ⟨none, none, rfl, same_new hc, D0⟩ ?_ ?_ ?_⟩
        · rintro i σ H' _ ⟨_, _, _, s1, _⟩
          exact s1.seq hl
        · rintro i x σ H' hx ⟨y2, y3, rfl, s1, D⟩
          obtain ⟨a, e, rfl, he, ha⟩ := hr2.row hx
          have hs := (hk e (List.mem_of_getElem? he)).same s1
          have hlt : i < es.length := (List.getElem?_eq_some_iff.mp he).1
          refine ⟨a, _, rfl, SqT.of (s1 _ _ ha), rfl, .ref e.2.1, _, rfl, .int e.2.2, _, rfl, rfl, ?_⟩
          refine ⟨.ref c, rfl, c, _, rfl, D.rd, .ref e.2.1, rfl, e.2.1, e.1, 0, _, rfl, rfl, D.rd, hs, .int e.2.2, rfl, _, _, rfl, rfl, .ref c, rfl, .ref e.2.1, rfl, c, e.2.1, _, e.1, _, rfl, rfl, rfl, D, hs, small_of (by have := mergeTo_len es i; omega), ?_⟩
          obtain ⟨s2, D2⟩ := step_put hc s1 D hs he
          exact ⟨_, _, rfl, s2, D2⟩
        · rintro σ H' ⟨y2, y3, rfl, s1, D⟩
          rw [List.length_map, hr2.len, mergeTo_all] at D
          exact ⟨_, _, rfl, s1, D⟩
      | @tup l as _ hl hr2 hk =>
        refine .inr ⟨_, rfl, l, rfl, ⟨_, Evl.ex_t (same_new hc) hl⟩, for_tup (K := K) (a := l) (xs := as.map V.ref) (fun i σ H' => ∃ y2 y3, σ = [some (.ref l), some (.ref c), y2, y3] ∧ Same H H' ∧ DAt P w H' c (mergeTo es i)) ⟨none, none, rfl, same_new hc, D0⟩ ?_ ?_ ?_⟩
        · rintro i σ H' _ ⟨_, _, _, s1, _⟩
          exact Evl.ex_t s1 hl
        · rintro i x σ H' hx ⟨y2, y3, rfl, s1, D⟩
          obtain ⟨a, e, rfl, he, ha⟩ := hr2.row hx
          have hs := (hk e (List.mem_of_getElem? he)).same s1
          have hlt : i < es.length := (List.getElem?_eq_some_iff.mp he).1
          refine ⟨a, _, rfl, SqT.of (s1 _ _ ha), rfl, .ref e.2.1, _, rfl, .int e.2.2, _, rfl, rfl, ?_⟩
          refine ⟨.ref c, rfl, c, _, rfl, D.rd, .ref e.2.1, rfl, e.2.1, e.1, 0, _, rfl, rfl, D.rd, hs, .int e.2.2, rfl, _, _, rfl, rfl, .ref c, rfl, .ref e.2.1, rfl, c, e.2.1, _, e.1, _, rfl, rfl, rfl, D, hs, small_of (by have := mergeTo_len es i; omega), ?_⟩
          obtain ⟨s2, D2⟩ := step_put hc s1 D hs he
          exact ⟨_, _, rfl, s2, D2⟩
        · rintro σ H' ⟨y2, y3, rfl, s1, D⟩
          rw [List.length_map, hr2.len, mergeTo_all] at D
          exact ⟨_, _, rfl, s1, D⟩
    · rintro σ H2 ⟨y2, y3, rfl, s2, D⟩
      have nd := merge_nodup es
      have hlen : (sortE (mergeD es)).length ≤ 1000 := by
        rw [(sortE_perm nd).length_eq]
        exact Nat.le_trans (merge_len es) hn
      refine ⟨.ref c, rfl, c, _, rfl, D, fun p hp => ⟨p, rfl, ⟨_, SqL.of upd_same⟩, fun d hd => ?_⟩⟩
      have ep := same_new (o := .lst ((sortK (mergeD es)).map fun b => V.ref b.2)) hp
      refine dcS_list (K := K) (a := p) (xs := (sortK (mergeD es)).map fun b => V.ref b.2) (fun i G => Same (upd H2 p (.lst ((sortK (mergeD es)).map fun b => V.ref b.2))) G ∧ DAt P w G d ((sortE (mergeD es)).take i)) ⟨same_new hd, upd_same, fun x hx => by cases hx⟩ (fun i G _ z => SqL.of (z.1 _ _ upd_same)) ?_ ?_ ?_
      · rintro i x G hx ⟨sG, DG⟩
        rw [List.getElem?_map] at hx
        cases hb : (sortK (mergeD es))[i]? with
        | none =>
          rw [hb] at hx
          cases hx
        | some b =>
          rw [hb] at hx
          cases hx
          obtain ⟨n, hv, hat, hin⟩ := sortE_at nd hb
          have Dc := (D.same (ep.trans sG))
          have hs := Dc.ks _ hin
          refine ⟨rfl, _, rfl, _, rfl, _, rfl, c, b.2, _, b.1, n, rfl, rfl, Dc.rd, hs, hv, b.2, b.1, n, _, rfl, rfl, DG, hs, small_of (by rw [List.length_take]; omega), ?_⟩
          have e1 := take_put (sortE_keys nd) hat
          rw [e1]
          refine ⟨fun a o z => (upd_ne (ne_of_none z hd)).trans (sG a o z), ?_⟩
          have := DG.put (n := n) hs
          rw [e1] at this
          exact this
      · rintro G ⟨sG, DG⟩
        have hl : ((sortK (mergeD es)).map fun b => V.ref b.2).length = (sortE (mergeD es)).length := by
          unfold sortE
          rw [List.length_map, List.length_map]
        rw [hl, List.take_length] at DG
        exact q d G ((s2.trans ep).free hd) ((s2.trans ep).trans sG) DG
      · rintro N N' x G hN ⟨h1, y, h2, z, h3, z2, h4, c1, p1, es1, x1, n1, h5, h6, h7, h8, h9, p2, k2, n2, es2, h10, h11, h12, h13, h14, h15⟩
        exact ⟨h1, y, h2, z, h3, z2, h4, c1, p1, es1, x1, n1, h5, h6, h7, h8, h9, p2, k2, n2, es2, h10, h11, h12, h13, h14, hN _ h15⟩
theorem Handed.put {H : Hp} {r : V} {es : DEs} {p C dx : Addr} {fs gs : List (Str × V)} (h : Handed K H r es) (hp : H p = some (.ins C dx fs)) : Handed K (upd H p (.ins C dx gs)) r es := by
  have tup : ∀ a xs, H a = some (.tup xs) → (upd H p (.ins C dx gs)) a = some (.tup xs) := fun a xs z => (upd_ne (ne_of z hp (by intro q; cases q))).trans z
  have rd : ∀ a o, o ≠ .ins C dx fs → Rd H a o → Rd (upd H p (.ins C dx gs)) a o := by
    intro a o no z
    rcases z with z | ⟨od, z⟩
    · exact .inl ((upd_ne (ne_of z hp no)).trans z)
    · exact .inr ⟨od, (upd_ne (ne_of z hp (by intro q; cases q))).trans z⟩
  cases h with
  | list hl hr hk =>
    refine .list ?_ (hr.mono tup) fun e he => (hk e he).mono tup
    rcases hl with z | z
    · exact .inl (rd _ _ (by intro q; cases q) z)
    · exact .inr z
  | tup ht hr hk =>
    refine .tup ?_ (hr.mono tup) fun e he => (hk e he).mono tup
    rcases ht with z | z
    · exact .inl (rd _ _ (by intro q; cases q) z)
    · exact .inr z
def HeapAt (P : Program) (w : World) (C : Addr) (H : Hp) (p : Addr) (d : Int) (es : DEs) : Prop := ∃ dx c : Addr, H p = some (.ins C dx [("held_root", .int d), ("copies", .ref c)]) ∧ DAt P w H c es
theorem HeapAt.same {C : Addr} {H H' : Hp} {p : Addr} {d : Int} {es : DEs} (h : HeapAt P w C H p d es) (s : Same H H') : HeapAt P w C H' p d es := by
  obtain ⟨dx, c, h1, h2⟩ := h
  exact ⟨dx, c, s _ _ h1, h2.same s⟩
theorem isRB_small {n : Int} (h : isRB n = true) : n.natAbs < 2 ^ 64 := by
  unfold isRB at h
  rw [Bool.and_eq_true] at h
  have := of_decide_eq_true h.1
  omega
def spHRows (P : Program) (w : World) (C : Addr) : Sp := fun vs H Q _ => ∃ (p : Addr) (d : Int) (es : DEs), vs = [.ref p] ∧ HeapAt P w C H p d es ∧ ∀ l as H', H l = none → Same H H' → H' l = some (.lst (as.map V.ref)) → RowsAt H' as es → Q (.ref l) H'
theorem ok_Heap_rows (T : Txt K mg) : FnOk P w K mg base CX0 1 T.f_Heap_rows T.d_Heap_rows ["self"] (spHRows P w T.C_Heap) := by
  refine T.F_Heap_rows.ok sc_Heap_rows (fun vs H Q E h => ?_) (fun cdv A outer s H vs Q E hr h => ?_)
  · obtain ⟨p, d, es, rfl, _⟩ := h
    rfl
  · obtain ⟨p, d, es, rfl, ⟨dx, c, hp, D⟩, q⟩ := h
    refine ⟨_, (pss_one (ps_ret (pe_callTy (call_list_itemsDS rfl) (by rfl) T.n_list (by decide +kernel) (pa_cons (pe_itemsDS (pe_fld (pv 0) rfl)) pa_nil)))), ?_⟩
    refine ⟨_, rfl, p, T.C_Heap, dx, _, _, rfl, hp, T.cl_Heap, T.n_Heap_copies, rfl, c, es, rfl, rfl, D, fun v hv => ?_⟩
    refine ⟨v, c, es, rfl, upd_same, D.same (same_new hv), fun l as H' hl s1 hL hR => ?_⟩
    exact q l as H' ((same_new hv).free hl) ((same_new hv).trans s1) hL hR
end
section
variable {base : Heap} {K : PySem.W.Frag} {mg : Str → Option Value} {P : Program} {w : World}
def spRoot (P : Program) (w : World) (C : Addr) : Sp := fun vs H Q _ => ∃ (p : Addr) (d : Int) (es : DEs), vs = [.ref p] ∧ HeapAt P w C H p d es ∧ Q (.int d) H
theorem ok_Heap_root (T : Txt K mg) : FnOk P w K mg base CX0 1 T.f_Heap_root T.d_Heap_root ["self"] (spRoot P w T.C_Heap) := by
  refine T.F_Heap_root.ok sc_Heap_root (fun vs H Q E h => ?_) (fun cdv A outer s H vs Q E hr h => ?_)
  · obtain ⟨p, d, es, rfl, _⟩ := h
    rfl
  · obtain ⟨p, d, es, rfl, ⟨dx, c, hp, _⟩, q⟩ := h
    exact ⟨_, (pss_one (ps_ret (pe_fld (pv 0) rfl))), _, rfl, p, T.C_Heap, dx, _, _, rfl, hp, T.cl_Heap, T.n_Heap_held_root, rfl, q⟩
end
section
variable {base : Heap} {K : PySem.W.Frag} {mg : Str → Option Value} {w : World}
def spHInit (T : Txt K mg) (w : World) : Sp := fun vs H Q E => ∃ (p dx : Addr) (d : Int) (r : V) (es : DEs), vs = [.ref p, .int d, r] ∧ H p = some (.ins T.C_Heap dx []) ∧ Handed K H r es ∧ Es100 es ∧ es.length ≤ 1000 ∧
  (isRB d = true → (∀ e ∈ es, rowB d e = true) → ∀ H', HeapAt PySem.Challenge.pw_grainyard_k65_texts_of_heaps w T.C_Heap H' p d (sortE (mergeD es)) → (∀ q o, H q = some o → q ≠ p → H' q = some o) → Q .non H') ∧
  (isRB d = true → ∀ i, FirstBad d es i → Throws T.e_BadRow.C (badRow i) H E) ∧ (isRB d = false → Throws T.e_BadRoot.C (badRoot (.int d)) H E)
theorem ok_Heap_init (T : Txt K mg) : FnOk PySem.Challenge.pw_grainyard_k65_texts_of_heaps w K mg base (L2.CX PySem.Challenge.pw_grainyard_k65_texts_of_heaps w) 5 T.f_Heap_init T.d_Heap_init ["self", "root", "rows"] (spHInit T w) := by
  refine T.F_Heap_init.ok sc_Heap_init (fun vs H Q E h => ?_) (fun cdv A outer s H vs Q E hr h => ?_)
  · obtain ⟨p, dx, d, r, es, rfl, _⟩ := h
    rfl
  · obtain ⟨p, dx, d, r, es, rfl, hp, hh, b, hn, q1, q2, q3⟩ := h
    refine ⟨_, (pss_cons (ps_expr (pe_call (ok_check_root T) (hr.mono (by decide)) (by rfl) T.g_check_root T.F_check_root.kp T.b_check_root .nil (passes_call (takes_of rfl rfl rfl rfl) (fun _ _ _ _ h => h)) (pa_cons (pv 1) pa_nil)))
      (pss_cons (ps_expr (pe_call (ok_check_rows T) (hr.mono (by decide)) (by rfl) T.g_check_rows T.F_check_rows.kp T.b_check_rows .nil (passes_call (takes_of rfl rfl rfl rfl) (fun _ _ _ _ h => h)) (pa_cons (pv 2) (pa_cons (pv 1) pa_nil))))
      (pss_cons (ps_fld (pv 0) (pv 1) rfl)
      (pss_one (ps_fld (pv 0) (pe_call (ok_merged T) (hr.mono (by decide)) (by rfl) T.g_merged T.F_merged.kp T.b_merged .nil pass0 (pa_cons (pv 2) pa_nil)) rfl))))), ?_⟩
    refine ⟨_, rfl, d, rfl, fun hd => ?_, q3⟩
    refine ⟨_, rfl, _, rfl, r, d, es, rfl, hh, isRB_small hd, b, fun ok H1 s1 => ?_, q2 hd⟩
    refine ⟨_, rfl, _, rfl, p, T.C_Heap, dx, [], rfl, s1 _ _ hp, T.cl_Heap, T.n_Heap_held_root, by decide, ?_⟩
    refine ⟨_, rfl, r, es, rfl, (hh.same s1).put (s1 _ _ hp), hn, fun c H2 hc s2 D => ?_⟩
    have hp2 := s2 _ _ (upd_same (H := H1) (a := p) (o := .ins T.C_Heap dx [("held_root", .int d)]))
    refine ⟨_, rfl, p, T.C_Heap, dx, _, rfl, hp2, T.cl_Heap, T.n_Heap_copies, (by show 1 < 1000; decide), ?_⟩
    refine q1 hd ok _ ⟨dx, c, upd_same, (upd_ne (ne_of D.hd hp2 (by intro z; cases z))).trans D.hd, fun x hx => (D.ks x hx).mono fun a xs z => (upd_ne (ne_of z hp2 (by intro z; cases z))).trans z⟩ fun b o z ne => ?_
    exact (upd_ne ne).trans (s2 _ _ ((upd_ne ne).trans (s1 _ _ z)))
/-- Heap(d, r), where nothing is wrong -/
theorem mk_heap {T : Txt K mg} {H : Hp} {d : Int} {r : V} {es : DEs} {R : Addr → Hp → Prop} {E : XK} (hd : isRB d = true) (hh : Handed K H r es) (b : Es100 es) (ok : ∀ e ∈ es, rowB d e = true) (hn : es.length ≤ 1000) (q : ∀ x H', H x = none → Same H H' → HeapAt PySem.Challenge.pw_grainyard_k65_texts_of_heaps w T.C_Heap H' x d (sortE (mergeD es)) → R x H') :
    ∀ x dx, H x = none → H dx = none → dx ≠ x → spHInit T w [.ref x, .int d, r] (upd (upd H dx (.own x)) x (.ins T.C_Heap dx [])) (fun v H2 => v = .non ∧ R x H2) E := by
  intro x dx nx nd ne
  have s1 : Same H (upd (upd H dx (.own x)) x (.ins T.C_Heap dx [])) := fun b o z => by
    rw [upd_ne (ne_of_none z nx), upd_ne (ne_of_none z nd)]
    exact z
  refine ⟨x, dx, d, r, es, rfl, upd_same, hh.same s1, b, hn, fun _ _ H' hA hk => ⟨rfl, q x H' nx (fun b o z => hk b o (s1 b o z) (ne_of_none z nx)) hA⟩, fun _ i fb => ?_, fun z => by rw [hd] at z; cases z⟩
  obtain ⟨⟨e, he, ez⟩, _⟩ := fb
  rw [ok e (List.mem_of_getElem? he)] at ez
  cases ez
/-- Heap(d, r), where something is wrong -/
theorem no_heap {T : Txt K mg} {H : Hp} {d : Int} {r : V} {es : DEs} {R : Addr → Hp → Prop} {E : XK} (hh : Handed K H r es) (b : Es100 es) (hn : es.length ≤ 1000) (q2 : isRB d = true → ∃ i, FirstBad d es i ∧ Throws T.e_BadRow.C (badRow i) H E) (q3 : isRB d = false → Throws T.e_BadRoot.C (badRoot (.int d)) H E) :
    ∀ x dx, H x = none → H dx = none → dx ≠ x → spHInit T w [.ref x, .int d, r] (upd (upd H dx (.own x)) x (.ins T.C_Heap dx [])) (fun v H2 => v = .non ∧ R x H2) E := by
  intro x dx nx nd ne
  have s1 : Same H (upd (upd H dx (.own x)) x (.ins T.C_Heap dx [])) := fun b o z => by
    rw [upd_ne (ne_of_none z nx), upd_ne (ne_of_none z nd)]
    exact z
  refine ⟨x, dx, d, r, es, rfl, upd_same, hh.same s1, b, hn, fun hd ok => ?_, fun hd i fb => ?_, fun z => (q3 z).up s1⟩
  · obtain ⟨i, ⟨⟨e, he, ez⟩, _⟩, _⟩ := q2 hd
    rw [ok e (List.mem_of_getElem? he)] at ez
    cases ez
  · obtain ⟨j, fb', th⟩ := q2 hd
    have : i = j := by
      obtain ⟨⟨e, he, ez⟩, g⟩ := fb
      obtain ⟨⟨e', he', ez'⟩, g'⟩ := fb'
      rcases Nat.lt_trichotomy i j with l | l | l
      · rw [g' i e l he] at ez
        cases ez
      · exact l
      · rw [g j e' l he'] at ez'
        cases ez'
    rw [this]
    exact th.up s1
end
/-! ### texts of heaps that are read: the math -/
abbrev rn (z : Str) : Option Int := readN z.cps.toList
abbrev rp (z : Str) : Option (Int × Int) := readP z.cps.toList
def sheetT (x : Sh) : Str := pairT x.1 x.2.1 ++ Str.ofString " x " ++ pairT x.2.2.1 x.2.2.2
def rowT (x : Sh) (n : Int) : Str := decT n ++ Str.ofString " " ++ sheetT x
/-- letters below the digits and the signs -/
theorem lets_free {c : Nat} (h : c < 43) (n : Int) : c ∉ lets n := by
  have hd : ∀ m : Nat, c ∉ TL.numL m := fun m hm => by
    have := TL.numL_digits m c hm
    omega
  unfold lets
  split
  · intro z
    rcases List.mem_cons.mp z with z | z
    · omega
    · exact hd _ z
  · exact hd _
theorem pair_free {c : Nat} (h : c < 43) (a b : Int) : c ∉ TL.tl (pairT a b) := by
  rw [pair_lets, TL.tl_mk]
  unfold pairL
  have h1 := lets_free h a
  have h2 := lets_free h b
  split
  · exact h1
  split
  · intro z
    rcases List.mem_append.mp z with z | z
    · exact h2 z
    · rw [List.mem_singleton.mp z] at h
      omega
  · intro z
    simp only [List.mem_append, List.mem_singleton] at z
    rcases z with ((z | z) | z) | z
    · exact h1 z
    · split at z
      · rw [List.mem_singleton.mp z] at h
        omega
      · cases z
    · exact h2 z
    · omega
theorem tl_x : TL.tl (Str.ofString " x ") = 32 :: [120, 32] := by decide +kernel
theorem tl_b : TL.tl (Str.ofString " ") = 32 :: [] := by decide +kernel
theorem tl_n : TL.tl (Str.ofString "\n") = 10 :: [] := by decide +kernel
theorem join_two (y a b : Str) : Str.join y [a, b] = a ++ y ++ b := rfl
/-- the pair of a text is written so -/
theorem readP_text {l : List Nat} {m n : Int} (h : readP l = some (m, n)) : pairT m n = mkS l ∧ m.natAbs < 10 ^ 20 ∧ n.natAbs < 10 ^ 20 := by
  unfold readP at h
  split at h
  · rename_i hl
    obtain ⟨b, rfl⟩ := List.getLast?_eq_some_iff.mp hl
    rw [List.dropLast_concat, ← prog_res (sgAt_is b)] at h
    unfold progP at h
    split at h
    · rename_i m' n' hm hn
      split at h
      · rename_i e
        cases h
        refine ⟨e, ?_, (readN_text hn).2⟩
        by_cases k0 : sgAt b = 0
        · rw [if_pos k0] at hm
          exact (readN_text hm).2
        · rw [if_neg k0] at hm
          exact (readN_text hm).2
      · cases h
    · cases h
  · cases hn : readN l with
    | none =>
      rw [hn] at h
      cases h
    | some k =>
      rw [hn] at h
      cases h
      refine ⟨?_, (readN_text hn).2, by decide⟩
      unfold pairT
      rw [if_pos rfl]
      exact (readN_text hn).1
theorem rp_text {z : Str} {p : Int × Int} (h : rp z = some p) : pairT p.1 p.2 = z ∧ p.1.natAbs < 10 ^ 20 ∧ p.2.natAbs < 10 ^ 20 := by
  have := readP_text (m := p.1) (n := p.2) h
  rwa [show mkS z.cps.toList = z from TL.mk_tl z] at this
theorem rn_text {z : Str} {n : Int} (h : rn z = some n) : decT n = z ∧ n.natAbs < 10 ^ 20 := by
  have := readN_text h
  rwa [show mkS z.cps.toList = z from TL.mk_tl z] at this
theorem rn_dec {n : Int} (h : n.natAbs < 10 ^ 20) : rn (decT n) = some n := by
  show readN (decT n).cps.toList = _
  rw [dec_lets, mk_letters]
  exact read_lets h
theorem rp_pairT {a b : Int} (ha : a.natAbs < 10 ^ 20) (hb : b.natAbs < 10 ^ 20) : rp (pairT a b) = some (a, b) := by
  show readP (pairT a b).cps.toList = _
  rw [pair_lets, mk_letters]
  exact read_pairL ha hb
def two : List (Option (Int × Int)) → Option Sh
  | [some p, some q] => some (p.1, p.2, q.1, q.2)
  | _ => none
/-- the sheet of a text -/
def readSh (z : Str) : Option Sh := two ((Txt.split z (Str.ofString " x ")).map rp)
def Small20 (x : Sh) : Prop := x.1.natAbs < 10 ^ 20 ∧ x.2.1.natAbs < 10 ^ 20 ∧ x.2.2.1.natAbs < 10 ^ 20 ∧ x.2.2.2.natAbs < 10 ^ 20
theorem two_some {l : List (Option (Int × Int))} {x : Sh} (h : two l = some x) : l = [some (x.1, x.2.1), some (x.2.2.1, x.2.2.2)] := by
  unfold two at h
  split at h
  · cases h
    rfl
  · cases h
theorem readSh_text {z : Str} {x : Sh} (h : readSh z = some x) : sheetT x = z ∧ Small20 x := by
  have e := two_some h
  match hs : Txt.split z (Str.ofString " x "), e with
  | [a, b], e =>
    rw [List.map_cons, List.map_cons, List.map_nil] at e
    have e1 := (List.cons.inj e).1
    have e2 := (List.cons.inj (List.cons.inj e).2).1
    obtain ⟨t1, b1, b2⟩ := rp_text e1
    obtain ⟨t2, b3, b4⟩ := rp_text e2
    have j := StrLaws.join_split z (Str.ofString " x ")
    rw [hs, join_two] at j
    refine ⟨?_, b1, b2, b3, b4⟩
    unfold sheetT
    rw [t1, t2, j]
  | [], e => exact absurd (congrArg List.length e) (by simp)
  | [a], e => exact absurd (congrArg List.length e) (by simp)
  | a :: b :: c :: r, e => exact absurd (congrArg List.length e) (by simp)
theorem readSh_sheet {x : Sh} (h : Small20 x) : readSh (sheetT x) = some x := by
  unfold readSh
  have e : Txt.split (sheetT x) (Str.ofString " x ") = [pairT x.1 x.2.1, pairT x.2.2.1 x.2.2.2] := by
    have := TL.split_join (y := Str.ofString " x ") tl_x (by decide +kernel) (parts := [pairT x.1 x.2.1, pairT x.2.2.1 x.2.2.2]) (by simp) (by
      intro p hp
      simp only [List.mem_cons, List.not_mem_nil, or_false] at hp
      rcases hp with rfl | rfl <;> exact pair_free (by decide) _ _)
    rwa [TL.join_eq, join_two] at this
  rw [e, List.map_cons, List.map_cons, List.map_nil, rp_pairT h.1 h.2.1, rp_pairT h.2.2.1 h.2.2.2]
  rfl
theorem first_of {c : Nat} : ∀ {l : List Nat}, c ∈ l → ∃ p q, l = p ++ c :: q ∧ c ∉ p
  | [], h => by cases h
  | d :: l, h => by
    by_cases e : d = c
    · exact ⟨[], l, by rw [e]; rfl, by simp⟩
    · have h' : c ∈ l := by
        rcases List.mem_cons.mp h with z | z
        · exact absurd z.symm e
        · exact z
      obtain ⟨p, q, e1, e2⟩ := first_of h'
      refine ⟨d :: p, q, by rw [e1]; rfl, ?_⟩
      intro z
      rcases List.mem_cons.mp z with z | z
      · exact e z.symm
      · exact e2 z
/-- a text up to its first blank, and what stands behind it -/
theorem blank_cases (z : Str) : (32 ∉ TL.tl z) ∨ ∃ a b : Str, 32 ∉ TL.tl a ∧ z = a ++ Str.ofString " " ++ b := by
  by_cases h : 32 ∈ TL.tl z
  · obtain ⟨p, q, e, hp⟩ := first_of h
    have t : TL.tl (mkS p ++ Str.ofString " " ++ mkS q) = p ++ [32] ++ q := by rw [TL.tl_append, TL.tl_append, tl_b, TL.tl_mk p, TL.tl_mk q]
    exact .inr ⟨mkS p, mkS q, by rw [TL.tl_mk]; exact hp, TL.ext_tl (e.trans (t.trans (by rw [List.append_assoc]; rfl)).symm)⟩
  · exact .inl h
/-- split at blanks, by the first one -/
theorem split_first (z : Str) : ∃ r, Txt.split z (Str.ofString " ") = (Txt.partition z (Str.ofString " ")).1 :: r ∧ Str.join (Str.ofString " ") r = (Txt.partition z (Str.ofString " ")).2.2 := by
  have hk : (Str.ofString " ").cps.all (· < 256) = true := by decide +kernel
  have sp : ∀ z, (Txt.split z (Str.ofString " ")).map TL.tl = TL.spl (32 :: []) 0 [] (TL.tl z) := fun z => by
    rw [TL.split_spl z _ (by rw [tl_b]; simp) (TL.kind_ok hk), tl_b]
  rcases blank_cases z with h | ⟨a, b, ha, rfl⟩
  · rw [TL.partition_none tl_b h]
    refine ⟨[], ?_, rfl⟩
    refine TL.map_tl_inj ?_
    rw [sp, TL.spl_last1 h]
    rfl
  · rw [TL.partition_app tl_b ha]
    refine ⟨Txt.split b (Str.ofString " "), ?_, StrLaws.join_split b _⟩
    refine TL.map_tl_inj ?_
    rw [sp, TL.tl_append, TL.tl_append, tl_b, List.append_assoc, TL.spl_part1 ha, List.map_cons, sp]
    rfl
/-- the row of a line -/
def readRow (d : Int) (z : Str) : Option (Sh × Int) :=
  match rn (Txt.partition z (Str.ofString " ")).1, readSh (Txt.partition z (Str.ofString " ")).2.2 with
  | some n, some x => if 1 ≤ n ∧ shB d x = true then some (x, n) else none
  | _, _ => none
theorem readRow_text {d : Int} {z : Str} {e : Sh × Int} (h : readRow d z = some e) : rowT e.1 e.2 = z ∧ Small20 e.1 ∧ e.2.natAbs < 10 ^ 20 ∧ 1 ≤ e.2 ∧ shB d e.1 = true := by
  unfold readRow at h
  split at h
  · rename_i n x hn hx
    split at h
    · rename_i g
      cases h
      obtain ⟨tn, bn⟩ := rn_text hn
      obtain ⟨tx, bx⟩ := readSh_text hx
      refine ⟨?_, bx, bn, g.1, g.2⟩
      unfold rowT
      rw [tn, tx]
      rcases blank_cases z with hb | ⟨a, b, ha, rfl⟩
      · rw [TL.partition_none tl_b hb] at hx
        have : readSh Str.empty = none := by decide +kernel
        rw [this] at hx
        cases hx
      · rw [TL.partition_app tl_b ha]
    · cases h
  · cases h
theorem readRow_row {d n : Int} {x : Sh} (hx : Small20 x) (hn : n.natAbs < 10 ^ 20) (n1 : 1 ≤ n) (hs : shB d x = true) : readRow d (rowT x n) = some (x, n) := by
  unfold readRow rowT
  rw [TL.partition_app tl_b (by rw [dec_lets, TL.tl_mk]; exact lets_free (by decide) n)]
  show (match rn (decT n), readSh (sheetT x) with | some n, some x => if 1 ≤ n ∧ shB d x = true then some (x, n) else none | _, _ => none) = _
  rw [rn_dec hn, readSh_sheet hx]
  exact if_pos ⟨n1, hs⟩
/-- the root of a line -/
def readRoot (z : Str) : Option Int :=
  if (Txt.partition z (Str.ofString " ")).1 = Str.ofString "root" then
    match rn (Txt.partition z (Str.ofString " ")).2.2 with
    | some d => if isRB d = true then some d else none
    | none => none
  else none
theorem readRoot_text {z : Str} {d : Int} (h : readRoot z = some d) : z = Str.ofString "root " ++ decT d ∧ isRB d = true := by
  unfold readRoot at h
  split at h
  · rename_i hw
    split at h
    · rename_i d' hd
      split at h
      · rename_i g
        cases h
        obtain ⟨td, bd⟩ := rn_text hd
        refine ⟨?_, g⟩
        rcases blank_cases z with hb | ⟨a, b, ha, rfl⟩
        · rw [TL.partition_none tl_b hb] at hd
          have : rn Str.empty = none := by decide +kernel
          rw [this] at hd
          cases hd
        · rw [TL.partition_app tl_b ha] at hw td
          have hw : a = Str.ofString "root" := hw
          have td : decT d = b := td
          rw [hw, td]
          congr 1
      · cases h
    · cases h
  · cases h
theorem readRoot_root {d : Int} (h : isRB d = true) (b : d.natAbs < 10 ^ 20) : readRoot (Str.ofString "root " ++ decT d) = some d := by
  have e : Str.ofString "root " ++ decT d = Str.ofString "root" ++ Str.ofString " " ++ decT d := by
    congr 1
  unfold readRoot
  rw [e, TL.partition_app tl_b (show 32 ∉ TL.tl (Str.ofString "root") by decide +kernel)]
  show (if Str.ofString "root" = Str.ofString "root" then match rn (decT d) with | some d => if isRB d = true then some d else none | none => none else none) = _
  rw [if_pos rfl, rn_dec b]
  exact if_pos h
/-- the law's look at the first line -/
theorem root_law (z : Str) : (if cutS z none (some 5) = Str.ofString "root " then rn (cutS z (some 5) none) else none) = if (Txt.partition z (Str.ofString " ")).1 = Str.ofString "root" then rn (Txt.partition z (Str.ofString " ")).2.2 else none := by
  have hz : z = mkS (TL.tl z) := (TL.mk_tl z).symm
  have c1 : cutS z none (some 5) = mkS ((TL.tl z).take 5) := by
    have := cut_front (TL.tl z) 5
    rwa [← hz] at this
  have c2 : cutS z (some 5) none = mkS ((TL.tl z).drop 5) := by
    have := cut_back (TL.tl z) 5
    rwa [← hz] at this
  have r5 : Str.ofString "root " = mkS [114, 111, 111, 116, 32] := by decide +kernel
  have r4 : Str.ofString "root" = mkS [114, 111, 111, 116] := by decide +kernel
  rw [c1, c2, r5, r4]
  rcases blank_cases z with hb | ⟨a, b, ha, rfl⟩
  · rw [TL.partition_none tl_b hb]
    have n1 : ¬ mkS ((TL.tl z).take 5) = mkS [114, 111, 111, 116, 32] := fun e => by
      have e := mk_inj.mp e
      exact hb (List.mem_of_mem_take (i := 5) (by rw [e]; decide))
    rw [if_neg n1]
    show none = if z = mkS [114, 111, 111, 116] then rn Str.empty else none
    have : rn Str.empty = none := by decide +kernel
    rw [this]
    split <;> rfl
  · rw [TL.partition_app tl_b ha, TL.tl_append, TL.tl_append, tl_b, List.append_assoc]
    show (if mkS ((TL.tl a ++ ([32] ++ TL.tl b)).take 5) = _ then rn (mkS ((TL.tl a ++ ([32] ++ TL.tl b)).drop 5)) else none) = if a = _ then rn b else none
    have hA : a = mkS (TL.tl a) := (TL.mk_tl a).symm
    have hB : b = mkS (TL.tl b) := (TL.mk_tl b).symm
    generalize TL.tl a = l at *
    rw [hA]
    have key : (l ++ ([32] ++ TL.tl b)).take 5 = [114, 111, 111, 116, 32] ↔ l = [114, 111, 111, 116] := by
      constructor
      · intro e
        match l, ha, e with
        | [], _, e => simp at e
        | [c1], h, e => simp at e
        | [c1, c2], h, e => simp at e
        | [c1, c2, c3], h, e => simp at e
        | [c1, c2, c3, c4], h, e => simpa using e
        | c1 :: c2 :: c3 :: c4 :: c5 :: r, h, e =>
          simp at e h
          exact absurd e.2.2.2.2.symm h.2.2.2.2.1
      · rintro rfl
        rfl
    by_cases e : l = [114, 111, 111, 116]
    · rw [if_pos (mk_inj.mpr (key.mpr e)), if_pos (mk_inj.mpr e), e]
      show rn (mkS (TL.tl b)) = rn b
      rw [← hB]
    · rw [if_neg fun z => e (key.mp (mk_inj.mp z)), if_neg fun z => e (mk_inj.mp z)]
/-! ### heaps by their sums -/
def ind (x y : Sh) : Int := if y = x then 1 else 0
def cnt (es : DEs) (x : Sh) : Int := (valD es x).getD 0
theorem ltS_irr (x : Sh) : ¬ ltS x x := by
  unfold ltS
  omega
theorem ltS_tr {x y z : Sh} (h1 : ltS x y) (h2 : ltS y z) : ltS x z := by
  unfold ltS at *
  omega
theorem ltS_asym {x y : Sh} (h1 : ltS x y) (h2 : ltS y x) : False := ltS_irr x (ltS_tr h1 h2)
/-- ascending, with numbers from 1 -/
structure Asc (es : DEs) : Prop where
  up : es.Pairwise fun a b => ltS a.1 b.1
  pos : ∀ e ∈ es, 1 ≤ e.2.2
theorem Asc.nd {es : DEs} (h : Asc es) : (keysD es).Nodup := by
  refine List.pairwise_map.mpr (h.up.imp ?_)
  intro a b l z
  rw [z] at l
  exact ltS_irr _ l
theorem Asc.tail {e : Sh × Addr × Int} {es : DEs} (h : Asc (e :: es)) : Asc es := ⟨(List.pairwise_cons.mp h.up).2, fun f hf => h.pos f (List.mem_cons_of_mem _ hf)⟩
theorem asc_nil : Asc [] := ⟨.nil, fun e he => by cases he⟩
theorem asc_made {S : Sh → Prop} {M : Int} {es : DEs} (hM : 0 ≤ M) (h : Within S M es) : Asc (sortE (mergeD es)) := by
  refine ⟨sortE_up (merge_nodup es), fun e he => ?_⟩
  exact ((merge_within hM h) e ((sortE_perm (merge_nodup es)).mem_iff.mp he)).2.1
theorem made_wsum (φ : Sh → Int) (es : DEs) : wsum φ (sortE (mergeD es)) = wsum φ es := by
  rw [wsum_perm (sortE_perm (merge_nodup es)), merge_wsum]
theorem wsum_ind0 {x : Sh} : ∀ {es : DEs}, x ∉ keysD es → wsum (ind x) es = 0
  | [], _ => rfl
  | e :: es, h => by
    have h1 : e.1 ≠ x := fun z => h (z ▸ List.mem_cons_self)
    rw [wsum_cons, wsum_ind0 fun z => h (List.mem_cons_of_mem _ z)]
    unfold ind
    rw [if_neg h1]
    omega
theorem cnt_wsum {x : Sh} : ∀ {es : DEs}, (keysD es).Nodup → wsum (ind x) es = cnt es x
  | [], _ => rfl
  | e :: es, h => by
    obtain ⟨h1, h2⟩ := List.nodup_cons.mp h
    rw [wsum_cons]
    unfold cnt
    rw [valD_cons]
    by_cases z : e.1 = x
    · subst z
      rw [if_pos rfl, wsum_ind0 h1]
      unfold ind
      rw [if_pos rfl]
      show e.2.2 * 1 + 0 = e.2.2
      omega
    · rw [if_neg z, cnt_wsum h2]
      unfold ind
      rw [if_neg z]
      show e.2.2 * 0 + cnt es x = cnt es x
      omega
/-- the first keys of two ascending lists with the same numbers -/
theorem asc_same : ∀ {es fs : DEs}, Asc es → Asc fs → (∀ x, cnt es x = cnt fs x) → (es.map fun e => (e.1, e.2.2)) = fs.map fun e => (e.1, e.2.2)
  | [], [], _, _, _ => rfl
  | [], f :: fs, _, hf, h => by
    have z := h f.1
    have p := hf.pos f List.mem_cons_self
    unfold cnt at z
    rw [valD_cons, if_pos rfl] at z
    have z : (0 : Int) = f.2.2 := z
    omega
  | e :: es, [], he, _, h => by
    have z := h e.1
    have p := he.pos e List.mem_cons_self
    unfold cnt at z
    rw [valD_cons, if_pos rfl] at z
    have z : e.2.2 = (0 : Int) := z
    omega
  | e :: es, f :: fs, he, hf, h => by
    have low : ∀ {a : Sh × Addr × Int} {as : DEs} {x : Sh}, Asc (a :: as) → ltS x a.1 → cnt (a :: as) x = 0 := by
      intro a as x ha l
      unfold cnt
      have : valD (a :: as) x = none := valD_none.mpr fun z => by
        rcases List.mem_cons.mp z with q | q
        · exact ltS_irr x (q ▸ l)
        · obtain ⟨b, hb, q⟩ := List.mem_map.mp q
          have l2 := ltS_tr l ((List.pairwise_cons.mp ha.up).1 b hb)
          rw [q] at l2
          exact ltS_irr x l2
      rw [this]
      rfl
    have at_ : ∀ {a : Sh × Addr × Int} {as : DEs}, cnt (a :: as) a.1 = a.2.2 := by
      intro a as
      unfold cnt
      rw [valD_cons, if_pos rfl]
      rfl
    have pe := he.pos e List.mem_cons_self
    have pf := hf.pos f List.mem_cons_self
    have k : e.1 = f.1 := by
      by_cases z : e.1 = f.1
      · exact z
      · exfalso
        by_cases l : ltS e.1 f.1
        · have := h e.1
          rw [at_, low hf l] at this
          omega
        · have l2 : ltS f.1 e.1 := by
            refine ltS_of ?_ fun q => z q.symm
            unfold leS
            rw [decide_eq_false l]
            rfl
          have := h f.1
          rw [at_, low he l2] at this
          omega
    have v : e.2.2 = f.2.2 := by
      have := h e.1
      rw [at_, k, at_] at this
      exact this
    rw [List.map_cons, List.map_cons, k, v, asc_same he.tail hf.tail fun x => ?_]
    have z := h x
    unfold cnt at z ⊢
    rw [valD_cons, valD_cons] at z
    by_cases q : e.1 = x
    · have ne : valD es x = none := valD_none.mpr (q ▸ (List.nodup_cons.mp he.nd).1)
      have nf : valD fs x = none := valD_none.mpr (q ▸ k ▸ (List.nodup_cons.mp hf.nd).1)
      rw [ne, nf]
    · rwa [if_neg q, if_neg fun w => q (k.trans w)] at z
theorem asc_eq {es fs : DEs} (he : Asc es) (hf : Asc fs) (h : ∀ φ, wsum φ es = wsum φ fs) : (es.map fun e => (e.1, e.2.2)) = fs.map fun e => (e.1, e.2.2) := asc_same he hf fun x => by
  rw [← cnt_wsum he.nd, ← cnt_wsum hf.nd, h]
theorem nd_le : ∀ {as bs : List Sh}, as.Nodup → (∀ a ∈ as, a ∈ bs) → as.length ≤ bs.length
  | [], _, _, _ => Nat.zero_le _
  | a :: as, bs, n, h => by
    obtain ⟨n1, n2⟩ := List.nodup_cons.mp n
    obtain ⟨l, r, rfl⟩ := List.append_of_mem (h a List.mem_cons_self)
    have := nd_le (as := as) (bs := l ++ r) n2 fun b hb => by
      rcases List.mem_append.mp (h b (List.mem_cons_of_mem _ hb)) with z | z
      · exact List.mem_append_left _ z
      · rcases List.mem_cons.mp z with q | q
        · exact absurd hb (q ▸ n1)
        · exact List.mem_append_right _ q
    rw [List.length_append] at this
    rw [List.length_append, List.length_cons, List.length_cons]
    omega
theorem nd_back {as bs : List Sh} (n : as.Nodup) (h : ∀ a ∈ as, a ∈ bs) (l : bs.length = as.length) {x : Sh} (hx : x ∈ bs) : x ∈ as := by
  by_cases z : x ∈ as
  · exact z
  · exfalso
    have := nd_le (as := x :: as) (bs := bs) (List.nodup_cons.mpr ⟨z, n⟩) fun a ha => by
      rcases List.mem_cons.mp ha with q | q
      · exact q ▸ hx
      · exact h a q
    rw [List.length_cons] at this
    omega
theorem eqD_iff {es fs : DEs} (he : Asc es) (hf : Asc fs) : eqD es fs = decide ((es.map fun e => (e.1, e.2.2)) = fs.map fun e => (e.1, e.2.2)) := by
  by_cases h : (es.map fun e => (e.1, e.2.2)) = fs.map fun e => (e.1, e.2.2)
  · rw [decide_eq_true h]
    unfold eqD
    have l := congrArg List.length h
    rw [List.length_map, List.length_map] at l
    rw [decide_eq_true l, Bool.true_and, List.all_eq_true]
    intro e hm
    have : (e.1, e.2.2) ∈ fs.map fun e => (e.1, e.2.2) := h ▸ List.mem_map.mpr ⟨e, hm, rfl⟩
    obtain ⟨f, hf', q⟩ := List.mem_map.mp this
    obtain ⟨q1, q2⟩ := Prod.mk.inj q
    unfold eqE
    rw [← q1, ← q2]
    exact decide_eq_true (valD_mem hf.nd hf')
  · rw [decide_eq_false h]
    cases z : eqD es fs with
    | false => rfl
    | true =>
      exfalso
      unfold eqD at z
      rw [Bool.and_eq_true, List.all_eq_true] at z
      obtain ⟨z1, z2⟩ := z
      have z1 := of_decide_eq_true z1
      have sub : ∀ e ∈ es, ∃ f ∈ fs, f.1 = e.1 ∧ f.2.2 = e.2.2 := fun e hm => valD_some (of_decide_eq_true (z2 e hm))
      have ksub : ∀ x ∈ keysD es, x ∈ keysD fs := fun x hx => by
        obtain ⟨e, hm, rfl⟩ := List.mem_map.mp hx
        obtain ⟨f, hf', q, _⟩ := sub e hm
        exact q ▸ List.mem_map.mpr ⟨f, hf', rfl⟩
      have klen : (keysD fs).length = (keysD es).length := by
        unfold keysD
        rw [List.length_map, List.length_map]
        exact z1.symm
      refine h (asc_same he hf fun x => ?_)
      unfold cnt
      cases q : valD es x with
      | none =>
        rw [valD_none.mpr fun w => valD_none.mp q (nd_back he.nd ksub klen w)]
      | some n =>
        obtain ⟨e, hm, rfl, rfl⟩ := valD_some q
        rw [of_decide_eq_true (z2 e hm)]
/-! ### the lines of a text of a heap -/
def upB (rs : List (Sh × Int)) (x : Sh) : Bool := rs.getLast?.any fun e => leS x e.1
/-- the rows of the first lines, where they are all good -/
def rowsTo (d : Int) (ls : List Str) : Nat → Option (List (Sh × Int))
  | 0 => some []
  | i + 1 => match rowsTo d ls i, ls[i]?.bind (readRow d) with
    | some rs, some e => if upB rs e.1 = true then none else some (rs ++ [e])
    | _, _ => none
inductive HAns where
  | bad (i : Int)
  | told (d : Int) (rs : List (Sh × Int))
def linesN (z : Str) : List Str := (Txt.split z (Str.ofString "\n")).dropLast
def lastN (z : Str) : Str := (Txt.split z (Str.ofString "\n")).getLast?.getD Str.empty
def rootN (z : Str) : Option Int := (linesN z).head?.bind readRoot
inductive HRes (z : Str) : HAns → Prop
  | root (h : rootN z = none) : HRes z (.bad 0)
  | row {d : Int} {i : Nat} {rs : List (Sh × Int)} (h : rootN z = some d) (g : rowsTo d (linesN z).tail i = some rs) (hi : i < (linesN z).tail.length) (b : rowsTo d (linesN z).tail (i + 1) = none) : HRes z (.bad ((i : Int) + 1))
  | tail {d : Int} {rs : List (Sh × Int)} (h : rootN z = some d) (g : rowsTo d (linesN z).tail (linesN z).tail.length = some rs) (t : lastN z ≠ Str.ofString "") : HRes z (.bad (linesN z).length)
  | told {d : Int} {rs : List (Sh × Int)} (h : rootN z = some d) (g : rowsTo d (linesN z).tail (linesN z).tail.length = some rs) (t : lastN z = Str.ofString "") : HRes z (.told d rs)
theorem rowsTo_back {d : Int} {ls : List Str} {i : Nat} {rs : List (Sh × Int)} (h : rowsTo d ls (i + 1) = some rs) : ∃ qs e, rowsTo d ls i = some qs ∧ ls[i]?.bind (readRow d) = some e ∧ upB qs e.1 = false ∧ rs = qs ++ [e] := by
  rw [rowsTo] at h
  split at h
  · rename_i qs e h1 h2
    split at h
    · cases h
    · rename_i u
      cases h
      exact ⟨qs, e, h1, h2, by simpa using u, rfl⟩
  · cases h
theorem rowsTo_mono {d : Int} {ls : List Str} {i : Nat} : ∀ {j : Nat} {rs : List (Sh × Int)}, rowsTo d ls j = some rs → i ≤ j → ∃ qs, rowsTo d ls i = some qs
  | 0, rs, h, l => by
    obtain rfl : i = 0 := by omega
    exact ⟨rs, h⟩
  | j + 1, rs, h, l => by
    by_cases e : i = j + 1
    · subst e
      exact ⟨rs, h⟩
    · obtain ⟨qs, _, h1, _⟩ := rowsTo_back h
      exact rowsTo_mono h1 (by omega)
theorem rowsTo_bad {d : Int} {ls : List Str} {i j : Nat} {rs : List (Sh × Int)} (h : rowsTo d ls j = some rs) (b : rowsTo d ls (i + 1) = none) : j ≤ i := by
  rcases Nat.lt_or_ge i j with l | l
  · obtain ⟨qs, e⟩ := rowsTo_mono (i := i + 1) h (by omega)
    rw [b] at e
    cases e
  · exact l
theorem HRes.one {z : Str} {r s : HAns} (h : HRes z r) (k : HRes z s) : r = s := by
  cases h with
  | root h =>
    cases k with
    | root _ => rfl
    | row k _ _ _ => rw [h] at k; cases k
    | tail k _ _ => rw [h] at k; cases k
    | told k _ _ => rw [h] at k; cases k
  | row h g hi b =>
    cases k with
    | root k => rw [h] at k; cases k
    | row k g' hi' b' =>
      cases h.symm.trans k
      have h1 := rowsTo_bad g b'
      have h2 := rowsTo_bad g' b
      rw [Nat.le_antisymm h1 h2]
    | tail k g' _ =>
      cases h.symm.trans k
      exact absurd (rowsTo_bad g' b) (by omega)
    | told k g' _ =>
      cases h.symm.trans k
      exact absurd (rowsTo_bad g' b) (by omega)
  | tail h g t =>
    cases k with
    | root k => rw [h] at k; cases k
    | row k g' hi' b' =>
      cases h.symm.trans k
      exact absurd (rowsTo_bad g b') (by omega)
    | tail k _ _ => rfl
    | told k g' t' => exact absurd t' t
  | told h g t =>
    cases k with
    | root k => rw [h] at k; cases k
    | row k g' hi' b' =>
      cases h.symm.trans k
      exact absurd (rowsTo_bad g b') (by omega)
    | tail k g' t' => exact absurd t t'
    | told k g' _ =>
      cases h.symm.trans k
      cases g.symm.trans g'
      rfl
/-- ascending rows of good sheets and counts -/
structure GoodRs (d : Int) (rs : List (Sh × Int)) : Prop where
  up : rs.Pairwise fun a b => ltS a.1 b.1
  ok : ∀ e ∈ rs, Small20 e.1 ∧ e.2.natAbs < 10 ^ 20 ∧ 1 ≤ e.2 ∧ shB d e.1 = true
theorem lt_of_le {x y : Sh} (h : leS x y = false) : ltS y x := by
  unfold leS at h
  simpa using h
theorem up_snoc {rs : List (Sh × Int)} {x : Sh} (h : rs.Pairwise fun a b => ltS a.1 b.1) (u : upB rs x = false) : ∀ e ∈ rs, ltS e.1 x := by
  intro e he
  unfold upB at u
  cases hl : rs.getLast? with
  | none =>
    rw [List.getLast?_eq_none_iff.mp hl] at he
    cases he
  | some f =>
    rw [hl] at u
    have lf : ltS f.1 x := lt_of_le u
    obtain ⟨ys, rfl⟩ := List.getLast?_eq_some_iff.mp hl
    rcases List.mem_append.mp he with z | z
    · exact ltS_tr ((List.pairwise_append.mp h).2.2 e z f (by simp)) lf
    · rw [List.mem_singleton.mp z]
      exact lf
theorem rowsTo_good {d : Int} {ls : List Str} : ∀ {i : Nat} {rs : List (Sh × Int)}, i ≤ ls.length → rowsTo d ls i = some rs → GoodRs d rs ∧ rs.length = i ∧ rs.map (fun e => rowT e.1 e.2) = ls.take i
  | 0, rs, _, h => by
    cases h
    exact ⟨⟨.nil, fun e he => by cases he⟩, rfl, rfl⟩
  | i + 1, rs, hi, h => by
    obtain ⟨qs, e, h1, h2, h3, rfl⟩ := rowsTo_back h
    obtain ⟨g, l, m⟩ := rowsTo_good (by omega) h1
    obtain ⟨z, hz, hr⟩ := Option.bind_eq_some_iff.mp h2
    obtain ⟨t, o⟩ := readRow_text hr
    refine ⟨⟨?_, fun f hf => ?_⟩, by rw [List.length_append, l]; rfl, ?_⟩
    · rw [List.pairwise_append]
      refine ⟨g.up, by simp, fun a ha b hb => ?_⟩
      rw [List.mem_singleton.mp hb]
      exact up_snoc g.up h3 a ha
    · rcases List.mem_append.mp hf with z | z
      · exact g.ok f z
      · rw [List.mem_singleton.mp z]
        exact o
    · rw [List.map_append, m, List.take_add_one, hz, List.map_cons, t]
      rfl
theorem up_next {rs : List (Sh × Int)} {e : Sh × Int} {qs : List (Sh × Int)} (h : (rs ++ e :: qs).Pairwise fun a b => ltS a.1 b.1) : upB rs e.1 = false := by
  unfold upB
  cases hl : rs.getLast? with
  | none => rfl
  | some f =>
    obtain ⟨ys, rfl⟩ := List.getLast?_eq_some_iff.mp hl
    have := (List.pairwise_append.mp h).2.2 f (by simp) e (by simp)
    show leS e.1 f.1 = false
    unfold leS
    rw [decide_eq_true this]
    rfl
/-- rows that are written are read -/
theorem rowsTo_rows {d : Int} {rs : List (Sh × Int)} (g : GoodRs d rs) : ∀ i, i ≤ rs.length → rowsTo d (rs.map fun e => rowT e.1 e.2) i = some (rs.take i)
  | 0, _ => rfl
  | i + 1, h => by
    have hi : i < rs.length := by omega
    obtain ⟨e, he⟩ : ∃ e, rs[i]? = some e := ⟨rs[i], List.getElem?_eq_getElem hi⟩
    obtain ⟨o1, o2, o3, o4⟩ := g.ok e (List.mem_of_getElem? he)
    rw [rowsTo, rowsTo_rows g i (by omega), List.getElem?_map, he]
    show (match some (rs.take i), readRow d (rowT e.1 e.2) with | some rs, some e => if upB rs e.1 = true then none else some (rs ++ [e]) | _, _ => none) = _
    rw [readRow_row o1 o2 o3 o4]
    have eq : rs.take i ++ e :: rs.drop (i + 1) = rs := by
      have := List.getElem?_eq_some_iff.mp he
      obtain ⟨h1, h2⟩ := this
      rw [← h2, ← List.drop_eq_getElem_cons h1]
      exact List.take_append_drop i rs
    have u : upB (rs.take i) e.1 = false := up_next (qs := rs.drop (i + 1)) (by rw [eq]; exact g.up)
    dsimp only
    rw [u, if_neg (by decide), List.take_add_one, he]
    rfl
/-- the text of a heap -/
def heapT (d : Int) (rs : List (Sh × Int)) : Str := Txt.join (Str.ofString "") (((Str.ofString "root " ++ decT d) :: rs.map fun e => rowT e.1 e.2).map fun l => l ++ Str.ofString "\n")
theorem join_ends (y : Str) : ∀ ls : List Str, Str.join (Str.ofString "") (ls.map fun l => l ++ y) = Str.join y (ls ++ [Str.ofString ""])
  | [] => rfl
  | [l] => by
    show l ++ y = l ++ y ++ Str.ofString ""
    rw [empty_str, Str.append_empty]
  | l :: m :: r => by
    have ih := join_ends y (m :: r)
    show l ++ y ++ Str.ofString "" ++ Str.join (Str.ofString "") ((m :: r).map fun l => l ++ y) = l ++ y ++ Str.join y ((m :: r) ++ [Str.ofString ""])
    rw [ih, empty_str, Str.append_empty]
theorem split_last {z : Str} (h : lastN z = Str.ofString "") : Txt.split z (Str.ofString "\n") = linesN z ++ [Str.ofString ""] := by
  have ne : Txt.split z (Str.ofString "\n") ≠ [] := fun e => by
    have := split_pos z (Str.ofString "\n")
    rw [e] at this
    cases this
  unfold lastN at h
  unfold linesN
  obtain ⟨l, hl⟩ : ∃ l, (Txt.split z (Str.ofString "\n")).getLast? = some l := by
    cases e : (Txt.split z (Str.ofString "\n")).getLast? with
    | none => exact absurd (List.getLast?_eq_none_iff.mp e) ne
    | some l => exact ⟨l, rfl⟩
  rw [hl] at h
  have h : l = Str.ofString "" := h
  obtain ⟨ys, e⟩ := List.getLast?_eq_some_iff.mp hl
  rw [e, List.dropLast_concat, h]
theorem head_lines {z : Str} {d : Int} (h : rootN z = some d) : linesN z = (Str.ofString "root " ++ decT d) :: (linesN z).tail ∧ isRB d = true := by
  unfold rootN at h
  obtain ⟨l, hl, hr⟩ := Option.bind_eq_some_iff.mp h
  obtain ⟨t, b⟩ := readRoot_text hr
  refine ⟨?_, b⟩
  cases e : linesN z with
  | nil =>
    rw [e] at hl
    cases hl
  | cons m r =>
    rw [e] at hl
    cases hl
    rw [t]
    rfl
theorem told_text {z : Str} {d : Int} {rs : List (Sh × Int)} (h : HRes z (.told d rs)) : heapT d rs = z ∧ GoodRs d rs ∧ isRB d = true ∧ rs.length = (linesN z).tail.length := by
  cases h with
  | told h g t =>
    obtain ⟨hl, hb⟩ := head_lines h
    obtain ⟨gd, ln, m⟩ := rowsTo_good (Nat.le_refl _) g
    rw [List.take_length] at m
    refine ⟨?_, gd, hb, ln⟩
    unfold heapT
    rw [TL.join_eq, join_ends, m, ← hl, ← split_last t]
    exact StrLaws.join_split z _
theorem row_lf (x : Sh) (n : Int) : 10 ∉ TL.tl (rowT x n) := by
  unfold rowT sheetT
  rw [TL.tl_append, TL.tl_append, TL.tl_append, TL.tl_append, tl_b, tl_x, dec_lets, TL.tl_mk]
  intro z
  simp only [List.mem_append, List.mem_cons, List.not_mem_nil, or_false] at z
  rcases z with (z | z) | (z | z) | z
  · exact lets_free (by decide) n z
  · cases z
  · exact pair_free (by decide) _ _ z
  · rcases z with z | z | z <;> cases z
  · exact pair_free (by decide) _ _ z
theorem told_of {d : Int} {rs : List (Sh × Int)} (hd : isRB d = true) (bd : d.natAbs < 10 ^ 20) (g : GoodRs d rs) : HRes (heapT d rs) (.told d rs) := by
  have sp : Txt.split (heapT d rs) (Str.ofString "\n") = ((Str.ofString "root " ++ decT d) :: rs.map fun e => rowT e.1 e.2) ++ [Str.ofString ""] := by
    unfold heapT
    rw [TL.join_eq, join_ends, ← TL.join_eq]
    refine TL.split_join tl_n (by decide +kernel) (by simp) ?_
    intro p hp
    rw [List.cons_append] at hp
    rcases List.mem_cons.mp hp with rfl | hp
    · rw [TL.tl_append, dec_lets, TL.tl_mk]
      intro z
      rcases List.mem_append.mp z with z | z
      · exact absurd z (by decide +kernel)
      · exact lets_free (by decide) d z
    · rcases List.mem_append.mp hp with hp | hp
      · obtain ⟨e, _, rfl⟩ := List.mem_map.mp hp
        exact row_lf _ _
      · rw [List.mem_singleton.mp hp]
        decide +kernel
  have ln : linesN (heapT d rs) = (Str.ofString "root " ++ decT d) :: rs.map fun e => rowT e.1 e.2 := by
    unfold linesN
    rw [sp, List.dropLast_concat]
  have la : lastN (heapT d rs) = Str.ofString "" := by
    unfold lastN
    rw [sp, List.getLast?_concat]
    rfl
  refine .told ?_ ?_ la
  · unfold rootN
    rw [ln]
    exact readRoot_root hd bd
  · rw [ln, List.tail_cons]
    have := rowsTo_rows g rs.length (Nat.le_refl _)
    rwa [List.take_length, ← List.length_map (f := fun e : Sh × Int => rowT e.1 e.2)] at this
/-- few lines -/
theorem few_rows {z : Str} {d : Int} {rs : List (Sh × Int)} {i : Nat} (hz : z.length ≤ 5900) (hi : i ≤ (linesN z).tail.length) (h : rowsTo d (linesN z).tail i = some rs) : i ≤ 1000 := by
  obtain ⟨g, l, m⟩ := rowsTo_good hi h
  have w := split_weight z (Str.ofString "\n") (by decide +kernel)
  have long : ∀ y ∈ (linesN z).tail.take i, 5 ≤ y.length := by
    intro y hy
    rw [← m] at hy
    obtain ⟨e, _, rfl⟩ := List.mem_map.mp hy
    unfold rowT sheetT
    have e1 : (Str.ofString " ").length = 1 := by decide +kernel
    have e2 : (Str.ofString " x ").length = 3 := by decide +kernel
    have e3 : 1 ≤ (decT e.2).length := by
      rw [dec_lets, mkS_len]
      exact List.length_pos_iff.mpr (lets_ne _)
    simp only [Str.length_append, e1, e2]
    omega
  have sub : ((linesN z).tail.take i).Sublist (Txt.split z (Str.ofString "\n")) := (List.take_sublist _ _).trans ((List.tail_sublist _).trans (List.dropLast_sublist _))
  have sums : ∀ {xs ys : List Str}, xs.Sublist ys → (xs.map (·.length)).sum + xs.length ≤ (ys.map (·.length)).sum + ys.length := by
    intro xs ys s
    induction s with
    | slnil => exact Nat.le_refl _
    | cons a _ ih => simp only [List.map_cons, List.sum_cons, List.length_cons]; omega
    | cons_cons a _ ih => simp only [List.map_cons, List.sum_cons, List.length_cons]; omega
  have s2 := sums sub
  have s3 : ∀ {xs : List Str}, (∀ y ∈ xs, 5 ≤ y.length) → 5 * xs.length ≤ (xs.map (·.length)).sum := by
    intro xs
    induction xs with
    | nil => intro _; exact Nat.le_refl _
    | cons a xs ih =>
      intro hx
      have h1 := hx a List.mem_cons_self
      have h2 := ih fun y hy => hx y (List.mem_cons_of_mem _ hy)
      simp only [List.map_cons, List.sum_cons, List.length_cons]
      omega
  have s4 := s3 long
  have ll : ((linesN z).tail.take i).length = i := by rw [List.length_take]; omega
  rw [ll] at s2 s4
  omega
/-! ### numbers that are read -/
/-- i not in range(lo, hi) -/
theorem op_notIn_rng {X : Cx} : OpR X (compareOp .NotIn) (fun x y H Q => ∃ i a lo hi, x = V.int i ∧ y = V.ref a ∧ H a = some (.rng lo hi) ∧ Q (.bl (!decide (lo ≤ i ∧ i < hi))) H) := by
  rintro pins s σ H x y v u Q I rx ry ⟨i, a, lo, hi, rfl, rfl, ha, q⟩
  obtain ⟨k, rfl⟩ := rx
  cases (show u = Value.ref a from ry)
  obtain ⟨t1, t2, t3, ho⟩ := I.hok a _ ha
  have rng : s.TypeIs (.ref a) "range" := ⟨_, ho, rfl⟩
  apply wpAny_bind
  apply wpAny_contains_slot rng F.slot_range_contains
  refine call_meets F.slot_range_contains rng F.entry_range_contains (F.args_range_contains_2 _ _) (q_contains a lo hi i t1 t2 t3 k) ⟨ho, ?_⟩
  refine wpAny_truthy_bool (wpAny_pure ⟨.bl _, H, I, rfl, ?_⟩)
  rw [place1]
  exact q
theorem dig_in (c : Nat) : decide (c ∈ (Str.ofString "0123456789").cps.toList) = digB c := by
  have e : (Str.ofString "0123456789").cps.toList = [48, 49, 50, 51, 52, 53, 54, 55, 56, 57] := by decide +kernel
  rw [e]
  unfold digB
  by_cases h : 48 ≤ c ∧ c ≤ 57
  · rw [decide_eq_true h, decide_eq_true]
    simp only [List.mem_cons, List.not_mem_nil, or_false]
    omega
  · rw [decide_eq_false h, decide_eq_false]
    simp only [List.mem_cons, List.not_mem_nil, or_false]
    omega
def optV : Option Int → V
  | none => .non
  | some n => .int n
section
variable {base : Heap} {K : PySem.W.Frag} {mg : Str → Option Value} {P : Program} {w : World}
theorem starts_minus (z : Str) : Txt.startswith z (Str.ofString "-") = minusB z.cps.toList := by
  unfold Txt.startswith minusB
  have e : (Str.ofString "-").cps.toList = [45] := by decide +kernel
  have l : (Str.ofString "-").length = 1 := by decide +kernel
  rw [StrLaws.subAt_eq, e, l, List.drop_zero, TL.len_tl]
  show (decide (0 + 1 ≤ z.cps.toList.length) && _) = _
  cases z.cps.toList with
  | nil => decide
  | cons c r =>
    have h : decide (0 + 1 ≤ (c :: r).length) = true := decide_eq_true (by simp)
    rw [h, Bool.true_and]
    simp
theorem cut_tail (z : Str) : cutS z (some 1) none = mkS (z.cps.toList.drop 1) := by
  unfold cutS
  rw [show (some (1 : Int)) = some ((1 : Nat) : Int) from rfl, HT.sIx_nat, HT.sIx_none]
  have hl : z.length = z.cps.toList.length := TL.len_tl z
  congr 2
  rw [hl]
  generalize z.cps.toList = l
  cases l with
  | nil => rfl
  | cons c r =>
    have : min 1 (c :: r).length = 1 := by rw [List.length_cons]; omega
    rw [this]
    exact List.take_of_length_le (by simp)
theorem digs_len (z : List Nat) : (digsL z).length ≤ z.length := by
  unfold digsL
  split
  · rw [List.length_drop]
    omega
  · exact Nat.le_refl _
theorem mk_self (z : Str) : mkS z.cps.toList = z := TL.mk_tl z
theorem dS {x y : Str} : decide (V.str x = V.str y) = decide (x = y) := by
  by_cases h : x = y
  · rw [h, decide_eq_true rfl, decide_eq_true rfl]
  · rw [decide_eq_false h, decide_eq_false fun z => h (V.str.inj z)]
def spReadN : Sp := fun vs H Q _ => ∃ z : Str, vs = [.str z] ∧ z.length ≤ 6000 ∧ ∀ H', Same H H' → Q (optV (readN z.cps.toList)) H'
theorem ok_read_number (T : Txt K mg) : FnOk P w K mg base CX0 1 T.f_read_number T.d_read_number ["text"] spReadN := by
  refine T.F_read_number.ok sc_read_number (fun vs H Q E h => ?_) (fun cdv A outer s H vs Q E hr h => ?_)
  · obtain ⟨z, rfl, _⟩ := h
    rfl
  · obtain ⟨z, rfl, hz, q⟩ := h
    refine ⟨_, (Evl.pss_cut (ps_set (i := 1) sc_read_number.nd rfl (Or.inl rfl) (pe_ifExp (pt_val (pe_m1 PySem.F.slot_str_startswith PySem.F.type_str_startswith mt_startswith (pv 0) pe_str)) (pe_slice sl_str (pv 0) (po_some pe_int) po_none) (pv 0)))
      (pss_cons (ps_if (PW.pt (pw_or (pt_cmpR op_notIn_rng (pe_callB call_len_str (by rfl) T.n_len (by decide +kernel) (pa_cons (pv 1) pa_nil)) (pe_callTy cr_range2 (by rfl) T.n_range (by decide +kernel) (pa_cons pe_int (pa_cons (pe_op op_add (pe_glob (v := .int (20)) (by rfl) T.g_MOST_DIGITS T.rv_MOST_DIGITS) pe_int) pa_nil))) (by rfl)) (pw_or1 (pt_not (pt_val (pe_callB (cr_all rfl) (by rfl) T.n_all (by decide +kernel) (pa_cons (pe_lc (own := [("digit", 3)]) (g := (gName 3)) (tt := tYes) (by rfl) sc_read_number.nd (pi_str (pv 1)) (blkOk_by (own := [("digit", 3)]) (N := ["text", "digits", "number", "digit"]) (sc := defScope s_read_number) (by decide +kernel)) (fun _ _ _ _ _ => (pg_name (i := 3) sc_read_number.nd rfl (Or.inl rfl))) (fun _ _ _ _ _ => pts_nil) (fun _ _ _ _ _ => (pe_cmpR op_in_sign (pv 3) pe_str (by rfl)))) pa_nil))))))) (pss_one (ps_ret pe_non)) pss_nil)
      (pss_cons (ps_set (i := 2) sc_read_number.nd rfl (Or.inl rfl) (pe_callTy call_int_str (by rfl) T.n_int (by decide +kernel) (pa_cons (pv 0) pa_nil)))
      (pss_one (ps_ret (pe_ifExp (pt_cmpR op_eq (pe_callTy call_str_int (by rfl) T.n_str (by decide +kernel) (pa_cons (pv 2) pa_nil)) (pv 0) (nomark _)) (pv 2) pe_non)))))), ?_⟩
    have hzl : z.cps.toList.length ≤ 6000 := by rw [← TL.len_tl]; exact hz
    have hz' : z.length ≤ sizeLine := by rw [sz_eq]; omega
    refine ⟨fun σ G => σ = [some (.str z), some (.str (mkS (digsL z.cps.toList))), none, none] ∧ G = H, ?_, ?_⟩
    · refine ⟨_, rfl, ⟨_, rfl⟩, z, _, rfl, rfl, _, rfl, ?_⟩
      rw [starts_minus]
      cases m : minusB z.cps.toList with
      | true =>
        refine iteT ⟨_, rfl, 1, rfl, z, rfl, hz', ?_, rfl⟩
        rw [cut_tail]
        unfold digsL
        rw [if_pos m]
        rfl
      | false =>
        refine iteF ⟨_, rfl, ?_, rfl⟩
        unfold digsL
        rw [if_neg (by rw [m]; decide), mk_self]
        rfl
    rintro σ G ⟨rfl, rfl⟩
    have dl := digs_len z.cps.toList
    have hd : (mkS (digsL z.cps.toList)).length ≤ sizeLine := by rw [mkS_len, sz_eq]; omega
    unfold readN at q
    refine ⟨_, rfl, _, rfl, hd, 20, 1, rfl, rfl, 1, 21, rfl, fun p np => ⟨_, p, 1, 21, rfl, rfl, upd_same, _, rfl, ?_⟩⟩
    have s1 := same_new (o := .rng 1 21) np
    have el : ((mkS (digsL z.cps.toList)).length : Int) = ((digsL z.cps.toList).length : Int) := by rw [mkS_len]
    by_cases g1 : 1 ≤ ((mkS (digsL z.cps.toList)).length : Int) ∧ ((mkS (digsL z.cps.toList)).length : Int) < 21
    · rw [decide_eq_true g1]
      refine iteF ⟨_, rfl, _, rfl, fun L nL => lc_it walk_str (fun i X => Same G X ∧ X L = some (.lst (((digsL z.cps.toList).take i |>.map digB).map V.bl))) ⟨s1.trans (same_new nL), upd_same⟩ (fun _ _ _ _ => trivial) ?_ ?_⟩
      · rintro i x X X' hi ⟨sX, hL⟩ ⟨rfl, c, hc, rfl⟩
        refine ⟨rfl, _, rfl, c, _, rfl, rfl, _, hL, ?_, fun a o zz => (upd_ne (ne_of_none zz (s1.free nL))).trans (sX _ _ zz), ?_⟩
        · rw [List.length_map, List.length_map, List.length_take]
          exact Nat.lt_of_le_of_lt (Nat.min_le_right _ _) (by rw [sz_eq]; omega)
        · have e : (digsL z.cps.toList)[i]? = some c := by simpa using hc
          rw [upd_same, dig_in, List.take_succ, e, List.map_append, List.map_append]
          rfl
      · rintro X ⟨sX, hL⟩
        have en : (mkS (digsL z.cps.toList)).cps.size = (digsL z.cps.toList).length := by simp
        rw [en, List.take_length] at hL
        refine ⟨L, _, rfl, SqL.of hL, _, rfl, ?_⟩
        have ga : guardB z.cps.toList = ((digsL z.cps.toList).map digB).all id := by
          unfold guardB
          rw [decide_eq_true (by rw [el] at g1; omega), Bool.true_and, List.all_map]
          rfl
        rw [← ga]
        cases g : guardB z.cps.toList with
        | false =>
          rw [g, if_neg (by decide)] at q
          exact iteT (q _ sX)
        | true =>
          rw [g, if_pos rfl] at q
          have vb := guard_bd g
          have e64 : (valN z.cps.toList).natAbs < 10 ^ 64 := by omega
          have ml := guard_len g
          refine iteF ⟨_, rfl, z, valN z.cps.toList, rfl, by rw [← mk_self z]; exact guard_int g, by rw [TL.len_tl]; show z.cps.toList.length ≤ 640; omega, ?_⟩
          refine ⟨_, rfl, _, rfl, (text_len e64).1, _, rfl, rfl, _, rfl, ?_⟩
          rw [show Str.ofString (toString (valN z.cps.toList)) = decT (valN z.cps.toList) from rfl, dS]
          have gt := guard_text g
          rw [mk_self] at gt
          cases zb : zeroB z.cps.toList with
          | false =>
            rw [decide_eq_true (gt.mpr zb)]
            rw [zb, if_neg (by decide)] at q
            exact iteT ⟨_, rfl, q _ sX⟩
          | true =>
            rw [decide_eq_false fun e => by rw [gt.mp e] at zb; cases zb]
            rw [zb, if_pos rfl] at q
            exact iteF (q _ sX)
    · rw [decide_eq_false g1]
      have g : guardB z.cps.toList = false := by
        unfold guardB
        rw [decide_eq_false (by rw [el] at g1; omega), Bool.false_and]
      rw [g, if_neg (by decide)] at q
      exact iteT (iteT (q _ s1))
theorem cut_head (z : Str) : cutS z none (some 1) = mkS (z.cps.toList.take 1) := by
  unfold cutS
  rw [show (some (1 : Int)) = some ((1 : Nat) : Int) from rfl, HT.sIx_nat, HT.sIx_none, List.drop_zero, Nat.sub_zero]
  have hl : z.length = z.cps.toList.length := TL.len_tl z
  congr 2
  rw [hl]
  generalize z.cps.toList = l
  cases l with
  | nil => rfl
  | cons c r => rw [show min 1 (c :: r).length = 1 by rw [List.length_cons]; omega]
theorem first_is (z : Str) (c : Nat) : decide (cutS z none (some 1) = mkS [c]) = (z.cps.toList.head? == some c) := by
  rw [cut_head]
  have inj : ∀ {a b : List Nat}, mkS a = mkS b ↔ a = b := fun {a b} => ⟨fun e => by have := congrArg TL.tl e; rwa [TL.tl_mk, TL.tl_mk] at this, fun e => by rw [e]⟩
  rw [Bool.eq_iff_iff, decide_eq_true_iff, inj]
  cases z.cps.toList with
  | nil => simp
  | cons d r => simp
theorem minus_S : Str.ofString "-" = mkS [45] := by decide +kernel
theorem zero_S : Str.ofString "0" = mkS [48] := by decide +kernel
theorem ok_number_read (T : Txt K mg) : FnOk P w K mg base CX0 1 T.f_number_read T.d_number_read ["_law_word"] spReadN := by
  refine T.F_number_read.ok sc_number_read (fun vs H Q E h => ?_) (fun cdv A outer s H vs Q E hr h => ?_)
  · obtain ⟨z, rfl, _⟩ := h
    rfl
  · obtain ⟨z, rfl, hz, q⟩ := h
    refine ⟨_, (Evl.pss_cut (ps_set (i := 1) sc_number_read.nd rfl (Or.inl rfl) (pe_ifExp (pt_cmpR op_eq (pe_slice sl_str (pv 0) po_none (po_some pe_int)) pe_str (nomark _)) (pe_slice sl_str (pv 0) (po_some pe_int) po_none) (pv 0)))
      (pss_cons (ps_if (PW.pt (pw_or (pt_not (pt_chain op_le op_le pe_int (pe_callB call_len_str (by rfl) T.n_len (by decide +kernel) (pa_cons (pv 1) pa_nil)) pe_int)) (pw_or1 (pt_not (pt_val (pe_callB (cr_all rfl) (by rfl) T.n_all (by decide +kernel) (pa_cons (pe_lc (own := [("_law_sign_z", 2)]) (g := (gName 2)) (tt := tYes) (by rfl) sc_number_read.nd (pi_str (pv 1)) (blkOk_by (own := [("_law_sign_z", 2)]) (N := ["_law_word", "_law_digits", "_law_sign_z"]) (sc := defScope s_number_read) (by decide +kernel)) (fun _ _ _ _ _ => (pg_name (i := 2) sc_number_read.nd rfl (Or.inl rfl))) (fun _ _ _ _ _ => pts_nil) (fun _ _ _ _ _ => (pe_cmpR op_in_sign (pv 2) pe_str (by rfl)))) pa_nil))))))) (pss_one (ps_ret pe_non)) pss_nil)
      (pss_cons (ps_if (PW.pt (pw_and (pt_cmpR op_eq (pe_slice sl_str (pv 1) po_none (po_some pe_int)) pe_str (nomark _)) (pw_and1 (pt_cmpR op_ne (pv 0) pe_str (nomark _))))) (pss_one (ps_ret pe_non)) pss_nil)
      (pss_one (ps_ret (pe_callTy call_int_str (by rfl) T.n_int (by decide +kernel) (pa_cons (pv 0) pa_nil))))))), ?_⟩
    have hzl : z.cps.toList.length ≤ 6000 := by rw [← TL.len_tl]; exact hz
    have hz' : z.length ≤ sizeLine := by rw [sz_eq]; omega
    refine ⟨fun σ G => σ = [some (.str z), some (.str (mkS (digsL z.cps.toList))), none] ∧ G = H, ?_, ?_⟩
    · refine ⟨_, rfl, 1, rfl, z, rfl, hz', rfl, _, rfl, ?_⟩
      have fi : decide (cutS z none (some 1) = mkS [45]) = minusB z.cps.toList := first_is z 45
      rw [dS, minus_S, fi]
      cases m : minusB z.cps.toList with
      | true =>
        refine iteT ⟨_, rfl, 1, rfl, z, rfl, hz', ?_, rfl⟩
        rw [cut_tail]
        unfold digsL
        rw [if_pos m]
        rfl
      | false =>
        refine iteF ⟨_, rfl, ?_, rfl⟩
        unfold digsL
        rw [if_neg (by rw [m]; decide), mk_self]
        rfl
    rintro σ G ⟨rfl, rfl⟩
    have dl := digs_len z.cps.toList
    have hd : (mkS (digsL z.cps.toList)).length ≤ sizeLine := by rw [mkS_len, sz_eq]; omega
    unfold readN at q
    have el : ((mkS (digsL z.cps.toList)).length : Int) = ((digsL z.cps.toList).length : Int) := by rw [mkS_len]
    refine ⟨_, rfl, _, rfl, hd, 1, _, rfl, rfl, _, rfl, ?_⟩
    have bad : ¬ (1 ≤ ((mkS (digsL z.cps.toList)).length : Int) ∧ ((mkS (digsL z.cps.toList)).length : Int) ≤ 20) → ∀ X, Same G X → Q .non X := by
      intro g1 X sX
      have g : guardB z.cps.toList = false := by
        unfold guardB
        rw [decide_eq_false (by rw [el] at g1; omega), Bool.false_and]
      rw [g, if_neg (by decide)] at q
      exact q _ sX
    by_cases h1 : 1 ≤ ((mkS (digsL z.cps.toList)).length : Int)
    · rw [decide_eq_true h1]
      refine iteT ⟨_, 20, rfl, rfl, _, rfl, ?_⟩
      by_cases h2 : ((mkS (digsL z.cps.toList)).length : Int) ≤ 20
      · rw [decide_eq_true h2]
        refine iteF ⟨_, rfl, _, rfl, fun L nL => lc_it walk_str (fun i X => Same G X ∧ X L = some (.lst (((digsL z.cps.toList).take i |>.map digB).map V.bl))) ⟨same_new nL, upd_same⟩ (fun _ _ _ _ => trivial) ?_ ?_⟩
        · rintro i x X X' hi ⟨sX, hL⟩ ⟨rfl, c, hc, rfl⟩
          refine ⟨rfl, _, rfl, c, _, rfl, rfl, _, hL, ?_, fun a o zz => (upd_ne (ne_of_none zz nL)).trans (sX _ _ zz), ?_⟩
          · rw [List.length_map, List.length_map, List.length_take]
            exact Nat.lt_of_le_of_lt (Nat.min_le_right _ _) (by rw [sz_eq]; omega)
          · have e : (digsL z.cps.toList)[i]? = some c := by simpa using hc
            rw [upd_same, dig_in, List.take_succ, e, List.map_append, List.map_append]
            rfl
        · rintro X ⟨sX, hL⟩
          have en : (mkS (digsL z.cps.toList)).cps.size = (digsL z.cps.toList).length := by simp
          rw [en, List.take_length] at hL
          refine ⟨L, _, rfl, SqL.of hL, _, rfl, ?_⟩
          have ga : guardB z.cps.toList = ((digsL z.cps.toList).map digB).all id := by
            unfold guardB
            rw [decide_eq_true (by rw [el] at h1 h2; omega), Bool.true_and, List.all_map]
            rfl
          rw [← ga]
          cases g : guardB z.cps.toList with
          | false =>
            rw [g, if_neg (by decide)] at q
            exact iteT (q _ sX)
          | true =>
            rw [g, if_pos rfl] at q
            have ml := guard_len g
            refine iteF ⟨_, rfl, 1, rfl, _, rfl, hd, rfl, _, rfl, ?_⟩
            have fi : decide (cutS (mkS (digsL z.cps.toList)) none (some 1) = mkS [48]) = ((digsL z.cps.toList).head? == some 48) := first_is (mkS (digsL z.cps.toList)) 48
            rw [dS, zero_S, fi]
            have ret : zeroB z.cps.toList = false → tRet (tCB (fun xs H Q => ∃ a n, xs = [.str a] ∧ PySem.intText? a = some n ∧ a.length ≤ 640 ∧ Q (.int n) H) (tCons (tVar 0) tNil)) { nx := fun _ H' => Q .non H', rt := Q } [some (.str z), some (.str (mkS (digsL z.cps.toList))), none] X := by
              intro zb
              rw [zb, if_neg (by decide)] at q
              exact ⟨_, rfl, z, valN z.cps.toList, rfl, by rw [← mk_self z]; exact guard_int g, by rw [TL.len_tl]; show z.cps.toList.length ≤ 640; omega, q _ sX⟩
            cases hh : ((digsL z.cps.toList).head? == some 48) with
            | false => exact iteF (iteF (ret (by unfold zeroB; rw [hh, Bool.false_and])))
            | true =>
              refine iteT ⟨_, rfl, rfl, _, rfl, ?_⟩
              rw [dS]
              by_cases e0 : z = mkS [48]
              · rw [decide_eq_true e0]
                exact iteF (ret (by unfold zeroB; rw [e0]; rfl))
              · rw [decide_eq_false e0]
                have : zeroB z.cps.toList = true := by
                  unfold zeroB
                  rw [hh, Bool.true_and, Bool.not_eq_true', beq_eq_false_iff_ne]
                  intro e
                  exact e0 (by rw [← mk_self z, e])
                rw [this, if_pos rfl] at q
                exact iteT (q _ sX)
      · rw [decide_eq_false h2]
        exact iteT (bad (fun z => h2 z.2) _ (Same.refl _))
    · rw [decide_eq_false h1]
      exact iteF ⟨_, rfl, iteT (bad (fun z => h1 z.1) _ (Same.refl _))⟩
end
/-! ### two numbers that are read -/
section
variable {base : Heap} {K : PySem.W.Frag} {mg : Str → Option Value} {P : Program} {w : World}
def spReadNs (K : PySem.W.Frag) : Sp := fun vs H Q _ => ∃ (t : Addr) (a b : Str), vs = [.ref t] ∧ SqT K H t [.str a, .str b] ∧ a.length ≤ 6000 ∧ b.length ≤ 6000 ∧
  (∀ H', Same H H' → (readN a.cps.toList = none ∨ readN b.cps.toList = none) → Q .non H') ∧ ∀ m n p H', readN a.cps.toList = some m → readN b.cps.toList = some n → Same H H' → H' p = some (.tup [.int m, .int n]) → Q (.ref p) H'
theorem opt_flat (o : Option Int) : flatV (optV o) = true := by cases o <;> rfl
theorem ok_read_numbers (T : Txt K mg) : FnOk P w K mg base CX0 2 T.f_read_numbers T.d_read_numbers ["texts"] (spReadNs K) := by
  refine T.F_read_numbers.ok sc_read_numbers (fun vs H Q E h => ?_) (fun cdv A outer s H vs Q E hr h => ?_)
  · obtain ⟨t, a, b, rfl, _⟩ := h
    rfl
  · obtain ⟨t, a, b, rfl, hT, la, lb, q1, q2⟩ := h
    refine ⟨_, (pss_cons (ps_set (i := 1) sc_read_numbers.nd rfl (Or.inl rfl) (pe_callTy call_tuple_of (by rfl) T.n_tuple (by decide +kernel) (pa_cons (pe_lc (own := [("text", 2)]) (g := (gName 2)) (tt := tYes) (te := tCall spReadN [] E0 (tCons (tVar 2) tNil)) (by rfl) sc_read_numbers.nd (pi_tup (pv 0)) (blkOk_by (own := [("text", 2)]) (N := ["texts", "numbers", "text"]) (sc := defScope s_read_numbers) (by decide +kernel)) (fun _ _ _ _ _ => (pg_name (i := 2) sc_read_numbers.nd rfl (Or.inl rfl))) (fun _ _ _ _ _ => pts_nil) (fun _ _ _ _ _ => (pe_call (ok_read_number T) (hr.mono (by decide)) (by rfl) T.g_read_number T.F_read_number.kp T.b_read_number .nil pass0 (pa_cons (pv 2) pa_nil)))) pa_nil)))
      (pss_one (ps_ret (pe_ifExp (pt_cmpR op_in_seq pe_non (pv 1) (by rfl)) pe_non (pv 1))))), ?_⟩
    refine ⟨_, rfl, t, rfl, ⟨_, hT⟩, fun L nL => lc_tup (K := K) (a := t) (xs := [.str a, .str b]) (fun i G => Same H G ∧ G L = some (.lst (([a, b].take i).map fun z => optV (readN z.cps.toList)))) ⟨same_new nL, upd_same⟩ (fun i G _ z => Evl.ex_t z.1 hT) ?_ ?_⟩
    · rintro i x G hx ⟨sG, hG⟩
      obtain ⟨z, rfl, lz, hz⟩ : ∃ z : Str, x = .str z ∧ z.length ≤ 6000 ∧ [a, b][i]? = some z := by
        match i, hx with
        | 0, hx => cases hx; exact ⟨a, rfl, la, rfl⟩
        | 1, hx => cases hx; exact ⟨b, rfl, lb, rfl⟩
        | n + 2, hx => simp at hx
      refine ⟨rfl, _, rfl, z, rfl, lz, fun H4 s4 => ⟨_, s4 _ _ hG, ?_, fun a' o zz => (upd_ne (ne_of_none zz nL)).trans (s4 _ _ (sG _ _ zz)), ?_⟩⟩
      · rw [List.length_map, List.length_take]
        exact small1000 (show min i 2 ≤ 1000 from Nat.le_trans (Nat.min_le_right _ _) (by decide))
      · rw [upd_same, List.take_succ, hz, List.map_append]
        rfl
    · rintro G ⟨sG, hG⟩
      have hG' : G L = some (.lst [optV (readN a.cps.toList), optV (readN b.cps.toList)]) := hG
      refine ⟨L, _, rfl, .inl ⟨SqL.of hG', fun p np => ?_⟩⟩
      have e := same_new (o := .tup [optV (readN a.cps.toList), optV (readN b.cps.toList)]) np
      refine ⟨_, rfl, p, [optV (readN a.cps.toList), optV (readN b.cps.toList)], rfl, .inr (SqT.of upd_same), rfl, ?_, ?_⟩
      · simp [opt_flat]
      · cases ha : readN a.cps.toList with
        | none =>
          rw [ha] at e
          exact ⟨true, rfl, iteT (q1 _ (sG.trans e) (.inl ha))⟩
        | some m =>
          cases hb : readN b.cps.toList with
          | none =>
            rw [ha, hb] at e
            exact ⟨true, rfl, iteT (q1 _ (sG.trans e) (.inr hb))⟩
          | some n =>
            rw [ha, hb] at e
            exact ⟨false, rfl, iteF ⟨_, rfl, q2 m n p _ ha hb (sG.trans e) upd_same⟩⟩
end
/-! ### pairs that are read -/
section
variable {base : Heap} {K : PySem.W.Frag} {mg : Str → Option Value} {P : Program} {w : World}
def spReadP : Sp := fun vs H Q _ => ∃ l : List Nat, vs = [.str (mkS l)] ∧ l.length ≤ 5900 ∧
  (∀ H', Same H H' → readP l = none → Q .non H') ∧ ∀ m n p H', readP l = some (m, n) → Same H H' → H' p = some (.tup [.int m, .int n]) → Q (.ref p) H'
theorem ok_read_pair (T : Txt K mg) : FnOk P w K mg base CX0 4 T.f_read_pair T.d_read_pair ["text"] spReadP := by
  refine T.F_read_pair.ok sc_read_pair (fun vs H Q E h => ?_) (fun cdv A outer s H vs Q E hr h => ?_)
  · obtain ⟨l, rfl, _⟩ := h
    rfl
  · obtain ⟨l, rfl, hl, q1, q2⟩ := h
    refine ⟨_, (pss_cons (ps_if (pt_not (pt_val (pe_m1 PySem.F.slot_str_endswith PySem.F.type_str_endswith mt_endswith (pv 0) pe_str))) (pss_one (ps_ret (pe_call (ok_read_numbers T) (hr.mono (by decide)) (by rfl) T.g_read_numbers T.F_read_numbers.kp T.b_read_numbers .nil pass0 (pa_cons (pe_tup (pa_cons (pv 0) (pa_cons pe_str pa_nil))) pa_nil)))) pss_nil)
      (pss_cons (ps_set (i := 1) sc_read_pair.nd rfl (Or.inl rfl) (pe_slice sl_str (pv 0) po_none (po_some (pe_un un_neg pe_int))))
      (pss_cons (ps_set (i := 2) sc_read_pair.nd rfl (Or.inl rfl) (pe_callB (call_max2 rfl) (by rfl) T.n_max (by decide +kernel) (pa_cons (pe_m1 PySem.F.slot_str_rfind PySem.F.type_str_rfind mt_rfind (pv 1) pe_str) (pa_cons (pe_m1 PySem.F.slot_str_rfind PySem.F.type_str_rfind mt_rfind (pv 1) pe_str) pa_nil))))
      (Evl.pss_cut (ps_if (pt_cmpR op_lt (pv 2) pe_int (nomark _)) (pss_one (ps_set (i := 3) sc_read_pair.nd rfl (Or.inl rfl) (pe_call (ok_read_numbers T) (hr.mono (by decide)) (by rfl) T.g_read_numbers T.F_read_numbers.kp T.b_read_numbers .nil pass0 (pa_cons (pe_tup (pa_cons pe_str (pa_cons (pv 1) pa_nil))) pa_nil)))) (pss_one (ps_set (i := 3) sc_read_pair.nd rfl (Or.inl rfl) (pe_call (ok_read_numbers T) (hr.mono (by decide)) (by rfl) T.g_read_numbers T.F_read_numbers.kp T.b_read_numbers .nil pass0 (pa_cons (pe_tup (pa_cons (pe_slice sl_str (pv 1) po_none (po_some (pv 2))) (pa_cons (pe_m1 PySem.F.slot_str_removeprefix PySem.F.type_str_removeprefix mt_removeprefix (pe_slice sl_str (pv 1) (po_some (pv 2)) po_none) pe_str) pa_nil))) pa_nil)))))
      (pss_one (ps_ret (pe_ifExp (PW.pt (pw_and (pt_cmpR op_notN (pv 3) pe_non (nomark _)) (pw_and1 (pt_cmpR op_eq (pe_call (ok_pair_text T) (hr.mono (by decide)) (by rfl) T.g_pair_text T.F_pair_text.kp T.b_pair_text .nil pass0 (pa_cons (pv 3) pa_nil)) (pv 0) (nomark _))))) (pv 3) pe_non))))))), ?_⟩
    have hs : (mkS l).length ≤ sizeLine := by rw [mkS_len, sz_eq]; omega
    have zr : readN [48] = some 0 := by decide +kernel
    refine ⟨_, rfl, ⟨_, rfl⟩, mkS l, _, rfl, rfl, _, rfl, ?_⟩
    rw [r_S, ends_is]
    unfold readP at q1 q2
    cases hr' : (l.getLast? == some 114) with
    | false =>
      have ne : ¬ l.getLast? = some 114 := by simpa using hr'
      rw [if_neg ne] at q1 q2
      refine iteT ⟨_, rfl, small1000 (show 1 ≤ 1000 by decide), fun t nt => ?_⟩
      have s1 := same_new (o := .tup [.str (mkS l), .str (Str.ofString "0")]) nt
      refine ⟨t, mkS l, Str.ofString "0", rfl, SqT.of upd_same, by rw [mkS_len]; omega, by decide +kernel, fun H' e hn => q1 _ (s1.trans e) ?_, fun m n p H' hm hn e hp => q2 m n p _ ?_ (s1.trans e) hp⟩
      · rw [zero_S, mk_letters, mk_letters, zr] at hn
        rcases hn with hn | hn
        · rw [hn]
          rfl
        · cases hn
      · rw [mk_letters] at hm
        rw [zero_S, mk_letters, zr] at hn
        cases hn
        rw [hm]
        rfl
    | true =>
      have ye : l.getLast? = some 114 := by simpa using hr'
      rw [if_pos ye] at q1 q2
      obtain ⟨b, rfl⟩ := List.getLast?_eq_some_iff.mp ye
      rw [List.dropLast_concat] at q1 q2
      rw [List.length_append] at hl
      have hb : (mkS b).length ≤ sizeLine := by rw [mkS_len, sz_eq]; omega
      have e0 : cutS (mkS (b ++ [114])) none (some (-1)) = mkS b := by rw [cut_init, List.dropLast_concat]
      refine iteF ⟨_, rfl, 1, rfl, -1, rfl, _, rfl, hs, ?_⟩
      rw [e0]
      refine ⟨_, rfl, ⟨_, rfl⟩, mkS b, _, rfl, rfl, _, rfl, ⟨_, rfl⟩, mkS b, _, rfl, rfl, _, _, rfl, ?_⟩
      have fp := rfind_is b 43
      have fm := rfind_is b 45
      rw [← plus_S] at fp
      rw [← minus_S] at fm
      have mx := max_at fp fm
      generalize Txt.rfind (mkS b) (Str.ofString "+") = ip at *
      generalize Txt.rfind (mkS b) (Str.ofString "-") = im at *
      generalize (if im > ip then im else ip) = x at *
      -- what was read
      obtain ⟨k, hk, ia⟩ : ∃ k : Nat, ((x < 1 ∧ k = 0) ∨ (1 ≤ k ∧ x = k)) ∧ IsAt b k := by
        rcases mx with ⟨h1, h2⟩ | ⟨k, h1, h2, h3⟩
        · exact ⟨0, .inl ⟨h1, rfl⟩, h2⟩
        · exact ⟨k, .inr ⟨h1, h2⟩, h3⟩
      rw [at_one (sgAt_is b) ia, ← prog_res ia] at q1 q2
      unfold progP at q1 q2
      refine ⟨fun σ G => Same H G ∧ ∃ v, σ = [some (.str (mkS (b ++ [114]))), some (.str (mkS b)), some (.int x), some v] ∧
        ((v = .non ∧ ((if k = 0 then readN [48] else readN (b.take k)) = none ∨ readN (if k = 0 then b else if (b.drop k).head? = some 43 then (b.drop k).drop 1 else b.drop k) = none)) ∨
         ∃ m n p, v = .ref p ∧ (if k = 0 then readN [48] else readN (b.take k)) = some m ∧ readN (if k = 0 then b else if (b.drop k).head? = some 43 then (b.drop k).drop 1 else b.drop k) = some n ∧ G p = some (.tup [.int m, .int n])), ?_, ?_⟩
      · refine ⟨_, rfl, x, 1, rfl, rfl, _, rfl, ?_⟩
        rcases hk with ⟨x1, rfl⟩ | ⟨k1, rfl⟩
        · rw [decide_eq_true x1]
          refine iteT ⟨_, rfl, small1000 (show 1 ≤ 1000 by decide), fun t nt => ?_⟩
          have s1 := same_new (o := .tup [.str (Str.ofString "0"), .str (mkS b)]) nt
          refine ⟨t, Str.ofString "0", mkS b, rfl, SqT.of upd_same, by decide +kernel, by rw [mkS_len]; omega, fun H' e hn => ⟨s1.trans e, _, rfl, .inl ⟨rfl, ?_⟩⟩, fun m n p H' hm hn e hp => ⟨s1.trans e, _, rfl, .inr ⟨m, n, p, rfl, ?_, ?_, hp⟩⟩⟩
          · rw [zero_S] at hn
            exact hn
          · rw [zero_S] at hm
            exact hm
          · exact hn
        · have k0 : k ≠ 0 := by omega
          rw [decide_eq_false (show ¬ ((k : Int) < 1) by omega)]
          refine iteF ⟨_, rfl, _, rfl, _, rfl, mkS b, rfl, hb, _, rfl, _, rfl, _, rfl, mkS b, rfl, hb, ⟨_, rfl⟩, _, _, rfl, rfl, ?_, ?_⟩
          · rw [cut_back, mkS_len, List.length_drop, sz_eq]
            omega
          rw [cut_front, cut_back, plus_S, prefix_is]
          refine ⟨small1000 (show 1 ≤ 1000 by decide), fun t nt => ?_⟩
          have s1 := same_new (o := .tup [.str (mkS (b.take k)), .str (mkS (if (b.drop k).head? = some 43 then (b.drop k).drop 1 else b.drop k))]) nt
          rw [if_neg k0, if_neg k0]
          have ld : (if (b.drop k).head? = some 43 then (b.drop k).drop 1 else b.drop k).length ≤ 6000 := by
            split
            · rw [List.length_drop, List.length_drop]
              omega
            · rw [List.length_drop]
              omega
          refine ⟨t, mkS (b.take k), mkS _, rfl, SqT.of upd_same, by rw [mkS_len, List.length_take]; omega, by rw [mkS_len]; exact ld, fun H' e hn => ⟨s1.trans e, _, rfl, .inl ⟨rfl, hn⟩⟩, fun m n p H' hm hn e hp => ⟨s1.trans e, _, rfl, .inr ⟨m, n, p, rfl, hm, hn, hp⟩⟩⟩
      · rintro σ G ⟨sG, v, rfl, ⟨rfl, no⟩ | ⟨m, n, p, rfl, hm, hn, hp⟩⟩
        · refine ⟨_, rfl, rfl, _, rfl, iteF (q1 _ sG ?_)⟩
          rcases no with z | z
          · rw [z]
          · rw [z]
            split <;> first | rfl | (rename_i h; cases h)
        · rw [hm, hn] at q1 q2
          dsimp only at q1 q2
          have bm : m.natAbs < 10 ^ 64 := by
            by_cases k0 : k = 0
            · rw [if_pos k0, zr] at hm
              cases hm
              decide
            · rw [if_neg k0] at hm
              have := (readN_text hm).2
              omega
          have bn : n.natAbs < 10 ^ 64 := by
            have := (readN_text hn).2
            omega
          refine ⟨_, rfl, rfl, _, rfl, iteT ⟨_, rfl, p, m, n, rfl, SqT.of hp, bm, bn, fun H2 e2 => ⟨_, rfl, rfl, _, rfl, ?_⟩⟩⟩
          rw [dS]
          by_cases e : pairT m n = mkS (b ++ [114])
          · rw [decide_eq_true e]
            exact iteT ⟨_, rfl, q2 m n p _ (by rw [if_pos e]) (sG.trans e2) (e2 _ _ hp)⟩
          · rw [decide_eq_false e]
            exact iteF (q1 _ (sG.trans e2) (by rw [if_neg e]))
end
/-! ### pairs as the law reads them -/
def sgTo (b : List Nat) : Nat → List Int
  | 0 => []
  | n + 1 => if signB (b.getD (1 + n) 0) = true then sgTo b n ++ [1 + (n : Int)] else sgTo b n
theorem sgTo_len (b : List Nat) : ∀ n, (sgTo b n).length ≤ n
  | 0 => Nat.le_refl _
  | n + 1 => by
    have := sgTo_len b n
    unfold sgTo
    split
    · rw [List.length_append, List.length_singleton]
      omega
    · omega
theorem sgTo_is (b : List Nat) : ∀ n, sgTo b n = ((List.range' 1 n).filter fun k => signB (b.getD k 0)).map fun k : Nat => (k : Int)
  | 0 => rfl
  | n + 1 => by
    unfold sgTo
    rw [sgTo_is b n, List.range'_concat, List.filter_append, Nat.one_mul]
    cases h : signB (b.getD (1 + n) 0) with
    | true =>
      rw [if_pos rfl, List.map_append, List.filter_cons, if_pos h]
      simp
    | false =>
      rw [if_neg (by decide), List.filter_cons, if_neg (by rw [h]; decide)]
      simp
theorem sign_in (c : Nat) : inV (.str ⟨#[c]⟩) [.str "+", .str "-"] = signB c := by
  have e : ∀ d : Nat, eqV (.str (mkS [d])) (.str ⟨#[c]⟩) = (d == c) := by
    intro d
    show decide (mkS [d] = mkS [c]) = _
    by_cases h : d = c
    · rw [h, decide_eq_true rfl, beq_self_eq_true]
    · rw [decide_eq_false (fun z => h (by have := mk_inj.mp z; simpa using this)), beq_eq_false_iff_ne.mpr h]
  unfold inV signB
  have ep : (("+" : Str)) = mkS [43] := plus_S
  have em : (("-" : Str)) = mkS [45] := minus_S
  rw [ep, em]
  simp only [List.any_cons, List.any_nil, e, Bool.or_false]
  rw [Bool.eq_iff_iff]
  simp only [Bool.or_eq_true, beq_iff_eq]
  constructor <;> rintro (h | h) <;> omega
theorem dints {K : PySem.W.Frag} {H : Hp} {l : Addr} {ns : List Int} (h : H l = some (.lst (ns.map V.int))) : Dp K H (.ref l) (.list (ns.map .int)) := by
  refine .lst (SqL.of h) ?_
  clear h
  induction ns with
  | nil => exact .nil
  | cons n ns ih => exact .cons (.int _) ih
theorem ints_shaped (ns : List Int) : SeqAt.shaped (.list (ns.map .int)) = true := by
  have h : ∀ ns : List Int, PyData.canLayAll0 (ns.map .int) = true ∧ PyData.depthAll (ns.map .int) ≤ 3 := by
    intro ns
    induction ns with
    | nil => exact ⟨by simp [PyData.canLayAll0], by simp [PyData.depthAll]⟩
    | cons e es ih => exact ⟨by simp [PyData.canLayAll0, PyData.canLay0, ih.1], by simp [PyData.depthAll, PyData.depth, ih.2]⟩
  obtain ⟨h1, h2⟩ := h ns
  unfold SeqAt.shaped
  rw [Bool.and_eq_true]
  refine ⟨by simp [PyData.canLay0, h1], decide_eq_true ?_⟩
  simp only [PyData.depth]
  omega
theorem ints_nil (ns : List Int) : PyData.eqv (.list (ns.map .int)) (.list (([] : List Int).map .int)) = ns.isEmpty := by
  cases ns with
  | nil => simp [PyData.eqv, PyData.eqvAll]
  | cons e es => simp [PyData.eqv, PyData.eqvAll]
section
variable {base : Heap} {K : PySem.W.Frag} {mg : Str → Option Value} {P : Program} {w : World}
theorem ok_pair_read (T : Txt K mg) : FnOk P w K mg base CX0 2 T.f_pair_read T.d_pair_read ["_law_text_z"] spReadP := by
  refine T.F_pair_read.ok sc_pair_read (fun vs H Q E h => ?_) (fun cdv A outer s H vs Q E hr h => ?_)
  · obtain ⟨l, rfl, _⟩ := h
    rfl
  · obtain ⟨l, rfl, hl, q1, q2⟩ := h
    refine ⟨_, (pss_cons (ps_if (pt_cmpR op_ne (pe_slice sl_str (pv 0) (po_some (pe_un un_neg pe_int)) po_none) pe_str (nomark _)) (pss_cons (ps_set (i := 5) sc_pair_read.nd rfl (Or.inl rfl) (pe_call (ok_number_read T) (hr.mono (by decide)) (by rfl) T.g_number_read T.F_number_read.kp T.b_number_read .nil pass0 (pa_cons (pv 0) pa_nil)))
      (pss_one (ps_ret (pe_ifExp (pt_cmpR op_isN (pv 5) pe_non (nomark _)) pe_non (pe_tup (pa_cons (pv 5) (pa_cons pe_int pa_nil))))))) pss_nil)
      (pss_cons (ps_setLc (i := 1) (own := [("_law_k", 8)]) (g := (gName 8)) (tt := tTest (tOp (rIn K false) (tOp rIxS (tVar 0) (tVar 8)) (tTup (tCons (tC (.str "+")) (tCons (tC (.str "-")) tNil))))) (by rfl) sc_pair_read.nd rfl rfl (sw_true rfl rfl rfl (by decide +kernel)) (pi_range2 (by rfl) T.n_range (pa_cons pe_int (pa_cons (pe_op op_sub (pe_callB call_len_str (by rfl) T.n_len (by decide +kernel) (pa_cons (pv 0) pa_nil)) pe_int) pa_nil))) (blkOk_by (own := [("_law_k", 8)]) (N := ["_law_text_z", "_law_signs", "_law_at", "_law_first", "_law_second", "_law_number", "_law_one", "_law_other", "_law_k"]) (sc := defScope s_pair_read) (by decide +kernel)) (fun _ _ _ _ _ => (pg_name (i := 8) sc_pair_read.nd rfl (Or.inl rfl))) (fun _ _ _ _ _ => (pts_one (pt_cmpR op_in_seq (pe_ix ix_str (pv 0) (pv 8) (fun _ _ => rfl)) (pe_tup (pa_cons pe_str (pa_cons pe_str pa_nil))) (by rfl)))) (fun _ _ _ _ _ => (pv 8)))
      (Evl.pss_cut (ps_set (i := 2) sc_pair_read.nd rfl (Or.inl rfl) (pe_ifExp (pt_cmpR (op_neD hr.units) (pv 1) (pe_lst pa_nil) (nomark _)) (pe_ix ix_list (pv 1) (pe_un un_neg pe_int) (fun _ _ => rfl)) pe_int))
      (pss_cons (ps_par (i := 6) (j := 7) (by rfl) sc_pair_read.nd rfl rfl (by decide) rfl rfl (pa_cons (pe_slice sl_str (pv 0) po_none (po_some (pv 2))) (pa_cons (pe_slice sl_str (pv 0) (po_some (pv 2)) (po_some (pe_un un_neg pe_int))) pa_nil)) (by rfl))
      (Evl.pss_cut (ps_set (i := 3) sc_pair_read.nd rfl (Or.inl rfl) (pe_ifExp (pt_cmpR op_eq (pv 2) pe_int (nomark _)) pe_int (pe_call (ok_number_read T) (hr.mono (by decide)) (by rfl) T.g_number_read T.F_number_read.kp T.b_number_read .nil pass0 (pa_cons (pv 6) pa_nil))))
      (Evl.pss_cut (ps_set (i := 4) sc_pair_read.nd rfl (Or.inl rfl) (pe_call (ok_number_read T) (hr.mono (by decide)) (by rfl) T.g_number_read T.F_number_read.kp T.b_number_read .nil pass0 (pa_cons (pe_ifExp (PW.pt (pw_and (pt_cmpR op_eq (pe_slice sl_str (pv 7) po_none (po_some pe_int)) pe_str (nomark _)) (pw_and1 (pt_cmpR op_gt (pv 2) pe_int (nomark _))))) (pe_slice sl_str (pv 7) (po_some pe_int) po_none) (pv 7)) pa_nil)))
      (pss_cons (ps_if (PW.pt (pw_or (pt_cmpR op_isN (pv 3) pe_non (nomark _)) (pw_or (pt_cmpR op_isN (pv 4) pe_non (nomark _)) (pw_or (pt_cmpR op_eq (pv 4) pe_int (nomark _)) (pw_or1 (PW.pt (pw_and (pt_cmpR op_gt (pv 2) pe_int (nomark _)) (pw_and1 (pt_cmpR op_eq (pv 3) pe_int (nomark _)))))))))) (pss_one (ps_ret pe_non)) pss_nil)
      (pss_one (ps_ret (pe_ifExp (PW.pt (pw_and (pt_cmpR op_gt (pv 2) pe_int (nomark _)) (pw_and (pt_cmpR op_eq (pe_slice sl_str (pv 7) po_none (po_some pe_int)) pe_str (nomark _)) (pw_and1 (pt_cmpR op_lt (pv 4) pe_int (nomark _)))))) pe_non (pe_tup (pa_cons (pv 3) (pa_cons (pv 4) pa_nil))))))))))))), ?_⟩
    have hs : (mkS l).length ≤ sizeLine := by rw [mkS_len, sz_eq]; omega
    refine ⟨_, rfl, 1, rfl, -1, rfl, _, rfl, hs, rfl, _, rfl, ?_⟩
    have li := last_is l 114
    rw [dS, r_S, li]
    unfold readP at q1 q2
    cases hr' : (l.getLast? == some 114) with
    | false =>
      have ne : ¬ l.getLast? = some 114 := by simpa using hr'
      rw [if_neg ne] at q1 q2
      refine iteT ⟨_, rfl, mkS l, rfl, by rw [mkS_len]; omega, fun H1 s1 => ⟨_, rfl, rfl, _, rfl, ?_⟩⟩
      rw [mk_letters]
      cases hn : readN l with
      | none =>
        rw [hn] at q1
        exact iteT (q1 _ s1 rfl)
      | some n =>
        rw [hn] at q2
        exact iteF ⟨_, rfl, small1000 (show 1 ≤ 1000 by decide), fun t nt => q2 n 0 t _ rfl (s1.trans (same_new nt)) upd_same⟩
    | true =>
      have ye : l.getLast? = some 114 := by simpa using hr'
      rw [if_pos ye] at q1 q2
      obtain ⟨b, rfl⟩ := List.getLast?_eq_some_iff.mp ye
      rw [List.dropLast_concat] at q1 q2
      rw [List.length_append] at hl
      have el : (mkS (b ++ [114])).length = b.length + 1 := by rw [mkS_len, List.length_append]; rfl
      have hl' : b.length ≤ 5899 := by
        have : [114].length = 1 := rfl
        omega
      refine iteF ⟨_, rfl, mkS _, rfl, hs, _, 1, rfl, rfl, 1, ((mkS (b ++ [114])).length : Int) - 1, rfl, ⟨by decide, by decide, by rw [el]; omega, by rw [el]; omega⟩, fun L nL => ?_⟩
      have en : (((mkS (b ++ [114])).length : Int) - 1 - 1).toNat = b.length - 1 := by rw [el]; omega
      rw [en]
      refine lc_range (lo := 1) (n := b.length - 1) (fun i G => Same H G ∧ G L = some (.lst ((sgTo b i).map V.int))) ⟨same_new nL, upd_same⟩ ?_ ?_
      · rintro i G hi ⟨sG, hG⟩
        have hb : i + 1 < b.length := by omega
        have hc : (b ++ [114])[i + 1]? = some b[i + 1] := by rw [List.getElem?_append_left hb, List.getElem?_eq_getElem hb]
        have gd : b.getD (1 + i) 0 = b[i + 1] := by rw [List.getD_eq_getElem?_getD, Nat.add_comm 1 i, List.getElem?_eq_getElem hb]; rfl
        refine ⟨rfl, _, rfl, _, rfl, mkS (b ++ [114]), ((i + 1 : Nat) : Int), b[i + 1], rfl, ?_, hs, atI_nat (j := i + 1) hc, small1000 (show 1 ≤ 1000 by decide), fun t nt => ⟨t, _, rfl, .inr (SqT.of upd_same), rfl, rfl, _, rfl, ?_⟩⟩
        · congr 1
          omega
        have hG2 := (same_new (o := .tup [.str "+", .str "-"]) nt) _ _ hG
        have st : sgTo b (i + 1) = if signB (b.getD (1 + i) 0) = true then sgTo b i ++ [1 + (i : Int)] else sgTo b i := rfl
        rw [gd] at st
        rw [sign_in]
        have ln := sgTo_len b i
        cases z : signB b[i + 1] with
        | true =>
          rw [z, if_pos rfl] at st
          refine iteT ⟨_, rfl, _, hG2, ?_, fun a o zz => (upd_ne (ne_of_none zz nL)).trans ((same_new nt) _ _ (sG _ _ zz)), ?_⟩
          · rw [List.length_map, sz_eq]
            omega
          · rw [upd_same, st, List.map_append]
            rfl
        | false =>
          rw [z, if_neg (by decide)] at st
          exact iteF ⟨sG.trans (same_new nt), by rw [st]; exact hG2⟩
      rintro G ⟨sG, hG⟩
      have hk : IsAt b (sgAt b) := sgAt_is b
      have kb : sgAt b ≤ b.length := by
        rcases hk with ⟨z, _⟩ | ⟨_, z, _⟩ <;> omega
      rw [sgTo_is] at hG
      change G L = some (.lst (((sgs b).map fun k : Nat => (k : Int)).map V.int)) at hG
      refine ⟨fun σ G => Same H G ∧ σ = [some (.str (mkS (b ++ [114]))), some (.ref L), some (.int (sgAt b : Nat)), none, none, none, none, none, none], ?_, ?_⟩
      · refine ⟨_, rfl, Nat.zero_le _, fun p np => ⟨_, _, (dints (ns := (sgs b).map fun k : Nat => (k : Int)) ((same_new (o := .lst []) np) _ _ hG)), dints (ns := []) upd_same, ints_shaped _, ints_shaped [], _, rfl, ?_⟩⟩
        have s1 := sG.trans (same_new (o := .lst []) np)
        rw [ints_nil]
        unfold sgAt
        cases hz : (sgs b).getLast? with
        | none =>
          rw [List.getLast?_eq_none_iff.mp hz]
          exact iteF ⟨s1, rfl⟩
        | some k =>
          obtain ⟨ys, e⟩ := List.getLast?_eq_some_iff.mp hz
          rw [e] at hG ⊢
          have ne : (!((ys ++ [k]).map fun k : Nat => (k : Int)).isEmpty) = true := by simp
          rw [ne]
          refine iteT ⟨_, rfl, 1, rfl, L, _, -1, .int (k : Nat), rfl, rfl, SqL.of ((same_new (o := .lst []) np) _ _ hG), ?_, s1, rfl⟩
          rw [List.map_append, List.map_append]
          exact atI_last _ _
      rintro σ G2 ⟨s2, rfl⟩
      generalize sgAt b = k at *
      have hs7 : cutS (mkS (b ++ [114])) (some (k : Int)) (some (-1)) = mkS (b.drop k) := by rw [cut_mid _ (by rw [List.length_append]; omega), List.dropLast_concat]
      have hs6 : cutS (mkS (b ++ [114])) none (some (k : Int)) = mkS (b.take k) := by rw [cut_front, List.take_append_of_le_length kb]
      refine ⟨_, rfl, _, rfl, (k : Int), rfl, _, rfl, hs, _, rfl, _, rfl, (k : Int), rfl, 1, rfl, -1, rfl, _, rfl, hs, _, _, rfl, ?_⟩
      rw [hs6, hs7]
      have hd : (mkS (b.drop k)).length ≤ sizeLine := by rw [mkS_len, List.length_drop, sz_eq]; omega
      have kz : decide (V.int (k : Int) = V.int 0) = decide (k = 0) := by
        by_cases h : k = 0
        · rw [decide_eq_true h, decide_eq_true (by rw [h]; rfl)]
        · rw [decide_eq_false h, decide_eq_false fun z => h (by have := V.int.inj z; omega)]
      have kp : decide ((0 : Int) < (k : Int)) = !decide (k = 0) := by
        by_cases h : k = 0
        · rw [h, decide_eq_true rfl]
          rfl
        · rw [decide_eq_false h, decide_eq_true (by omega)]
          rfl
      have hp : ∀ {x3 x4 : Option V} {X : Hp} {M : Bool → Hp → Prop}, M ((b.drop k).head? == some 43) X → tTest (tOp rEq (tSl rSlS (tVar 7) tNoPart (tPart (tC (V.int 1)))) (tC (V.str (Str.ofString "+")))) [some (.str (mkS (b ++ [114]))), some (.ref L), some (.int (k : Int)), x3, x4, none, some (.str (mkS (b.take k))), some (.str (mkS (b.drop k))), none] X M := by
        intro x3 x4 X M m
        refine ⟨_, rfl, 1, rfl, _, rfl, hd, rfl, _, rfl, ?_⟩
        have fi : decide (cutS (mkS (b.drop k)) none (some 1) = mkS [43]) = ((mkS (b.drop k)).cps.toList.head? == some 43) := first_is (mkS (b.drop k)) 43
        rw [dS, plus_S, fi, mk_letters]
        exact m
      -- the first number
      refine ⟨fun σ X => Same H X ∧ σ = [some (.str (mkS (b ++ [114]))), some (.ref L), some (.int (k : Int)), some (optV (if k = 0 then some 0 else readN (b.take k))), none, none, some (.str (mkS (b.take k))), some (.str (mkS (b.drop k))), none], ?_, ?_⟩
      · refine ⟨_, rfl, rfl, _, rfl, ?_⟩
        rw [kz]
        by_cases k0 : k = 0
        · rw [decide_eq_true k0, if_pos k0]
          exact iteT ⟨s2, rfl⟩
        · rw [decide_eq_false k0, if_neg k0]
          exact iteF ⟨_, rfl, _, rfl, by rw [mkS_len, List.length_take]; omega, fun X e => ⟨s2.trans e, rfl⟩⟩
      rintro σ X1 ⟨s3, rfl⟩
      -- the second
      refine ⟨fun σ X => Same H X ∧ σ = [some (.str (mkS (b ++ [114]))), some (.ref L), some (.int (k : Int)), some (optV (if k = 0 then some 0 else readN (b.take k))), some (optV (readN (if k = 0 then b else if (b.drop k).head? = some 43 then (b.drop k).drop 1 else b.drop k))), none, some (.str (mkS (b.take k))), some (.str (mkS (b.drop k))), none], ?_, ?_⟩
      · have ld : ∀ y : List Nat, y.length ≤ b.length → (mkS y).length ≤ 6000 := fun y hy => by rw [mkS_len]; omega
        have l1 : (b.drop k).length ≤ b.length := by rw [List.length_drop]; omega
        refine hp ?_
        by_cases k0 : k = 0
        · rw [if_pos k0, if_pos k0]
          have e : b.drop k = b := by rw [k0, List.drop_zero]
          rw [e]
          cases (b.head? == some 43) with
          | true =>
            refine iteT ⟨_, rfl, _, _, rfl, rfl, _, rfl, ?_⟩
            rw [kp, decide_eq_true k0]
            exact iteF ⟨_, rfl, mkS b, rfl, ld b (Nat.le_refl _), fun X3 e3 => ⟨s3.trans e3, rfl⟩⟩
          | false => exact iteF (iteF ⟨_, rfl, mkS b, rfl, ld b (Nat.le_refl _), fun X3 e3 => ⟨s3.trans e3, rfl⟩⟩)
        · rw [if_neg k0, if_neg k0]
          cases z : ((b.drop k).head? == some 43) with
          | true =>
            rw [if_pos (show (b.drop k).head? = some 43 by simpa using z)]
            refine iteT ⟨_, rfl, _, _, rfl, rfl, _, rfl, ?_⟩
            rw [kp, decide_eq_false k0]
            refine iteT ⟨_, rfl, 1, rfl, _, rfl, hd, ?_⟩
            have e1 : cutS (mkS (b.drop k)) (some 1) none = mkS ((b.drop k).drop 1) := cut_back (b.drop k) 1
            rw [e1]
            exact ⟨_, rfl, ld _ (by rw [List.length_drop]; omega), fun X3 e3 => ⟨s3.trans e3, rfl⟩⟩
          | false =>
            rw [if_neg (show ¬ (b.drop k).head? = some 43 by simpa using z)]
            exact iteF (iteF ⟨_, rfl, _, rfl, ld _ l1, fun X3 e3 => ⟨s3.trans e3, rfl⟩⟩)
      rintro σ X2 ⟨s4, rfl⟩
      unfold resP at q1 q2
      have two : ∀ {m n : Int}, V.int m = V.int n → m = n := fun h => V.int.inj h
      by_cases k0 : k = 0
      · rw [if_pos k0] at q1 q2
        rw [if_pos k0, if_pos k0]
        refine ⟨_, rfl, rfl, false, rfl, iteF ?_⟩
        refine ⟨_, rfl, rfl, _, rfl, ?_⟩
        cases hn : readN b with
        | none =>
          rw [hn] at q1
          exact iteT (iteT (q1 _ s4 rfl))
        | some n =>
          rw [hn] at q1 q2
          dsimp only at q1 q2
          refine iteF ⟨_, rfl, rfl, _, rfl, ?_⟩
          by_cases n0 : n = 0
          · rw [if_pos n0] at q1
            rw [show decide (optV (some n) = V.int 0) = true from decide_eq_true (by rw [n0]; rfl)]
            exact iteT (iteT (q1 _ s4 rfl))
          · rw [if_neg n0] at q2
            rw [show decide (optV (some n) = V.int 0) = false from decide_eq_false fun z => n0 (two z)]
            refine iteF ⟨_, rfl, _, _, rfl, rfl, _, rfl, ?_⟩
            rw [kp, decide_eq_true k0]
            refine iteF (iteF ⟨_, rfl, _, _, rfl, rfl, _, rfl, ?_⟩)
            rw [kp, decide_eq_true k0]
            exact iteF (iteF ⟨_, rfl, _, rfl, small1000 (show 1 ≤ 1000 by decide), fun t nt => q2 0 n t _ rfl (s4.trans (same_new nt)) upd_same⟩)
      · rw [if_neg k0] at q1 q2
        rw [if_neg k0, if_neg k0]
        cases hm : readN (b.take k) with
        | none =>
          rw [hm] at q1
          exact ⟨_, rfl, rfl, true, rfl, iteT (iteT (q1 _ s4 rfl))⟩
        | some m =>
          refine ⟨_, rfl, rfl, false, rfl, iteF ?_⟩
          cases hn : readN (if (b.drop k).head? = some 43 then (b.drop k).drop 1 else b.drop k) with
          | none =>
            rw [hm, hn] at q1
            exact ⟨_, rfl, rfl, true, rfl, iteT (iteT (q1 _ s4 rfl))⟩
          | some n =>
            rw [hm, hn] at q1 q2
            dsimp only at q1 q2
            refine ⟨_, rfl, rfl, false, rfl, iteF ⟨_, rfl, rfl, _, rfl, ?_⟩⟩
            by_cases n0 : n = 0
            · rw [if_pos (.inl n0)] at q1
              rw [show decide (optV (some n) = V.int 0) = true from decide_eq_true (by rw [n0]; rfl)]
              exact iteT (iteT (q1 _ s4 rfl))
            rw [show decide (optV (some n) = V.int 0) = false from decide_eq_false fun z => n0 (two z)]
            refine iteF ⟨_, rfl, _, _, rfl, rfl, _, rfl, ?_⟩
            rw [kp, decide_eq_false k0]
            refine iteT ⟨_, rfl, rfl, _, rfl, ?_⟩
            by_cases m0 : m = 0
            · rw [if_pos (.inr (.inl m0))] at q1
              rw [show decide (optV (some m) = V.int 0) = true from decide_eq_true (by rw [m0]; rfl)]
              exact iteT (q1 _ s4 rfl)
            rw [show decide (optV (some m) = V.int 0) = false from decide_eq_false fun z => m0 (two z)]
            refine iteF ⟨_, rfl, _, _, rfl, rfl, _, rfl, ?_⟩
            rw [kp, decide_eq_false k0]
            refine iteT (hp ?_)
            have last : ∀ (c : Prop) [Decidable c], c = (n = 0 ∨ m = 0 ∨ ((b.drop k).head? = some 43 ∧ n < 0)) → ¬ c → tTup (tCons (tVar 3) (tCons (tVar 4) tNil)) [some (.str (mkS (b ++ [114]))), some (.ref L), some (.int (k : Int)), some (optV (some m)), some (optV (some n)), none, some (.str (mkS (b.take k))), some (.str (mkS (b.drop k))), none] X2 Q := by
              intro c _ ec nc
              rw [if_neg (by rw [← ec]; exact nc)] at q2
              exact ⟨_, rfl, _, rfl, small1000 (show 1 ≤ 1000 by decide), fun t nt => q2 m n t _ rfl (s4.trans (same_new nt)) upd_same⟩
            cases z : ((b.drop k).head? == some 43) with
            | true =>
              have zz : (b.drop k).head? = some 43 := by simpa using z
              refine iteT ⟨_, rfl, _, _, rfl, rfl, _, rfl, ?_⟩
              by_cases neg : n < 0
              · rw [if_pos (.inr (.inr ⟨zz, neg⟩))] at q1
                rw [show decide (n < 0) = true from decide_eq_true neg]
                exact iteT (q1 _ s4 rfl)
              · rw [show decide (n < 0) = false from decide_eq_false neg]
                refine iteF (last _ rfl ?_)
                rintro (h | h | h)
                · exact n0 h
                · exact m0 h
                · exact neg h.2
            | false =>
              refine iteF (iteF (last _ rfl ?_))
              have zz : ¬ (b.drop k).head? = some 43 := by simpa using z
              rintro (h | h | h)
              · exact n0 h
              · exact m0 h
              · exact zz h.1
end
theorem dpair {K : PySem.W.Frag} {H : Hp} {p : Addr} {x y : Int} (h : H p = some (.tup [.int x, .int y])) : Dp K H (.ref p) (.tuple [.int x, .int y]) := .tup (SqT.of h) (.cons (.int x) (.cons (.int y) .nil))
/-! ### lengths and sheets that are drawn -/
theorem isRB_of {d : Int} (h : IsRoot d) : isRB d = true := by
  obtain ⟨h1, h2, k, k0, k1, k2⟩ := h
  rw [← isR_of h1 h2 k0 (Int.le_of_lt k1) k2, decide_eq_false fun z => by have := V.int.inj z; omega]
  rfl
theorem IsRoot.small {d : Int} (h : IsRoot d) : d.natAbs < 2 ^ 64 := isRB_small (isRB_of h)
def LenB (d a b : Int) : Prop := 0 < vl a b d ∧ a.natAbs ≤ 10 ^ 6 ∧ b.natAbs ≤ 10 ^ 6
def ShB (d : Int) (x : Sh) : Prop := LenB d x.1 x.2.1 ∧ LenB d x.2.2.1 x.2.2.2
theorem m6 {x : Int} (h : x.natAbs ≤ 10 ^ 6) : x.natAbs < 2 ^ 200 := Nat.lt_of_le_of_lt h (by decide)
theorem m6w {x : Int} (h : x.natAbs ≤ 10 ^ 6) : x.natAbs < 2 ^ 9000 := w100 (m6 h)
theorem LenB.ok {d a b : Int} (h : LenB d a b) : LenOk d a b := ⟨h.1, m6 h.2.1, m6 h.2.2⟩
theorem ShB.ok {d : Int} {x : Sh} (h : ShB d x) : ShOk d x := ⟨h.1.ok, h.2.ok⟩
theorem ab_opp (a : Int) : ab (-a) = ab a := by
  unfold ab
  split <;> split <;> omega
theorem vl_opp (a b d : Int) : vl (-a) (-b) d = -vl a b d := by
  unfold vl
  rw [ab_opp, ab_opp]
  grind
theorem vl_one (n d : Int) (h : 0 < n) : 0 < vl n 0 d := by
  unfold vl
  rw [ab_nn (Int.le_of_lt h)]
  have := Int.mul_pos h h
  grind
theorem keep_free {b p : Addr} {H H' : Hp} (k : Keep b H H') (n : p ≠ b) (h : H' p = none) : H p = none := by
  cases e : H p with
  | none => rfl
  | some o => exact absurd (k p o n e) (by rw [h]; simp)
section
variable {base : Heap} {K : PySem.W.Frag} {mg : Str → Option Value} {P : Program} {w : World}
/-- a length, drawn -/
def GotLen (b sb : Addr) (d : Int) (H : Hp) (Q : VK) : Prop := ∀ x y p H', LenB d x y → p ≠ b → H' p = some (.tup [.int x, .int y]) → Bag H' b sb → Keep b H H' → Q (.ref p) H'
def spALen : Sp := fun vs H Q _ => ∃ (b sb : Addr) (d : Int), vs = [.ref b, .int d] ∧ Bag H b sb ∧ IsRoot d ∧ GotLen b sb d H Q
/-- the rest of a draw of a length, when the pair stands: the pair, its opposite, or a whole number -/
theorem sgn_cases (a b d : Int) : (sgnI (vl a b d) = 0 ∧ vl a b d = 0) ∨ (sgnI (vl a b d) = 1 ∧ 0 < vl a b d) ∨ (sgnI (vl a b d) = -1 ∧ 0 < vl (-a) (-b) d) := by
  rcases Int.lt_trichotomy (vl a b d) 0 with h | h | h
  · exact .inr (.inr ⟨sgnI_neg h, by rw [vl_opp]; omega⟩)
  · exact .inl ⟨by rw [h]; rfl, h⟩
  · exact .inr (.inl ⟨sgnI_pos h, h⟩)
theorem ok_a_length (T : Txt K mg) : FnOk P w K mg base CX0 4 T.f_a_length T.d_a_length ["_law_bag", "_law_root"] spALen := by
  refine T.F_a_length.ok sc_a_length (fun vs H Q E h => ?_) (fun cdv A outer s H vs Q E hr h => ?_)
  · obtain ⟨b, sb, d, rfl, _⟩ := h
    rfl
  · obtain ⟨b, sb, d, rfl, B, hd, q⟩ := h
    refine ⟨_, (pss_cons (ps_set (i := 2) sc_a_length.nd rfl (Or.inl rfl) (pe_call (ok_any_pair T) (hr.mono (by decide)) (by rfl) T.g_any_pair T.F_any_pair.kp T.b_any_pair .nil pass0 (pa_cons (pv 0) pa_nil)))
      (pss_cons (ps_if (pt_cmpR op_eq (pe_call (ok_lsign T) (hr.mono (by decide)) (by rfl) T.g_lsign T.F_lsign.kp T.b_lsign .nil pass0 (pa_cons (pv 2) (pa_cons (pv 1) pa_nil))) pe_int (nomark _)) (pss_one (ps_ret (pe_tup (pa_cons (pe_op op_add pe_int (pe_call (ok_pull T) (hr.mono (by decide)) (by rfl) T.g_pull T.F_pull.kp T.b_pull .nil pass0 (pa_cons (pv 0) (pa_cons pe_int pa_nil)))) (pa_cons pe_int pa_nil))))) pss_nil)
      (pss_one (ps_ret (pe_ifExp (pt_cmpR op_gt (pe_call (ok_lsign T) (hr.mono (by decide)) (by rfl) T.g_lsign T.F_lsign.kp T.b_lsign .nil pass0 (pa_cons (pv 2) (pa_cons (pv 1) pa_nil))) pe_int (nomark _)) (pv 2) (pe_tup (pa_cons (pe_op op_sub pe_int (pe_ix ix_tup (pv 2) pe_int (fun _ _ => rfl))) (pa_cons (pe_op op_sub pe_int (pe_ix ix_tup (pv 2) pe_int (fun _ _ => rfl))) pa_nil)))))))), ?_⟩
    refine ⟨.ref b, rfl, b, sb, rfl, B, fun x y p H1 a1 a2 a3 a4 n1 h1 B1 k1 => ?_⟩
    have bx : x.natAbs ≤ 10 ^ 6 := by omega
    have bY : y.natAbs ≤ 10 ^ 6 := by omega
    have np := B.ne n1
    refine ⟨.ref p, rfl, .int d, rfl, p, d, x, y, rfl, SqT.of h1, hd.small, m6w bx, m6w bY, ?_⟩
    rcases sgn_cases x y d with ⟨e, z⟩ | ⟨e, z⟩ | ⟨e, z⟩ <;> rw [e]
    · refine ⟨rfl, true, rfl, iteT ⟨.ref b, rfl, b, sb, 9, rfl, B1, by decide, by decide, fun n H2 z0 z1 B2 k2 => ⟨1, n, rfl, rfl, by show 2 ≤ sizeLine; decide, fun p2 hp2 => ?_⟩⟩⟩
      exact q _ _ p2 _ ⟨vl_one (1 + n) d (by omega), by omega, by decide⟩ (B2.ne hp2) upd_same (B2.new hp2) (k1.trans (k2.trans (keep_new hp2)))
    · refine ⟨rfl, false, rfl, iteF ⟨.ref p, rfl, .int d, rfl, p, d, x, y, rfl, SqT.of h1, hd.small, m6w bx, m6w bY, ?_⟩⟩
      rw [e]
      exact ⟨1, 0, rfl, rfl, true, rfl, iteT ⟨_, rfl, q x y p H1 ⟨z, bx, bY⟩ np h1 B1 k1⟩⟩
    · refine ⟨rfl, false, rfl, iteF ⟨.ref p, rfl, .int d, rfl, p, d, x, y, rfl, SqT.of h1, hd.small, m6w bx, m6w bY, ?_⟩⟩
      rw [e]
      refine ⟨-1, 0, rfl, rfl, false, rfl, iteF ⟨_, rfl, p, _, 0, .int x, rfl, rfl, SqT.of h1, atI_nat (j := 0) rfl, 0, x, rfl, rfl, _, rfl, p, _, 1, .int y, rfl, rfl, SqT.of h1, atI_nat (j := 1) rfl, 0, y, rfl, rfl, by show 2 ≤ sizeLine; decide, fun p2 hp2 => ?_⟩⟩
      refine q (0 - x) (0 - y) p2 _ ⟨?_, by omega, by omega⟩ (B1.ne hp2) upd_same (B1.new hp2) (k1.trans (keep_new hp2))
      rw [Int.zero_sub, Int.zero_sub]
      exact z
def GotSheet (b sb : Addr) (d : Int) (H : Hp) (Q : VK) : Prop := ∀ x p H', ShB d x → ShAt H' p x → Bag H' b sb → Keep b H H' → Q (.ref p) H'
def spASheet : Sp := fun vs H Q _ => ∃ (b sb : Addr) (d : Int), vs = [.ref b, .int d] ∧ Bag H b sb ∧ IsRoot d ∧ GotSheet b sb d H Q
theorem ok_a_sheet (T : Txt K mg) : FnOk P w K mg base CX0 5 T.f_a_sheet T.d_a_sheet ["_law_bag", "_law_root"] spASheet := by
  refine T.F_a_sheet.ok sc_a_sheet (fun vs H Q E h => ?_) (fun cdv A outer s H vs Q E hr h => ?_)
  · obtain ⟨b, sb, d, rfl, _⟩ := h
    rfl
  · obtain ⟨b, sb, d, rfl, B, hd, q⟩ := h
    refine ⟨_, (pss_cons (ps_set (i := 2) sc_a_sheet.nd rfl (Or.inl rfl) (pe_call (ok_a_length T) (hr.mono (by decide)) (by rfl) T.g_a_length T.F_a_length.kp T.b_a_length .nil pass0 (pa_cons (pv 0) (pa_cons (pv 1) pa_nil))))
      (pss_one (ps_ret (pe_tup (pa_cons (pv 2) (pa_cons (pe_call (ok_of T) (hr.mono (by decide)) (by rfl) T.g_of T.F_of.kp T.b_of .nil pass0 (pa_cons (pv 0) (pa_cons (pe_lst (pa_cons (pe_call (ok_a_length T) (hr.mono (by decide)) (by rfl) T.g_a_length T.F_a_length.kp T.b_a_length .nil pass0 (pa_cons (pv 0) (pa_cons (pv 1) pa_nil))) (pa_cons (pe_call (ok_a_length T) (hr.mono (by decide)) (by rfl) T.g_a_length T.F_a_length.kp T.b_a_length .nil pass0 (pa_cons (pv 0) (pa_cons (pv 1) pa_nil))) (pa_cons (pe_call (ok_a_length T) (hr.mono (by decide)) (by rfl) T.g_a_length T.F_a_length.kp T.b_a_length .nil pass0 (pa_cons (pv 0) (pa_cons (pv 1) pa_nil))) (pa_cons (pv 2) pa_nil))))) pa_nil))) pa_nil)))))), ?_⟩
    refine ⟨.ref b, rfl, .int d, rfl, b, sb, d, rfl, B, hd, fun x y p H1 l1 n1 h1 B1 k1 => ?_⟩
    refine ⟨.ref p, rfl, .ref b, rfl, .ref b, rfl, .int d, rfl, b, sb, d, rfl, B1, hd, fun x2 y2 p2 H2 l2 n2 h2 B2 k2 => ?_⟩
    refine ⟨.ref b, rfl, .int d, rfl, b, sb, d, rfl, B2, hd, fun x3 y3 p3 H3 l3 n3 h3 B3 k3 => ?_⟩
    refine ⟨.ref b, rfl, .int d, rfl, b, sb, d, rfl, B3, hd, fun x4 y4 p4 H4 l4 n4 h4 B4 k4 => ?_⟩
    refine ⟨.ref p, rfl, by show 4 ≤ sizeLine; decide, fun l hl => ?_⟩
    refine ⟨b, sb, l, _, rfl, B4.new hl, upd_same, B4.ne hl, by simp, by simp, fun i v H5 hv B5 k5 => ⟨by show 2 ≤ sizeLine; decide, fun t ht => ?_⟩⟩
    have k45 : Keep b H4 H5 := (keep_new hl).trans k5
    have kk := k1.trans (k2.trans (k3.trans (k4.trans k45)))
    have e := same_new (o := .tup [.ref p, v]) ht
    have g1 := e _ _ ((k2.trans (k3.trans (k4.trans k45))) _ _ n1 h1)
    have fin : ∀ (x' y' : Int) (p' : Addr), v = .ref p' → LenB d x' y' → H5 p' = some (.tup [.int x', .int y']) → Q (.ref t) (upd H5 t (.tup [.ref p, v])) := by
      rintro x' y' p' rfl l' h'
      exact q (x, y, x', y') t _ ⟨l1, l'⟩ ⟨p, p', upd_same, g1, e _ _ h'⟩ (B5.same e) (kk.trans (keep_of e))
    match i, hv with
    | 0, hv => cases hv; exact fin x2 y2 p2 rfl l2 ((k3.trans (k4.trans k45)) _ _ n2 h2)
    | 1, hv => cases hv; exact fin x3 y3 p3 rfl l3 ((k4.trans k45) _ _ n3 h3)
    | 2, hv => cases hv; exact fin x4 y4 p4 rfl l4 (k45 _ _ n4 h4)
    | 3, hv => cases hv; exact fin x y p rfl l1 ((k2.trans (k3.trans (k4.trans k45))) _ _ n1 h1)
    | n + 4, hv => simp at hv
def spCount : Sp := fun vs H Q _ => ∃ b sb : Addr, vs = [.ref b] ∧ Bag H b sb ∧ ∀ n H', 1 ≤ n → n ≤ 10 ^ 6 → Bag H' b sb → Keep b H H' → Q (.int n) H'
theorem ok_some_count (T : Txt K mg) : FnOk P w K mg base CX0 3 T.f_some_count T.d_some_count ["_law_bag"] spCount := by
  refine T.F_some_count.ok sc_some_count (fun vs H Q E h => ?_) (fun cdv A outer s H vs Q E hr h => ?_)
  · obtain ⟨b, sb, rfl, _⟩ := h
    rfl
  · obtain ⟨b, sb, rfl, B, q⟩ := h
    refine ⟨_, (pss_one (ps_ret (pe_call (ok_of T) (hr.mono (by decide)) (by rfl) T.g_of T.F_of.kp T.b_of .nil pass0 (pa_cons (pv 0) (pa_cons (pe_lst (pa_cons pe_int (pa_cons pe_int (pa_cons pe_int (pa_cons pe_int (pa_cons pe_int (pa_cons pe_int (pa_cons pe_int (pa_cons (pe_op op_add pe_int (pe_call (ok_pull T) (hr.mono (by decide)) (by rfl) T.g_pull T.F_pull.kp T.b_pull .nil pass0 (pa_cons (pv 0) (pa_cons (pe_op op_pow pe_int pe_int) pa_nil)))) pa_nil))))))))) pa_nil))))), ?_⟩
    refine ⟨.ref b, rfl, .ref b, rfl, 10, 6, rfl, rfl, ⟨by decide, by decide, by decide⟩, b, sb, _, rfl, B, (by decide), (by decide), fun z H1 z0 z1 B1 k1 => ⟨1, z, rfl, rfl, by show 8 ≤ sizeLine; decide, fun l hl => ?_⟩⟩
    have z2 : z < 1000000 := z1
    refine ⟨b, sb, l, _, rfl, B1.new hl, upd_same, B1.ne hl, by simp, by simp, fun i v H2 hv B2 k2 => ?_⟩
    have kk := k1.trans ((keep_new hl).trans k2)
    match i, hv with
    | 0, hv => cases hv; exact q 1 H2 (by decide) (by decide) B2 kk
    | 1, hv => cases hv; exact q 1 H2 (by decide) (by decide) B2 kk
    | 2, hv => cases hv; exact q 1 H2 (by decide) (by decide) B2 kk
    | 3, hv => cases hv; exact q 2 H2 (by decide) (by decide) B2 kk
    | 4, hv => cases hv; exact q 3 H2 (by decide) (by decide) B2 kk
    | 5, hv => cases hv; exact q 6 H2 (by decide) (by decide) B2 kk
    | 6, hv => cases hv; exact q 12 H2 (by decide) (by decide) B2 kk
    | 7, hv => cases hv; exact q (1 + z) H2 (by omega) (by omega) B2 kk
    | n + 8, hv => simp at hv
end
/-! ### rows and stocks that are drawn -/
/-- the rows es, in a list that the program has made -/
def RowsL (H : Hp) (l : Addr) (es : DEs) : Prop := ∃ as : List Addr, H l = some (.lst (as.map V.ref)) ∧ RowsAt H as es ∧ ∀ e ∈ es, ShAt H e.2.1 e.1
theorem RowsL.mono {H H' : Hp} {l : Addr} {es : DEs} (h : RowsL H l es) (kl : ∀ xs, H l = some (.lst xs) → H' l = some (.lst xs)) (k : ∀ p xs, H p = some (.tup xs) → H' p = some (.tup xs)) : RowsL H' l es := by
  obtain ⟨as, h1, h2, h3⟩ := h
  exact ⟨as, kl _ h1, h2.mono k, fun e he => (h3 e he).mono k⟩
theorem RowsL.same {H H' : Hp} {l : Addr} {es : DEs} (h : RowsL H l es) (s : Same H H') : RowsL H' l es := h.mono (fun _ z => s _ _ z) fun _ _ z => s _ _ z
theorem RowsL.keep {H H' : Hp} {l b sb : Addr} {es : DEs} (h : RowsL H l es) (B : Bag H b sb) (n : l ≠ b) (k : Keep b H H') : RowsL H' l es := h.mono (fun _ z => k _ _ n z) (tup_keep B k)
theorem RowsL.snoc {H : Hp} {l t p : Addr} {es : DEs} {x : Sh} {n : Int} (h : RowsL H l es) (ht : H t = some (.tup [.ref p, .int n])) (hp : ShAt H p x) : ∃ xs, H l = some (.lst xs) ∧ xs.length = es.length ∧ RowsL (upd H l (.lst (xs ++ [.ref t]))) l (es ++ [(x, p, n)]) := by
  obtain ⟨as, h1, h2, h3⟩ := h
  refine ⟨_, h1, by rw [List.length_map]; exact h2.len, as ++ [t], by rw [upd_same, List.map_append]; rfl, ?_, fun e he => ?_⟩
  · have r2 : RowsAt (upd H l (.lst (as.map V.ref ++ [.ref t]))) as es := h2.mono (tup_put h1)
    unfold RowsAt at r2 ⊢
    exact Paired.snoc (a := t) (b := (x, p, n)) (tup_put h1 _ _ ht) r2
  · rcases List.mem_append.mp he with he | he
    · exact (h3 e he).mono (tup_put h1)
    · rw [List.mem_singleton.mp he]
      exact hp.mono (tup_put h1)
theorem RowsL.handed {K : PySem.W.Frag} {H : Hp} {l : Addr} {es : DEs} (h : RowsL H l es) : Handed K H (.ref l) es := by
  obtain ⟨as, h1, h2, h3⟩ := h
  exact .list (SqL.of h1) h2 h3
def rowD (e : Sh × Addr × Int) : PyData := .tuple [encS e.1, .int e.2.2]
theorem sh_dp {K : PySem.W.Frag} {H : Hp} {p : Addr} {x : Sh} (h : ShAt H p x) : Dp K H (.ref p) (encS x) := by
  obtain ⟨u, v, h1, h2, h3⟩ := h
  exact .tup (SqT.of h1) (.cons (dpair h2) (.cons (dpair h3) .nil))
theorem RowsL.dp {K : PySem.W.Frag} {H : Hp} {l : Addr} {es : DEs} (h : RowsL H l es) : Dp K H (.ref l) (.list (es.map rowD)) := by
  obtain ⟨as, h1, h2, h3⟩ := h
  refine .lst (SqL.of h1) ?_
  clear h1
  revert h3
  induction h2 with
  | nil => exact fun _ => .nil
  | @cons a e as es r t ih =>
    intro h3
    exact .cons (.tup (SqT.of r) (.cons (sh_dp (h3 e List.mem_cons_self)) (.cons (.int _) .nil))) (ih fun f hf => h3 f (List.mem_cons_of_mem _ hf))
theorem rowD_can (e : Sh × Addr × Int) : (rowD e).canLay0 = true ∧ (rowD e).depth = 3 := by
  unfold rowD encS
  constructor
  · simp [PyData.canLay0, PyData.canLayAll0]
  · simp [PyData.depth, PyData.depthAll]
theorem rows_shaped (es : DEs) : SeqAt.shaped (.list (es.map rowD)) = true := by
  have h : ∀ es : DEs, PyData.canLayAll0 (es.map rowD) = true ∧ PyData.depthAll (es.map rowD) ≤ 3 := by
    intro es
    induction es with
    | nil => exact ⟨by simp [PyData.canLayAll0], by simp [PyData.depthAll]⟩
    | cons e es ih =>
      obtain ⟨r1, r2⟩ := rowD_can e
      constructor
      · simp [PyData.canLayAll0, r1, ih.1]
      · simp [PyData.depthAll, r2, ih.2]
  obtain ⟨h1, h2⟩ := h es
  unfold SeqAt.shaped
  rw [Bool.and_eq_true]
  refine ⟨by simp [PyData.canLay0, h1], decide_eq_true ?_⟩
  simp only [PyData.depth]
  omega
theorem rows_nil (es : DEs) : PyData.eqv (.list (es.map rowD)) (.list []) = es.isEmpty := by
  cases es with
  | nil => simp [PyData.eqv, PyData.eqvAll]
  | cons e es => simp [PyData.eqv, PyData.eqvAll]
theorem RowsL.more {H : Hp} {l : Addr} {es fs : DEs} {bs : List Addr} {L : Addr} (R : RowsL H l es) (hb : RowsAt H bs fs) (hk : ∀ e ∈ fs, ShAt H e.2.1 e.1) (hL : H L = some (.lst (bs.map V.ref))) :
    ∃ xs, H l = some (.lst xs) ∧ xs.length = es.length ∧ ∀ q, H q = none → RowsL (upd H q (.lst (xs ++ bs.map V.ref))) q (es ++ fs) := by
  obtain ⟨as, h1, h2, h3⟩ := R
  refine ⟨_, h1, by rw [List.length_map]; exact h2.len, fun q hq => ⟨as ++ bs, by rw [upd_same, List.map_append], ?_, fun e he => ?_⟩⟩
  · have app : ∀ {as : List Addr} {es : DEs}, RowsAt H as es → RowsAt H (as ++ bs) (es ++ fs) := by
      intro as es h
      induction h with
      | nil => exact hb
      | cons r _ ih => exact Paired.cons r ih
    exact (app h2).mono fun a xs z => (same_new hq) _ _ z
  · refine ShAt.same (same_new hq) ?_
    rcases List.mem_append.mp he with he | he
    · exact h3 e he
    · exact hk e he
theorem RowsL.step {H G : Hp} {D t p : Addr} {fs : DEs} {i : Nat} {x : Sh} {n : Int} (hD : H D = none) (s : Same H G) (R : RowsL G D (fs.take i)) (hf : fs[i]? = some (x, p, n)) (ht : G t = none) (hp : ShAt G p x) :
    ∃ xs, (upd G t (.tup [.ref p, .int n])) D = some (.lst xs) ∧ xs.length ≤ i ∧ Same H (upd (upd G t (.tup [.ref p, .int n])) D (.lst (xs ++ [.ref t]))) ∧ RowsL (upd (upd G t (.tup [.ref p, .int n])) D (.lst (xs ++ [.ref t]))) D (fs.take (i + 1)) := by
  have e := same_new (o := .tup [.ref p, .int n]) ht
  obtain ⟨xs, g1, g2, g3⟩ := (R.same e).snoc (t := t) upd_same (hp.same e)
  refine ⟨xs, g1, by rw [g2, List.length_take]; omega, fun a o z => (upd_ne (ne_of_none z hD)).trans (e _ _ (s a o z)), ?_⟩
  rw [List.take_add_one, hf]
  exact g3
section
variable {base : Heap} {K : PySem.W.Frag} {mg : Str → Option Value} {P : Program} {w : World}
def spSomeRows : Sp := fun vs H Q _ => ∃ (b sb : Addr) (d m : Int), vs = [.ref b, .int d, .int m] ∧ Bag H b sb ∧ IsRoot d ∧ 0 ≤ m ∧ m ≤ 100 ∧
  ∀ l es H', H l = none → RowsL H' l es → Within (ShB d) (10 ^ 6) es → (es.length : Int) ≤ m → Bag H' b sb → Keep b H H' → Q (.ref l) H'
theorem ok_some_rows (T : Txt K mg) : FnOk P w K mg base CX0 6 T.f_some_rows T.d_some_rows ["_law_bag", "_law_root", "_law_most"] spSomeRows := by
  refine T.F_some_rows.ok sc_some_rows (fun vs H Q E h => ?_) (fun cdv A outer s H vs Q E hr h => ?_)
  · obtain ⟨b, sb, d, m, rfl, _⟩ := h
    rfl
  · obtain ⟨b, sb, d, m, rfl, B, hd, m0, m1, q⟩ := h
    refine ⟨_, (pss_cons (ps_set (i := 3) sc_some_rows.nd rfl (Or.inl rfl) (pe_lst pa_nil))
      (pss_cons (ps_for PassesOwn.never rfl (pi_range1 (by rfl) T.n_range (pa_cons (pe_call (ok_pull T) (hr.mono (by decide)) (by rfl) T.g_pull T.F_pull.kp T.b_pull .nil pass0 (pa_cons (pv 0) (pa_cons (pe_op op_add (pv 2) pe_int) pa_nil))) pa_nil)) (pg_name (i := 4) sc_some_rows.nd rfl (Or.inl rfl)) (pss_cons (ps_set (i := 5) sc_some_rows.nd rfl (Or.inl rfl) (pe_call (ok_a_sheet T) (hr.mono (by decide)) (by rfl) T.g_a_sheet T.F_a_sheet.kp T.b_a_sheet .nil pass0 (pa_cons (pv 0) (pa_cons (pv 1) pa_nil))))
      (pss_cons (ps_if (PW.pt (pw_and (pt_cmpR (op_neD hr.units) (pv 3) (pe_lst pa_nil) (nomark _)) (pw_and1 (pt_cmpR op_eq (pe_call (ok_pull T) (hr.mono (by decide)) (by rfl) T.g_pull T.F_pull.kp T.b_pull .nil pass0 (pa_cons (pv 0) (pa_cons pe_int pa_nil))) pe_int (nomark _))))) (pss_one (ps_set (i := 5) sc_some_rows.nd rfl (Or.inl rfl) (pe_ix ix_tup (pe_call (ok_of T) (hr.mono (by decide)) (by rfl) T.g_of T.F_of.kp T.b_of .nil pass0 (pa_cons (pv 0) (pa_cons (pv 3) pa_nil))) pe_int (fun _ _ => rfl)))) pss_nil)
      (pss_one (ps_expr (pe_bm PySem.F.plainAttrs_list PySem.F.slot_list_append PySem.F.type_list_append mt_append (pv 3) (pa_cons (pe_tup (pa_cons (pv 5) (pa_cons (pe_call (ok_some_count T) (hr.mono (by decide)) (by rfl) T.g_some_count T.F_some_count.kp T.b_some_count .nil pass0 (pa_cons (pv 0) pa_nil)) pa_nil))) pa_nil)))))))
      (pss_one (ps_ret (pv 3))))), ?_⟩
    refine ⟨Nat.zero_le _, fun l hl => ?_⟩
    have nl := B.ne hl
    have nl2 := B.ne2 hl
    have B0 := B.new (o := .lst []) hl
    refine ⟨.ref b, rfl, _, rfl, m, 1, rfl, rfl, b, sb, _, rfl, B0, by omega, Nat.lt_of_le_of_lt (show (m + 1).natAbs ≤ 101 by omega) (by decide), fun z H1 z0 z1 B1 k1 => ?_⟩
    have h1 : H1 l = some (.lst []) := k1 _ _ nl upd_same
    refine ⟨z, rfl, by omega, by omega, for_range (lo := 0) (n := z.toNat) (fun i σ H' => ∃ y4 y5 es, σ = [some (.ref b), some (.int d), some (.int m), some (.ref l), y4, y5] ∧ RowsL H' l es ∧ Within (ShB d) (10 ^ 6) es ∧ es.length = i ∧ Bag H' b sb ∧ Keep b H H')
      ⟨none, none, [], rfl, ⟨[], h1, .nil, fun e he => by cases he⟩, (fun e he => by cases he), rfl, B1, (keep_new hl).trans k1⟩ ?_ ?_⟩
    · rintro i σ H2 hi ⟨y4, y5, es, rfl, R2, W2, e2, B2, k2⟩
      refine ⟨.ref b, rfl, .int d, rfl, b, sb, d, rfl, B2, hd, fun x p H3 hx hp B3 k3 => ?_⟩
      have R3 := R2.keep B2 nl k3
      -- behind the test
      have rest : ∀ (p : Addr) (x : Sh) (H5 : Hp), ShB d x → ShAt H5 p x → RowsL H5 l es → Bag H5 b sb → Keep b H H5 → tBM K "list" rAppend (tVar 3) (tCons (tTup (tCons (tVar 5) (tCons (tCall spCount [] E0 (tCons (tVar 0) tNil)) tNil))) tNil) [some (.ref b), some (.int d), some (.int m), some (.ref l), some (.int (0 + (i : Int))), some (.ref p)] H5 fun _ H' => ∃ y4 y5 es, [some (V.ref b), some (.int d), some (.int m), some (.ref l), some (.int (0 + (i : Int))), some (.ref p)] = [some (.ref b), some (.int d), some (.int m), some (.ref l), y4, y5] ∧ RowsL H' l es ∧ Within (ShB d) (10 ^ 6) es ∧ es.length = i + 1 ∧ Bag H' b sb ∧ Keep b H H' := by
        intro p x H5 hx hp R5 B5 k5
        obtain ⟨as, hl5, _⟩ := id R5
        refine ⟨.ref l, rfl, .inl ⟨rfl, _, SqL.of hl5⟩, .ref p, rfl, .ref b, rfl, b, sb, rfl, B5, fun n H6 n0 n1 B6 k6 => ⟨by show 2 ≤ sizeLine; decide, fun t ht => ?_⟩⟩
        have k7 := k6.trans (keep_new (o := .tup [.ref p, .int n]) ht)
        have R7 := R5.keep B5 nl k7
        have p7 := hp.mono (tup_keep B5 k7)
        obtain ⟨xs, g1, g2, g3⟩ := R7.snoc (t := t) (p := p) (x := x) (n := n) upd_same p7
        refine ⟨l, xs, .ref t, rfl, rfl, g1, small1000 (by omega), _, _, _, rfl, g3, ?_, by rw [List.length_append, e2]; rfl, (B6.new ht).put nl nl2, ?_⟩
        · intro e he
          rcases List.mem_append.mp he with he | he
          · exact W2 e he
          · rw [List.mem_singleton.mp he]
            exact ⟨hx, n0, n1⟩
        · exact fun a o na z => (upd_ne (ne_of_none z hl)).trans ((k5.trans k7) a o na z)
      refine ⟨_, rfl, Nat.zero_le _, fun nn hnn => ?_⟩
      have s4 := same_new (o := .lst []) hnn
      refine ⟨_, .list [], (R3.same s4).dp, .lst (SqL.of upd_same) .nil, rows_shaped es, by decide +kernel, ?_⟩
      rw [rows_nil]
      have B4 := B3.same s4
      have k4 := k2.trans (k3.trans (keep_of s4))
      cases es with
      | nil => exact ⟨false, rfl, iteF (iteF (rest p x _ hx (hp.same s4) (R3.same s4) B4 k4))⟩
      | cons e es =>
        refine ⟨true, rfl, iteT ⟨_, rfl, b, sb, 4, rfl, B4, by decide, by decide, fun z5 H5 _ _ B5 k5 => ⟨rfl, _, rfl, ?_⟩⟩⟩
        have R5 := (R3.same s4).keep B4 nl k5
        obtain ⟨as, hl5, ra5, ks5⟩ := id R5
        refine ite2 (fun _ => ?_) (fun _ => rest p x H5 hx ((hp.same s4).mono (tup_keep B4 k5)) R5 B5 (k4.trans k5))
        refine ⟨.ref b, rfl, .ref l, rfl, b, sb, l, _, rfl, B5, hl5, nl, ?_, ?_, fun j v H6 hv B6 k6 => ?_⟩
        · rw [List.length_map, ra5.len]
          exact Nat.succ_pos _
        · rw [List.length_map, ra5.len, e2]
          omega
        · obtain ⟨a, f, rfl, hf, ha⟩ := ra5.row hv
          have mf := List.mem_of_getElem? hf
          refine ⟨a, _, 0, .ref f.2.1, rfl, rfl, SqT.of (tup_keep B5 k6 _ _ ha), atI_nat (j := 0) rfl, ?_⟩
          exact rest f.2.1 f.1 H6 (W2 f mf).1 ((ks5 f mf).mono (tup_keep B5 k6)) (R5.keep B5 nl k6) B6 (k4.trans (k5.trans k6))
    · rintro σ H2 ⟨y4, y5, es, rfl, R2, W2, e2, B2, k2⟩
      exact ⟨_, rfl, q l es H2 hl R2 W2 (by omega) B2 k2⟩
end
/-! ### stocks, listings -/
section
variable {base : Heap} {K : PySem.W.Frag} {mg : Str → Option Value} {P : Program} {w : World}
def spStock (K : PySem.W.Frag) (P : Program) (w : World) : Sp := fun vs H Q _ => ∃ (l : Addr) (es : DEs), vs = [.ref l] ∧ RowsL H l es ∧ es.length ≤ 1000 ∧ NewD P w H (mergeD es) Q
theorem ok_stock_of (T : Txt K mg) : FnOk P w K mg base CX0 1 T.f_stock_of T.d_stock_of ["_law_rows"] (spStock K P w) := by
  refine T.F_stock_of.ok sc_stock_of (fun vs H Q E h => ?_) (fun cdv A outer s H vs Q E hr h => ?_)
  · obtain ⟨l, es, rfl, _⟩ := h
    rfl
  · obtain ⟨l, es, rfl, ⟨as, hl, hr2, hk⟩, hn, q⟩ := h
    refine ⟨_, (pss_cons (ps_set (i := 1) sc_stock_of.nd rfl (Or.inl rfl) pe_dnewS)
      (pss_cons (ps_for PassesOwn.never rfl (pi_list (pv 0)) (pg_tup (by rfl) (pgs_cons (pg_name (i := 2) sc_stock_of.nd rfl (Or.inl rfl)) (pgs_cons (pg_name (i := 3) sc_stock_of.nd rfl (Or.inl rfl)) pgs_nil))) (pss_one (ps_sput hr.units (pv 1) (pv 2) (pe_op op_add (pe_sget2 hr.units (pv 1) (pv 2) pe_int ⟨rfl, rfl, rfl, rfl⟩) (pv 3)) rfl)))
      (pss_one (ps_ret (pv 1))))), ?_⟩
    intro c hc
    have D0 : DAt P w (upd H c (DS P w c [])) c [] := ⟨upd_same, fun x hx => by cases hx⟩
    refine ⟨_, rfl, l, rfl, ⟨_, SqL.of ((same_new hc) _ _ hl)⟩, for_list (K := K) (a := l) (xs := as.map V.ref) (fun i σ H' => ∃ y2 y3, σ = [some (.ref l), some (.ref c), y2, y3] ∧ Same H H' ∧ DAt P w H' c (mergeTo es i)) ⟨none, none, rfl, same_new hc, D0⟩ ?_ ?_ ?_⟩
    · rintro i σ H' _ ⟨_, _, _, s1, _⟩
      exact SqL.of (s1 _ _ hl)
    · rintro i x σ H' hx ⟨y2, y3, rfl, s1, D⟩
      obtain ⟨a, e, rfl, he, ha⟩ := hr2.row hx
      have hs := (hk e (List.mem_of_getElem? he)).same s1
      have hlt : i < es.length := (List.getElem?_eq_some_iff.mp he).1
      refine ⟨a, _, rfl, SqT.of (s1 _ _ ha), rfl, .ref e.2.1, _, rfl, .int e.2.2, _, rfl, rfl, ?_⟩
      refine ⟨.ref c, rfl, c, _, rfl, D.rd, .ref e.2.1, rfl, e.2.1, e.1, 0, _, rfl, rfl, D.rd, hs, .int e.2.2, rfl, _, _, rfl, rfl, .ref c, rfl, .ref e.2.1, rfl, c, e.2.1, _, e.1, _, rfl, rfl, rfl, D, hs, small_of (by have := mergeTo_len es i; omega), ?_⟩
      obtain ⟨s2, D2⟩ := step_put hc s1 D hs he
      exact ⟨_, _, rfl, s2, D2⟩
    · rintro σ H' ⟨y2, y3, rfl, s1, D⟩
      rw [List.length_map, hr2.len, mergeTo_all] at D
      exact ⟨_, rfl, q c H' hc s1 D⟩
def spListed (P : Program) (w : World) : Sp := fun vs H Q _ => ∃ (d : Addr) (es : DEs), vs = [.ref d] ∧ DAt P w H d es ∧ (keysD es).Nodup ∧ es.length ≤ 1000 ∧ ∀ l H', H l = none → Same H H' → RowsL H' l (sortE es) → Q (.ref l) H'
theorem ok_listed (T : Txt K mg) : FnOk P w K mg base CX0 1 T.f_listed T.d_listed ["_law_stock"] (spListed P w) := by
  refine T.F_listed.ok sc_listed (fun vs H Q E h => ?_) (fun cdv A outer s H vs Q E hr h => ?_)
  · obtain ⟨d, es, rfl, _⟩ := h
    rfl
  · obtain ⟨d, es, rfl, D, nd, hn, q⟩ := h
    refine ⟨_, (pss_one (ps_ret (pe_lc (own := [("_law_sheet", 1)]) (g := (gName 1)) (tt := tYes) (te := tTup (tCons (tVar 1) (tCons (tSGet P w (tVar 0) (tVar 1)) tNil))) (by rfl) sc_listed.nd (pi_list (pe_callB (cr_sortedLS hr.units) (by rfl) T.n_sorted (by decide +kernel) (pa_cons (pe_callTy (call_list_DS rfl) (by rfl) T.n_list (by decide +kernel) (pa_cons (pv 0) pa_nil)) pa_nil))) (blkOk_by (own := [("_law_sheet", 1)]) (N := ["_law_stock", "_law_sheet"]) (sc := defScope s_listed) (by decide +kernel)) (fun _ _ _ _ _ => (pg_name (i := 1) sc_listed.nd rfl (Or.inl rfl))) (fun _ _ _ _ _ => pts_nil) (fun _ _ _ _ _ => (pe_tup (pa_cons (pv 1) (pa_cons (pe_sget hr.units (pv 0) (pv 1) (fun _ _ => rfl)) pa_nil))))))), ?_⟩
    refine ⟨.ref d, rfl, d, es, rfl, D, fun l0 h0 => ?_⟩
    have e0 := same_new (o := .lst (es.map fun e => V.ref e.2.1)) h0
    refine ⟨l0, es.map fun e => (e.1, e.2.1), rfl, ?_, ?_, fun l1 h1 => ?_⟩
    · rw [upd_same, List.map_map]
      rfl
    · intro b hb
      obtain ⟨e, he, rfl⟩ := List.mem_map.mp hb
      exact (D.ks e he).same e0
    have e1 := same_new (o := .lst ((sortK es).map fun b => V.ref b.2)) h1
    have e01 := e0.trans e1
    refine ⟨l1, rfl, ⟨_, SqL.of upd_same⟩, fun D2 hD2 => ?_⟩
    have hlen : (sortE es).length ≤ 1000 := by
      rw [(sortE_perm nd).length_eq]
      exact hn
    refine lc_list (K := K) (a := l1) (xs := (sortK es).map fun b => V.ref b.2) (fun i G => Same (upd (upd H l0 (.lst (es.map fun e => V.ref e.2.1))) l1 (.lst ((sortK es).map fun b => V.ref b.2))) G ∧ RowsL G D2 ((sortE es).take i)) ⟨same_new hD2, [], upd_same, .nil, fun e he => by cases he⟩ (fun i G _ z => SqL.of (z.1 _ _ upd_same)) ?_ ?_
    · rintro i x G hx ⟨sG, RG⟩
      rw [List.getElem?_map] at hx
      cases hb : (sortK es)[i]? with
      | none =>
        rw [hb] at hx
        cases hx
      | some b =>
        rw [hb] at hx
        cases hx
        obtain ⟨n, hv, hat, hin⟩ := sortE_at nd hb
        have Dc := D.same (e01.trans sG)
        have hs := Dc.ks _ hin
        refine ⟨rfl, _, rfl, _, rfl, _, rfl, d, b.2, _, b.1, n, rfl, rfl, Dc.rd, hs, hv, by show 2 ≤ sizeLine; decide, fun t ht => ?_⟩
        obtain ⟨xs, g1, g2, g3, g4⟩ := RowsL.step hD2 sG RG hat ht hs
        have hi := (List.getElem?_eq_some_iff.mp hat).1
        exact ⟨xs, g1, small1000 (by omega), g3, g4⟩
    · rintro G ⟨sG, RG⟩
      have hl : ((sortK es).map fun b => V.ref b.2).length = (sortE es).length := by
        unfold sortE
        rw [List.length_map, List.length_map]
      rw [hl, List.take_length] at RG
      exact q D2 G (e01.free hD2) (e01.trans sG) RG
end
/-! ### rows that are in order already -/
theorem fold_new : ∀ (es acc : DEs), (keysD (acc ++ es)).Nodup → es.foldl addE acc = acc ++ es
  | [], acc, _ => by simp
  | e :: es, acc, h => by
    have h' : (keysD acc ++ e.1 :: keysD es).Nodup := by
      have : keysD (acc ++ e :: es) = keysD acc ++ e.1 :: keysD es := by
        unfold keysD
        rw [List.map_append, List.map_cons]
      rwa [this] at h
    have hn : valD acc e.1 = none := valD_none.mpr fun z => (List.nodup_append.mp h').2.2 _ z _ List.mem_cons_self rfl
    have e1 : addE acc e = acc ++ [e] := by
      unfold addE
      rw [putD_new hn, hn]
      show acc ++ [(e.1, e.2.1, 0 + e.2.2)] = _
      rw [Int.zero_add]
    rw [List.foldl_cons, e1, fold_new es (acc ++ [e]) (by rw [List.append_assoc]; exact h), List.append_assoc]
    rfl
theorem merge_id {es : DEs} (h : (keysD es).Nodup) : mergeD es = es := by
  have := fold_new es [] h
  simpa [mergeD] using this
theorem sort_id {es : DEs} (h : Asc es) : sortE es = es := by
  have k : sortK es = es.map fun e => (e.1, e.2.1) := by
    unfold sortK
    refine List.mergeSort_of_pairwise ?_
    rw [List.pairwise_map]
    refine h.up.imp fun {a b} l => ?_
    unfold leS
    rw [decide_eq_false fun z => ltS_asym l z]
    rfl
  unfold sortE
  rw [k, List.map_map, List.map_congr_left (g := id) fun e he => ?_, List.map_id]
  show (e.1, e.2.1, (valD es e.1).getD 0) = e
  rw [valD_mem h.nd he]
  rfl
theorem made_sorted {es : DEs} (nd : (keysD es).Nodup) (pos : ∀ e ∈ es, 1 ≤ e.2.2) : sortE (mergeD (sortE es)) = sortE es := by
  rw [merge_id (sortE_keys nd)]
  exact sort_id ⟨sortE_up nd, fun e he => pos e ((sortE_perm nd).mem_iff.mp he)⟩
/-! ### list(d.values()), for dicts of sheets -/
def valsO (p d : Addr) : HO := .ext fun h => h.IsValuesView p d
section
variable {X : Cx}
theorem valsO_ok {P : Program} {w : World} {H : Hp} {h : Heap} {p d : Addr} (e : h.get? p = some { cls := .type "dict_values", data := .fields #[.ref d] }) : ObjOk P w H h p (valsO p d) := by
  refine ⟨⟨_, e, rfl, rfl⟩, ⟨_, e⟩, fun h1 h2 v k => ?_⟩
  obtain ⟨o, ho, r⟩ := v
  exact ⟨o, k o ho, r⟩
/-- d.values() -/
theorem pe_valuesDS {o : Expr} {apos cpos : Pos} {td : TE} (ho : PE X o td) (hb : attributeBase o "values" X.env (eval o X.env) = eval o X.env := by rfl) (hl : (apos.endLine == cpos.line) = true := by rfl) :
    PE X (.Call (.Attribute o "values" apos) [] [] cpos) (fun σ H Q => td σ H fun v G => ∃ d es, v = .ref d ∧ DAt X.prog X.w G d es ∧ ∀ p, G p = none → Q (.ref p) (upd G p (valsO p d))) := by
  constructor
  intro pins s σ H Q I h
  apply wpAny_Call_method0_late hb hl
  refine thn (ho.run pins s σ H _ I h) ?_
  rintro u s1 ⟨v, G, I1, rv, d, es, rfl, D, q⟩
  cases rv
  obtain ⟨t1, t2⟩ := ds_dict I1 D.rd
  have low := (ds_of I1.hok D.rd).1
  refine ⟨"dict", "dict.values", PySem.F.plainAttrs_dict, PySem.F.slot_dict_values, PySem.F.type_dict_values, t1, t2, Calls.callWith_builtin rfl (PySem.evalArgs_none (wpAny_call_entry PySem.F.slot_dict_values t1 PySem.F.entry_dict_values ?_ (PySem.F.args_dict_values_1 _)))⟩
  have made : EP X pins σ Q (.ref s1.heap.objs.size) { s1 with heap := s1.heap.push { cls := .type "dict_values", data := .fields #[.ref d] } } := ⟨.ref s1.heap.objs.size, _, I1.laid (t' := s1.toks) (fun b u z => Heap.get?_push_of_some _ z) (Nat.le_refl _) (valsO_ok (Heap.get?_push_size _ rfl)), rfl, q _ (I1.hok.fresh (Nat.le_refl _))⟩
  have bare : wpAny (model X.prog X.w) X.A.in1 (Builtin.Dict.noArgs "values" ⟨[.ref d], []⟩) (fun r s' => r = d ∧ s' = s1) X.xe s1 := by
    unfold Builtin.Dict.noArgs
    exact wpAny_bind (wpAny_notOrdered_dict t1 (wpAny_pure ⟨rfl, rfl⟩))
  have shows : Builtin.Dict.showsAll d = pure () := by
    unfold Builtin.Dict.showsAll
    rw [low]
    rfl
  refine wpAny_bind (m := Builtin.Dict.noArgs "values" ⟨[.ref d], []⟩) (wpAny_mono bare ?_ fun _ _ z => z)
  rintro r s' ⟨rfl, rfl⟩
  refine wpAny_bind (wpAny_of_eq shows ?_)
  exact wpAny_bind (wpAny_newObj_type (wpAny_pure ⟨_, rfl, made⟩))
def rListVals (P : Program) (w : World) : List V → Hp → VK → Prop := fun vs H Q => ∃ p d es, vs = [.ref p] ∧ H p = some (valsO p d) ∧ DAt P w H d es ∧ ∀ l, H l = none → Q (.ref l) (upd H l (.lst (es.map fun e => V.int e.2.2)))
theorem vals_by {es : DEs} {ys : List (NestedKey × Addr × Value)} {en : Array DictEntry} {acc : Array Value} {P : Program} {w : World} (he : en.toList = ys.map (entryOfKey (nestedKind P w))) (rel : Paired DRel es ys) (hl : acc.size = en.size)
    (hv : ∀ (j : Nat) (v : Value), acc[j]? = some v → ∃ hi : j < en.size, v = en[j].val) : Vals (es.map fun e => V.int e.2.2) acc.toList := by
  have hs := ds_size he rel
  refine Paired.byIx (by rw [List.length_map]; simp; omega) fun j a v h1 h2 => ?_
  rw [List.getElem?_map] at h1
  cases z : es[j]? with
  | none =>
    rw [z] at h1
    cases h1
  | some e =>
    rw [z] at h1
    cases h1
    obtain ⟨hi, rfl⟩ := hv j v (by simpa using h2)
    obtain ⟨hsh, u, h3, r3⟩ := ds_ent he rel z
    rw [Array.getElem?_eq_getElem hi] at h3
    rw [Option.some.inj h3]
    exact r3
theorem call_list_valuesDS (hc : X.calm = true) : CallR X (.type "list") (rListVals X.prog X.w) := by
  intro pins s σ H vs us Q I r q
  obtain ⟨p, d, es, rfl, hp, D, q⟩ := q
  obtain ⟨u, rfl, ru⟩ := r.one
  cases ru
  obtain ⟨hs, hz, ys, rel, o, en, ep, ho, hx, hdat, he, _⟩ := (I.hok d _ D.hd).1
  have view : s.heap.IsValuesView p d := (I.hok p _ hp).1
  have hsz := ds_size he rel
  refine PySem.W.kdl_call (KdlSrc.rawValues (es := en) (ep := ep)) (I.ok.hd hc) ⟨view, o, ho, hx, hdat⟩ (by omega) fun h' tk acc c kp e it => ?_
  refine ⟨.ref s.heap.objs.size, _, I.laid (t' := tk) (o := .lst (es.map fun e => V.int e.2.2)) kp (Nat.le_refl _) ?_, rfl, q _ (I.hok.fresh (Nat.le_refl _))⟩
  refine ⟨by rw [List.length_map]; exact hz, acc.toList, c, vals_by he rel it.1 fun j v hv => it.2 j v hv, by rw [Array.toArray_toList]; exact e⟩
end
/-! ### len(x), y in x, by own methods -/
section
variable {X : Cx} {CX : CXT} {n : Nat} {C g : Addr} {fd : FuncData} {ps : List Str} {sp : Sp} {E : XK}
def rLenO (C : Addr) (sp : Sp) (E : XK) : List V → Hp → VK → Prop := fun xs H Q => ∃ a dx fs, xs = [V.ref a] ∧ H a = some (.ins C dx fs) ∧ sp [.ref a] H (fun z H' => ∃ m : Nat, z = .int (m : Int) ∧ m ≤ 1000 ∧ Q (.int (m : Int)) H') E
theorem call_lenO (m : Meth X.K C "__len__" g) (F : FnOk X.prog X.w X.K X.mg X.base CX n g fd ps sp) (hr : Room (n + 1) X.A) (hb : Binds X.K fd ps []) (hx : Passes CX X E) : CallR X (.builtin "len") (rLenO C sp E) := by
  intro pins s σ H xs us Q I r h
  obtain ⟨a, dx, fs, rfl, ha, q⟩ := h
  obtain ⟨u, rfl, ru⟩ := r.one
  cases (show u = Value.ref a from ru)
  obtain ⟨ox, od, J⟩ := inst_of I ha
  have room : Room n X.A.in1 := Room.in1 hr
  refine Calls.call_function_entry kind_len plain_len entry_len (args_len1 _) ?_
  unfold Builtin.«len»
  refine wpAny_bind (m := oneArg "len" _) (wpAny_pure ?_)
  refine wpAny_bind (m := callSpecial? (.ref a) (Str.ofString "__len__")) (PySem.W.special_fn I.kIn J m.at_ (beq_iff_eq.mp m.fn) (wpAny_mono (run_in (us := [.ref a]) (ws := [.ref a]) F room I.env0.in1 hb hx I (.cons rfl .nil) q) ?_ fun _ _ z => z))
  rintro v s' ⟨z, G, I', rz, k, rfl, hk, qz⟩
  obtain ⟨t, rfl⟩ := rz
  refine wpAny_bind (wpAny_holding (wpAny_pure (wpAny_bind (wpAny_letGo ?_))))
  dsimp only
  rw [if_neg (show ¬ (k : Int) < 0 by omega), if_neg (show ¬ (k : Int) ≥ 2 ^ 63 by omega)]
  exact wpAny_bind (wpAny_mkInt (wpAny_pure ⟨_, rfl, .int (k : Int), G, I'.tok _, ⟨_, rfl⟩, qz⟩))
def rInO (C : Addr) (sp : Sp) (E : XK) : R2 := fun y x H Q => ∃ a dx fs, x = .ref a ∧ H a = some (.ins C dx fs) ∧ sp [x, y] H (fun z H' => ∃ k, z = .bl k ∧ Q (.bl k) H') E
theorem op_inO (m : Meth X.K C "__contains__" g) (F : FnOk X.prog X.w X.K X.mg X.base CX n g fd ps sp) (hr : Room n X.A) (hb : Binds X.K fd ps []) (hx : Passes CX X E) : OpR X (compareOp .In) (rInO C sp E) := by
  intro pins s σ H y x v u Q I ry rx h
  obtain ⟨a, dx, fs, rfl, ha, q⟩ := h
  cases (show u = Value.ref a from rx)
  obtain ⟨ox, od, J⟩ := inst_of I ha
  have ran := run_in (us := [.ref a, v]) (ws := [.ref a, y]) F hr I.env0 hb hx I (.cons rfl (.cons ry .nil)) q
  have found : wpAny (model X.prog X.w) X.A (contains (.ref a) v) (fun k s' => EP X pins σ Q (.bool k) s') X.xe s := by
    unfold contains
    refine wpAny_holding ?_
    have no : stdlibNamesSay? (.ref a) v = none := by
      unfold stdlibNamesSay?
      rfl
    rw [no]
    dsimp only
    unfold specialOf
    refine wpAny_bind (wpAny_bind (J.type.here ((PySem.W.looks_findIn I.kIn m.at_).here ?_)))
    have some_ : ¬ (some (Value.ref g) == some Value.none) = true := fun z => by cases z
    rw [if_neg some_]
    unfold callSpecialUnlessNone? specialOf
    refine wpAny_bind (wpAny_bind (wpAny_bind (J.type.here ((PySem.W.looks_findIn I.kIn m.at_).here (wpAny_holding (wpAny_bind ((PySem.W.bind_fn I.kIn _ (beq_iff_eq.mp m.fn)).here ?_)))))))
    dsimp only
    have ref_ : ¬ (Value.ref g == Value.none) = true := fun z => by cases z
    rw [if_neg ref_]
    refine wpAny_bind (wpAny_mono ran ?_ fun _ _ z => z)
    rintro w s' ⟨z, G, I', rz, k, rfl, qz⟩
    cases (show w = Value.bool k from rz)
    exact wpAny_pure (wpAny_pure ⟨.bl k, G, I', rfl, qz⟩)
  exact wpAny_bind (wpAny_mono found (fun k s' z => wpAny_pure z) fun _ _ z => z)
end
/-! ### heaps of stocks, whether a heap is the one that is due -/
section
variable {base : Heap} {K : PySem.W.Frag} {mg : Str → Option Value} {P : Program} {w : World}
theorem Bag.ext {H : Hp} {b sb p : Addr} {φ : Heap → Prop} (B : Bag H b sb) (hp : H p = some (.ext φ)) : p ≠ b := by
  obtain ⟨ns, i, j, m, c, B⟩ := B
  exact ne_of hp B.hb (by intro z; cases z)
theorem Bag.ins {H : Hp} {b sb p C dx : Addr} {fs : List (Str × V)} (B : Bag H b sb) (hp : H p = some (.ins C dx fs)) : p ≠ b := by
  obtain ⟨ns, i, j, m, c, B⟩ := B
  exact ne_of hp B.hb (by intro z; cases z)
theorem DAt.keep {H H' : Hp} {b sb d : Addr} {es : DEs} (D : DAt P w H d es) (B : Bag H b sb) (k : Keep b H H') : DAt P w H' d es := ⟨k _ _ (B.ext D.hd) D.hd, fun x hx => (D.ks x hx).mono (tup_keep B k)⟩
theorem HeapAt.keep {C : Addr} {H H' : Hp} {b sb p : Addr} {d : Int} {es : DEs} (h : HeapAt P w C H p d es) (B : Bag H b sb) (k : Keep b H H') : HeapAt P w C H' p d es := by
  obtain ⟨dx, c, h1, h2⟩ := h
  exact ⟨dx, c, k _ _ (B.ins h1) h1, h2.keep B k⟩
end
section
variable {base : Heap} {K : PySem.W.Frag} {mg : Str → Option Value} {w : World}
theorem Within.rowB {d M : Int} {es : DEs} (h : Within (ShB d) M es) : ∀ e ∈ es, rowB d e = true := fun e he => by
  obtain ⟨h1, h2, _⟩ := h e he
  unfold Gy.rowB
  rw [decide_eq_true h2, h1.ok.b.1]
  rfl
theorem Within.es100 {d M : Int} {es : DEs} (h : Within (ShB d) M es) : Es100 es := fun e he => (h e he).1.ok.b.2
def spHeapOf (T : Txt K mg) (w : World) : Sp := fun vs H Q _ => ∃ (c : Addr) (d M : Int) (es : DEs), vs = [.int d, .ref c] ∧ IsRoot d ∧ DAt PySem.Challenge.pw_grainyard_k65_texts_of_heaps w H c es ∧ (keysD es).Nodup ∧ Within (ShB d) M es ∧ es.length ≤ 1000 ∧ ∀ p H', H p = none → Same H H' → HeapAt PySem.Challenge.pw_grainyard_k65_texts_of_heaps w T.C_Heap H' p d (sortE es) → Q (.ref p) H'
theorem ok_heap_of (T : Txt K mg) : FnOk PySem.Challenge.pw_grainyard_k65_texts_of_heaps w K mg base CX0 7 T.f_heap_of T.d_heap_of ["_law_root", "_law_stock"] (spHeapOf T w) := by
  refine T.F_heap_of.ok sc_heap_of (fun vs H Q E h => ?_) (fun cdv A outer s H vs Q E hr h => ?_)
  · obtain ⟨c, d, M, es, rfl, _⟩ := h
    rfl
  · obtain ⟨c, d, M, es, rfl, hd, D, nd, wi, hn, q⟩ := h
    refine ⟨_, (pss_one (ps_ret (pe_make T.M_Heap (ok_Heap_init T) (hr.mono (by decide)) (by rfl) T.g_Heap T.b_Heap_init .nil pass_never (pa_cons (pv 0) (pa_cons (pe_call (ok_listed T) (hr.mono (by decide)) (by rfl) T.g_listed T.F_listed.kp T.b_listed .nil pass0 (pa_cons (pv 1) pa_nil)) pa_nil))))), ?_⟩
    refine ⟨_, rfl, _, rfl, c, es, rfl, D, nd, hn, fun l H1 hl s1 R => ?_⟩
    have wi' := wi.perm (sortE_perm nd)
    refine mk_heap (T := T) (w := w) (isRB_of hd) R.handed wi'.es100 wi'.rowB (by rw [(sortE_perm nd).length_eq]; exact hn) fun x H2 hx s2 hA => ?_
    rw [made_sorted nd fun e he => (wi e he).2.1] at hA
    exact q x H2 (s1.free hx) (s1.trans s2) hA
end
/-! ### heaps that are equal -/
section
variable {base : Heap} {K : PySem.W.Frag} {mg : Str → Option Value} {P : Program} {w : World}
def spHEq (P : Program) (w : World) (C : Addr) : Sp := fun vs H Q _ => ∃ (p q : Addr) (d d' : Int) (es fs : DEs), vs = [.ref p, .ref q] ∧ HeapAt P w C H p d es ∧ HeapAt P w C H q d' fs ∧ Q (.bl (decide (d = d') && eqD es fs)) H
theorem dVi {x y : Int} : decide (V.int x = V.int y) = decide (x = y) := by
  by_cases h : x = y
  · rw [decide_eq_true h, h, decide_eq_true rfl]
  · rw [decide_eq_false h, decide_eq_false fun z => h (V.int.inj z)]
theorem ok_Heap_eq (T : Txt K mg) : FnOk P w K mg base CX0 1 T.f_Heap_eq T.d_Heap_eq ["self", "other"] (spHEq P w T.C_Heap) := by
  refine T.F_Heap_eq.ok sc_Heap_eq (fun vs H Q E h => ?_) (fun cdv A outer s H vs Q E hr h => ?_)
  · obtain ⟨p, q, d, d', es, fs, rfl, _⟩ := h
    rfl
  · obtain ⟨p, q, d, d', es, fs, rfl, ⟨dx, c, hp, D⟩, ⟨dy, c', hq, D'⟩, k⟩ := h
    refine ⟨_, (pss_one (ps_ret (pe_and (pe_callB call_isi (by rfl) T.n_isinstance (by decide +kernel) (pa_cons (pv 1) (pa_cons (pe_glob (v := .ref T.C_Heap) (by rfl) T.g_Heap rfl) pa_nil))) (pe_and (pe_cmpR op_eq (pe_fld (pv 0) rfl) (pe_fld (pv 1) rfl) (nomark _)) (pe_one (pe_cmpR (op_eqDS hr.units) (pe_fld (pv 0) rfl) (pe_fld (pv 1) rfl) (nomark _))))))), ?_⟩
    refine ⟨_, rfl, .ref q, .ref T.C_Heap, .ref T.C_Heap, .ref T.C_Heap, true, rfl, ClsV.own _, TyX.base (TyOf.ins hq T.cl_Heap T.ca_Heap T.hn T.ht T.mo_Heap), by simp [PySem.W.kitOne], true, rfl, iteT ?_⟩
    refine ⟨_, rfl, p, T.C_Heap, dx, _, _, rfl, hp, T.cl_Heap, T.n_Heap_held_root, rfl, _, rfl, q, T.C_Heap, dy, _, _, rfl, hq, T.cl_Heap, T.n_Heap_held_root, rfl, rfl, decide (d = d'), (by rw [dVi]), ?_⟩
    cases z : decide (d = d') with
    | false =>
      rw [z, Bool.false_and] at k
      exact iteF k
    | true =>
      rw [z, Bool.true_and] at k
      exact iteT ⟨_, rfl, p, T.C_Heap, dx, _, _, rfl, hp, T.cl_Heap, T.n_Heap_copies, rfl, _, rfl, q, T.C_Heap, dy, _, _, rfl, hq, T.cl_Heap, T.n_Heap_copies, rfl, c, c', es, fs, rfl, rfl, D.rd, D'.rd, k⟩
end
/-! ### texts of heaps -/
abbrev rCS : R2 := fun x y H Q => ∃ i j, x = .str i ∧ y = .str j ∧ i.length + j.length ≤ sizeLine ∧ Q (.str (i ++ j)) H
abbrev rStrI : List V → Hp → VK → Prop := fun xs H Q => ∃ i : Int, xs = [.int i] ∧ i.natAbs.log2 < 1920 ∧ Q (.str (toString i)) H
def Sh64 (x : Sh) : Prop := x.1.natAbs < 10 ^ 64 ∧ x.2.1.natAbs < 10 ^ 64 ∧ x.2.2.1.natAbs < 10 ^ 64 ∧ x.2.2.2.natAbs < 10 ^ 64
theorem sheet_len {x : Sh} (h : Sh64 x) : (sheetT x).length ≤ 303 := by
  have p1 := pair_len h.1 h.2.1
  have p2 := pair_len h.2.2.1 h.2.2.2
  have e : (Str.ofString " x ").length = 3 := by decide +kernel
  unfold sheetT
  rw [Str.length_append, Str.length_append, e]
  omega
theorem row_len {x : Sh} {n : Int} (h : Sh64 x) (hn : n.natAbs < 10 ^ 64) : (rowT x n).length ≤ 400 := by
  have p1 := sheet_len h
  have p2 := (text_len hn).2
  have e : (Str.ofString " ").length = 1 := by decide +kernel
  unfold rowT
  rw [Str.length_append, Str.length_append, e]
  omega
def rowsE (es : DEs) : List (Sh × Int) := es.map fun e => (e.1, e.2.2)
def EsT (es : DEs) : Prop := ∀ e ∈ es, Sh64 e.1 ∧ e.2.2.natAbs < 10 ^ 64
section
variable {base : Heap} {K : PySem.W.Frag} {mg : Str → Option Value} {P : Program} {w : World}
def spSheetT : Sp := fun vs H Q _ => ∃ (p : Addr) (x : Sh), vs = [.ref p] ∧ ShAt H p x ∧ Sh64 x ∧ ∀ H', Same H H' → Q (.str (sheetT x)) H'
theorem ok_sheet_text (T : Txt K mg) : FnOk P w K mg base CX0 4 T.f_sheet_text T.d_sheet_text ["sheet"] spSheetT := by
  refine T.F_sheet_text.ok sc_sheet_text (fun vs H Q E h => ?_) (fun cdv A outer s H vs Q E hr h => ?_)
  · obtain ⟨p, x, rfl, _⟩ := h
    rfl
  · obtain ⟨p, x, rfl, ⟨u, v, hp, hu, hv⟩, ⟨b1, b2, b3, b4⟩, q⟩ := h
    refine ⟨_, (pss_cons (ps_asg (pv 0) (pg_tup (by rfl) (pgs_cons (pg_name (i := 1) sc_sheet_text.nd rfl (Or.inl rfl)) (pgs_cons (pg_name (i := 2) sc_sheet_text.nd rfl (Or.inl rfl)) pgs_nil))))
      (pss_one (ps_ret (pe_joined (.cons (pe_fmt (pe_call (ok_pair_text T) (hr.mono (by decide)) (by rfl) T.g_pair_text T.F_pair_text.kp T.b_pair_text .nil pass0 (pa_cons (pv 1) pa_nil))) (.cons pe_str (.cons (pe_fmt (pe_call (ok_pair_text T) (hr.mono (by decide)) (by rfl) T.g_pair_text T.F_pair_text.kp T.b_pair_text .nil pass0 (pa_cons (pv 2) pa_nil))) .nil))))))), ?_⟩
    have p1 := pair_len b1 b2
    have p2 := pair_len b3 b4
    have e : (Str.ofString " x ").length = 3 := by decide +kernel
    refine ⟨_, rfl, p, _, rfl, SqT.of hp, rfl, .ref u, _, rfl, .ref v, _, rfl, rfl, ?_⟩
    refine ⟨_, rfl, u, x.1, x.2.1, rfl, SqT.of hu, b1, b2, fun H1 s1 => .inl ⟨_, rfl, by rw [sz_eq]; omega, _, rfl, by rw [Str.empty_append, sz_eq]; omega, _, rfl, by rw [Str.empty_append, Str.length_append, e, sz_eq]; omega, _, rfl, v, x.2.2.1, x.2.2.2, rfl, SqT.of (s1 _ _ hv), b3, b4, fun H2 s2 => .inl ⟨_, rfl, by rw [sz_eq]; omega, _, rfl, by rw [Str.empty_append, Str.length_append, Str.length_append, e, sz_eq]; omega, ?_⟩⟩⟩
    rw [Str.empty_append]
    exact q _ (s1.trans s2)
def spRowT : Sp := fun vs H Q _ => ∃ (r p : Addr) (x : Sh) (n : Int), vs = [.ref r] ∧ H r = some (.tup [.ref p, .int n]) ∧ ShAt H p x ∧ Sh64 x ∧ n.natAbs < 10 ^ 64 ∧ ∀ H', Same H H' → Q (.str (rowT x n)) H'
theorem ok_row_text (T : Txt K mg) : FnOk P w K mg base CX0 5 T.f_row_text T.d_row_text ["row"] spRowT := by
  refine T.F_row_text.ok sc_row_text (fun vs H Q E h => ?_) (fun cdv A outer s H vs Q E hr h => ?_)
  · obtain ⟨r, p, x, n, rfl, _⟩ := h
    rfl
  · obtain ⟨r, p, x, n, rfl, hr', hp, b, hn, q⟩ := h
    refine ⟨_, (pss_cons (ps_asg (pv 0) (pg_tup (by rfl) (pgs_cons (pg_name (i := 1) sc_row_text.nd rfl (Or.inl rfl)) (pgs_cons (pg_name (i := 2) sc_row_text.nd rfl (Or.inl rfl)) pgs_nil))))
      (pss_one (ps_ret (pe_joined (.cons (pe_fmt (pe_call (ok_decimal_text T) (hr.mono (by decide)) (by rfl) T.g_decimal_text T.F_decimal_text.kp T.b_decimal_text .nil pass0 (pa_cons (pv 2) pa_nil))) (.cons pe_str (.cons (pe_fmt (pe_call (ok_sheet_text T) (hr.mono (by decide)) (by rfl) T.g_sheet_text T.F_sheet_text.kp T.b_sheet_text .nil pass0 (pa_cons (pv 1) pa_nil))) .nil))))))), ?_⟩
    have l1 := sheet_len b
    have l2 := (text_len hn).2
    have e : (Str.ofString " ").length = 1 := by decide +kernel
    refine ⟨_, rfl, r, _, rfl, SqT.of hr', rfl, .ref p, _, rfl, .int n, _, rfl, rfl, ?_⟩
    refine ⟨_, rfl, n, rfl, hn, fun H1 s1 => .inl ⟨_, rfl, by rw [sz_eq]; omega, _, rfl, by rw [Str.empty_append, sz_eq]; omega, _, rfl, by rw [Str.empty_append, Str.length_append, e, sz_eq]; omega, _, rfl, p, x, rfl, hp.same s1, b, fun H2 s2 => .inl ⟨_, rfl, by rw [sz_eq]; omega, _, rfl, by rw [Str.empty_append, Str.length_append, Str.length_append, e, sz_eq]; omega, ?_⟩⟩⟩
    rw [Str.empty_append]
    exact q _ (s1.trans s2)
/-- a list of texts, whose lines are joined -/
theorem lines_join {d : Int} {rs : List (Sh × Int)} (hd : d.natAbs < 10 ^ 20) (hr : ∀ e ∈ rs, Sh64 e.1 ∧ e.2.natAbs < 10 ^ 64) (hn : rs.length ≤ 1000) :
    ∀ y ∈ ((Str.ofString "root " ++ decT d) :: rs.map fun e => rowT e.1 e.2), y.length ≤ 400 := by
  intro y hy
  rcases List.mem_cons.mp hy with rfl | hy
  · have e : (Str.ofString "root ").length = 5 := by decide +kernel
    have := (text_len (n := d) (by omega)).2
    rw [Str.length_append, e]
    omega
  · obtain ⟨e, he, rfl⟩ := List.mem_map.mp hy
    exact row_len (hr e he).1 (hr e he).2
theorem sum_bd {B : Nat} : ∀ {ys : List Str}, (∀ y ∈ ys, y.length ≤ B) → (ys.map (·.length)).sum ≤ B * ys.length
  | [], _ => Nat.zero_le _
  | y :: ys, h => by
    have h1 := h y List.mem_cons_self
    have h2 := sum_bd fun z hz => h z (List.mem_cons_of_mem _ hz)
    rw [List.map_cons, List.sum_cons, List.length_cons, Nat.mul_succ]
    omega
def spHeapT (P : Program) (w : World) (C : Addr) : Sp := fun vs H Q _ => ∃ (p : Addr) (d : Int) (es : DEs), vs = [.ref p] ∧ HeapAt P w C H p d es ∧ EsT es ∧ es.length ≤ 1000 ∧ d.natAbs < 10 ^ 20 ∧ ∀ H', Same H H' → Q (.str (heapT d (rowsE es))) H'
theorem ok_heap_text (T : Txt K mg) : FnOk P w K mg base CX0 6 T.f_heap_text T.d_heap_text ["heap"] (spHeapT P w T.C_Heap) := by
  refine T.F_heap_text.ok sc_heap_text (fun vs H Q E h => ?_) (fun cdv A outer s H vs Q E hr h => ?_)
  · obtain ⟨p, d, es, rfl, _⟩ := h
    rfl
  · obtain ⟨p, d, es, rfl, hA, hE, hn, hd, q⟩ := h
    refine ⟨_, (pss_cons (ps_set (i := 1) sc_heap_text.nd rfl (Or.inl rfl) (pe_op op_cat (pe_lst (pa_cons (pe_joined (.cons pe_str (.cons (pe_fmt (pe_prop (pv 0) T.cl_Heap T.pr_Heap_root (ok_Heap_root T) (hr.mono (by decide)) T.b_Heap_root .nil pass0 rfl)) .nil))) pa_nil)) (pe_lc (own := [("row", 2)]) (g := (gName 2)) (tt := tYes) (te := tCall spRowT [] E0 (tCons (tVar 2) tNil)) (by rfl) sc_heap_text.nd (pi_list (pe_meth0 (pv 0) T.cl_Heap T.m_Heap_rows (ok_Heap_rows T) (hr.mono (by decide)) T.b_Heap_rows .nil pass0)) (blkOk_by (own := [("row", 2)]) (N := ["heap", "lines", "row", "line"]) (sc := defScope s_heap_text) (by decide +kernel)) (fun _ _ _ _ _ => (pg_name (i := 2) sc_heap_text.nd rfl (Or.inl rfl))) (fun _ _ _ _ _ => pts_nil) (fun _ _ _ _ _ => (pe_call (ok_row_text T) (hr.mono (by decide)) (by rfl) T.g_row_text T.F_row_text.kp T.b_row_text .nil pass0 (pa_cons (pv 2) pa_nil))))))
      (pss_one (ps_ret (pe_join pe_str (pe_lc (own := [("line", 3)]) (g := (gName 3)) (tt := tYes) (te := fun σ H Q => tJs [tFmt (tVar 3), tC (.str (Str.ofString "\n"))] Str.empty σ H fun out H1 => Q (.str out) H1) (by rfl) sc_heap_text.nd (pi_list (pv 1)) (blkOk_by (own := [("line", 3)]) (N := ["heap", "lines", "row", "line"]) (sc := defScope s_heap_text) (by decide +kernel)) (fun _ _ _ _ _ => (pg_name (i := 3) sc_heap_text.nd rfl (Or.inl rfl))) (fun _ _ _ _ _ => pts_nil) (fun _ _ _ _ _ => (pe_joined (.cons (pe_fmt (pv 3)) (.cons pe_str .nil))))))))), ?_⟩
    obtain ⟨dx, c, hp, D⟩ := id hA
    have ld := (text_len (n := d) (by omega)).2
    have e5 : (Str.ofString "root ").length = 5 := by decide +kernel
    have e1 : (Str.ofString "\n").length = 1 := by decide +kernel
    refine ⟨_, rfl, by rw [Str.empty_append, e5, sz_eq]; omega, _, rfl, p, dx, _, rfl, hp, p, d, es, rfl, hA, .inr ⟨d, rfl, (text_len (n := d) (by omega)).1, _, rfl, by rw [Str.empty_append, Str.length_append, e5, sz_eq]; show 5 + (decT d).length ≤ _; omega, by show 1 ≤ sizeLine; decide, fun l0 n0 => ?_⟩⟩
    rw [Str.empty_append]
    have s0 := same_new (o := .lst [.str (Str.ofString "root " ++ decT d)]) n0
    refine ⟨_, rfl, p, dx, _, rfl, s0 _ _ hp, rfl, p, d, es, rfl, hA.same s0, fun l as H1 n1 s1 hl hR => ⟨l, rfl, ⟨_, SqL.of hl⟩, fun D1 nD1 => ?_⟩⟩
    refine lc_list (K := K) (a := l) (xs := as.map V.ref) (fun i G => Same H1 G ∧ G D1 = some (.lst (((es.take i).map fun e => rowT e.1 e.2.2).map V.str))) ⟨same_new nD1, upd_same⟩ (fun i G _ z => SqL.of (z.1 _ _ hl)) ?_ ?_
    · rintro i x G hx ⟨sG, hG⟩
      obtain ⟨a, e, rfl, he, ha⟩ := hR.row hx
      have me := List.mem_of_getElem? he
      have hs := (D.ks e me).same ((s0.trans s1).trans sG)
      refine ⟨rfl, _, rfl, a, e.2.1, e.1, e.2.2, rfl, sG _ _ ha, hs, (hE e me).1, (hE e me).2, fun G2 s2 => ⟨_, s2 _ _ hG, ?_, fun a' o z => (upd_ne (ne_of_none z nD1)).trans (s2 _ _ (sG _ _ z)), ?_⟩⟩
      · rw [List.length_map, List.length_map, List.length_take]
        exact small1000 (by omega)
      · rw [upd_same, List.take_add_one, he, List.map_append, List.map_append]
        rfl
    rintro G ⟨sG, hG⟩
    rw [List.length_map, hR.len, List.take_length] at hG
    have hl0 : G l0 = some (.lst [.str (Str.ofString "root " ++ decT d)]) := sG _ _ (s1 _ _ upd_same)
    refine ⟨l0, D1, _, _, rfl, rfl, hl0, hG, ?_, fun l2 n2 => ?_⟩
    · rw [List.length_map, List.length_map, sz_eq]
      show 1 + es.length ≤ _
      omega
    have s2 := same_new (o := .lst ([V.str (Str.ofString "root " ++ decT d)] ++ (es.map fun e => rowT e.1 e.2.2).map V.str)) n2
    have sAll : Same H (upd G l2 (.lst ([V.str (Str.ofString "root " ++ decT d)] ++ (es.map fun e => rowT e.1 e.2.2).map V.str))) := s0.trans (s1.trans (sG.trans s2))
    have hl2 : upd G l2 (.lst ([V.str (Str.ofString "root " ++ decT d)] ++ (es.map fun e => rowT e.1 e.2.2).map V.str)) l2 = some (.lst (((Str.ofString "root " ++ decT d) :: (rowsE es).map fun e => rowT e.1 e.2).map V.str)) := by
      have e : (rowsE es).map (fun e => rowT e.1 e.2) = es.map fun e => rowT e.1 e.2.2 := by
        unfold rowsE
        rw [List.map_map]
        rfl
      rw [upd_same, e]
      rfl
    have lb := lines_join (rs := rowsE es) hd (fun e he => by
      obtain ⟨f, hf, rfl⟩ := List.mem_map.mp he
      exact hE f hf) (by unfold rowsE; rw [List.length_map]; exact hn)
    have ln : ((Str.ofString "root " ++ decT d) :: (rowsE es).map fun e => rowT e.1 e.2).length ≤ 1001 := by
      rw [List.length_cons, List.length_map]
      unfold rowsE
      rw [List.length_map]
      omega
    have fin := fun H' (z : Same H H') => q H' z
    unfold heapT at fin
    generalize ((Str.ofString "root " ++ decT d) :: (rowsE es).map fun e => rowT e.1 e.2) = ls at hl2 lb ln fin
    generalize upd G l2 (.lst ([V.str (Str.ofString "root " ++ decT d)] ++ (es.map fun e => rowT e.1 e.2.2).map V.str)) = H2 at hl2 sAll ⊢
    refine ⟨⟨_, rfl⟩, _, rfl, l2, rfl, ⟨_, SqL.of hl2⟩, fun D2 nD2 => ?_⟩
    refine lc_list (K := K) (a := l2) (te := fun σ H Q => tJs [tFmt (tVar 3), tC (.str (Str.ofString "\n"))] Str.empty σ H fun out H1 => Q (.str out) H1) (xs := ls.map V.str) (fun i G => Same H2 G ∧ G D2 = some (.lst (((ls.take i).map fun l => l ++ Str.ofString "\n").map V.str))) ⟨same_new nD2, upd_same⟩ (fun i G _ z => SqL.of (z.1 _ _ hl2)) ?_ ?_
    · rintro i x G hx ⟨sG, hG⟩
      rw [List.getElem?_map] at hx
      cases hz : ls[i]? with
      | none =>
        rw [hz] at hx
        cases hx
      | some z =>
        rw [hz] at hx
        cases hx
        have lz := lb z (List.mem_of_getElem? hz)
        refine ⟨rfl, _, rfl, .inl ⟨_, rfl, by rw [sz_eq]; omega, _, rfl, by rw [Str.empty_append, sz_eq]; omega, _, rfl, by rw [Str.empty_append, Str.length_append, e1, sz_eq]; omega, _, hG, ?_, fun a' o zz => (upd_ne (ne_of_none zz nD2)).trans (sG _ _ zz), ?_⟩⟩
        · rw [List.length_map, List.length_map, List.length_take]
          have := (List.getElem?_eq_some_iff.mp hz).1
          rw [sz_eq]
          omega
        · rw [Str.empty_append, upd_same, List.take_add_one, hz, List.map_append, List.map_append]
          rfl
    rintro G3 ⟨sG3, hG3⟩
    rw [List.length_map, List.take_length] at hG3
    refine ⟨_, D2, ls.map fun l => l ++ Str.ofString "\n", rfl, rfl, .inl (SqL.of hG3), ?_, fin _ (sAll.trans sG3)⟩
    have l2' : ∀ y ∈ ls.map (fun l => l ++ Str.ofString "\n"), y.length ≤ 401 := by
      intro y hy
      obtain ⟨z, hz, rfl⟩ := List.mem_map.mp hy
      have := lb z hz
      rw [Str.length_append, e1]
      omega
    have sb := sum_bd l2'
    rw [List.length_map] at sb
    rw [show (Str.ofString "").length = 0 by decide +kernel]
    omega
end
section
variable {base : Heap} {K : PySem.W.Frag} {mg : Str → Option Value} {P : Program} {w : World}
theorem ok_lsheet_text (T : Txt K mg) : FnOk P w K mg base CX0 2 T.f_lsheet_text T.d_lsheet_text ["_law_sheet"] spSheetT := by
  refine T.F_lsheet_text.ok sc_lsheet_text (fun vs H Q E h => ?_) (fun cdv A outer s H vs Q E hr h => ?_)
  · obtain ⟨p, x, rfl, _⟩ := h
    rfl
  · obtain ⟨p, x, rfl, ⟨u, v, hp, hu, hv⟩, ⟨b1, b2, b3, b4⟩, q⟩ := h
    refine ⟨_, (pss_one (ps_ret (pe_op op_add_str (pe_op op_add_str (pe_call (ok_lpair_text T) (hr.mono (by decide)) (by rfl) T.g_lpair_text T.F_lpair_text.kp T.b_lpair_text .nil pass0 (pa_cons (pe_ix ix_tup (pv 0) pe_int (fun _ _ => rfl)) pa_nil)) pe_str) (pe_call (ok_lpair_text T) (hr.mono (by decide)) (by rfl) T.g_lpair_text T.F_lpair_text.kp T.b_lpair_text .nil pass0 (pa_cons (pe_ix ix_tup (pv 0) pe_int (fun _ _ => rfl)) pa_nil))))), ?_⟩
    have p1 := pair_len b1 b2
    have p2 := pair_len b3 b4
    have e : (Str.ofString " x ").length = 3 := by decide +kernel
    refine ⟨_, rfl, p, _, 0, .ref u, rfl, rfl, SqT.of hp, atI_nat (j := 0) rfl, u, x.1, x.2.1, rfl, SqT.of hu, b1, b2, fun H1 s1 => ⟨_, _, rfl, rfl, by rw [e, sz_eq]; omega, _, rfl, p, _, 1, .ref v, rfl, rfl, SqT.of (s1 _ _ hp), atI_nat (j := 1) rfl, v, x.2.2.1, x.2.2.2, rfl, SqT.of (s1 _ _ hv), b3, b4, fun H2 s2 => ⟨_, _, rfl, rfl, by rw [Str.length_append, e, sz_eq]; omega, q _ (s1.trans s2)⟩⟩⟩
def spLHeapT (P : Program) (w : World) : Sp := fun vs H Q _ => ∃ (c : Addr) (d : Int) (es : DEs), vs = [.int d, .ref c] ∧ DAt P w H c es ∧ (keysD es).Nodup ∧ EsT es ∧ es.length ≤ 1000 ∧ d.natAbs < 10 ^ 20 ∧ ∀ H', Same H H' → Q (.str (heapT d (rowsE (sortE es)))) H'
theorem ok_lheap_text (T : Txt K mg) : FnOk P w K mg base CX0 3 T.f_lheap_text T.d_lheap_text ["_law_root", "_law_stock"] (spLHeapT P w) := by
  refine T.F_lheap_text.ok sc_lheap_text (fun vs H Q E h => ?_) (fun cdv A outer s H vs Q E hr h => ?_)
  · obtain ⟨c, d, es, rfl, _⟩ := h
    rfl
  · obtain ⟨c, d, es, rfl, D, nd, hE, hn, hd, q⟩ := h
    refine ⟨_, (pss_cons (ps_set (i := 2) sc_lheap_text.nd rfl (Or.inl rfl) (pe_op op_cat (pe_lst (pa_cons (pe_op op_add_str pe_str (pe_callTy call_str_int (by rfl) T.n_str (by decide +kernel) (pa_cons (pv 0) pa_nil))) pa_nil)) (pe_lc (own := [("_law_sheet", 4), ("_law_count", 5)]) (g := (gTup K 2 (gCons (gName 4) (gCons (gName 5) gNil)))) (tt := tYes) (te := tOp rCS (tOp rCS (tCB rStrI (tCons (tVar 5) tNil)) (tC (.str " "))) (tCall spSheetT [] E0 (tCons (tVar 4) tNil))) (by rfl) sc_lheap_text.nd (pi_list (pe_call (ok_listed T) (hr.mono (by decide)) (by rfl) T.g_listed T.F_listed.kp T.b_listed .nil pass0 (pa_cons (pv 1) pa_nil))) (blkOk_by (own := [("_law_sheet", 4), ("_law_count", 5)]) (N := ["_law_root", "_law_stock", "_law_lines", "_law_line", "_law_sheet", "_law_count"]) (sc := defScope s_lheap_text) (by decide +kernel)) (fun _ _ _ _ _ => (pg_tup (by rfl) (pgs_cons (pg_name (i := 4) sc_lheap_text.nd rfl (Or.inl rfl)) (pgs_cons (pg_name (i := 5) sc_lheap_text.nd rfl (Or.inl rfl)) pgs_nil)))) (fun _ _ _ _ _ => pts_nil) (fun _ _ _ _ _ => (pe_op op_add_str (pe_op op_add_str (pe_callTy call_str_int (by rfl) T.n_str (by decide +kernel) (pa_cons (pv 5) pa_nil)) pe_str) (pe_call (ok_lsheet_text T) (hr.mono (by decide)) (by rfl) T.g_lsheet_text T.F_lsheet_text.kp T.b_lsheet_text .nil pass0 (pa_cons (pv 4) pa_nil)))))))
      (pss_one (ps_ret (pe_join pe_str (pe_lc (own := [("_law_line", 3)]) (g := (gName 3)) (tt := tYes) (by rfl) sc_lheap_text.nd (pi_list (pv 2)) (blkOk_by (own := [("_law_line", 3)]) (N := ["_law_root", "_law_stock", "_law_lines", "_law_line", "_law_sheet", "_law_count"]) (sc := defScope s_lheap_text) (by decide +kernel)) (fun _ _ _ _ _ => (pg_name (i := 3) sc_lheap_text.nd rfl (Or.inl rfl))) (fun _ _ _ _ _ => pts_nil) (fun _ _ _ _ _ => (pe_op op_add_str (pv 3) pe_str))))))), ?_⟩
    have ld := (text_len (n := d) (by omega)).2
    have e5 : (Str.ofString "root ").length = 5 := by decide +kernel
    have e1 : (Str.ofString "\n").length = 1 := by decide +kernel
    have eb : (Str.ofString " ").length = 1 := by decide +kernel
    have perm := sortE_perm nd
    have hE' : EsT (sortE es) := fun e he => hE e (perm.mem_iff.mp he)
    have hn' : (sortE es).length ≤ 1000 := by rw [perm.length_eq]; exact hn
    refine ⟨_, rfl, d, rfl, (text_len (n := d) (by omega)).1, _, _, rfl, rfl, by rw [e5, sz_eq]; show 5 + (decT d).length ≤ _; omega, by show 1 ≤ sizeLine; decide, fun l0 n0 => ?_⟩
    have s0 := same_new (o := .lst [.str (Str.ofString "root " ++ decT d)]) n0
    refine ⟨_, rfl, c, es, rfl, D.same s0, nd, hn, fun l H1 n1 s1 R => ?_⟩
    obtain ⟨as, hl, hR, hK⟩ := R
    generalize sortE es = fs at hE' hn' q hR hK
    clear perm hE hn
    refine ⟨l, rfl, ⟨_, SqL.of hl⟩, fun D1 nD1 => ?_⟩
    refine lc_list (K := K) (a := l) (te := tOp rCS (tOp rCS (tCB rStrI (tCons (tVar 5) tNil)) (tC (.str " "))) (tCall spSheetT [] E0 (tCons (tVar 4) tNil))) (xs := as.map V.ref) (fun i G => Same H1 G ∧ G D1 = some (.lst (((fs.take i).map fun e => rowT e.1 e.2.2).map V.str))) ⟨same_new nD1, upd_same⟩ (fun i G _ z => SqL.of (z.1 _ _ hl)) ?_ ?_
    · rintro i x G hx ⟨sG, hG⟩
      obtain ⟨a, e, rfl, he, ha⟩ := hR.row hx
      have me := List.mem_of_getElem? he
      obtain ⟨hb, hnb⟩ := hE' e me
      have tl := text_len hnb
      refine ⟨a, _, rfl, SqT.of (sG _ _ ha), rfl, .ref e.2.1, _, rfl, .int e.2.2, _, rfl, rfl, rfl, ?_⟩
      refine ⟨_, rfl, e.2.2, rfl, tl.1, _, _, rfl, rfl, by rw [eb, sz_eq]; show (decT e.2.2).length + 1 ≤ _; omega, _, rfl, e.2.1, e.1, rfl, (hK e me).same sG, hb, fun G2 s2 => ⟨_, _, rfl, rfl, ?_, _, s2 _ _ hG, ?_, fun a' o z => (upd_ne (ne_of_none z nD1)).trans (s2 _ _ (sG _ _ z)), ?_⟩⟩
      · have := sheet_len hb
        rw [Str.length_append, eb, sz_eq]
        show (decT e.2.2).length + 1 + _ ≤ _
        omega
      · rw [List.length_map, List.length_map, List.length_take]
        exact small1000 (by omega)
      · rw [upd_same, List.take_add_one, he, List.map_append, List.map_append]
        rfl
    rintro G ⟨sG, hG⟩
    rw [List.length_map, hR.len, List.take_length] at hG
    have hl0 : G l0 = some (.lst [.str (Str.ofString "root " ++ decT d)]) := sG _ _ (s1 _ _ upd_same)
    refine ⟨l0, D1, _, _, rfl, rfl, hl0, hG, ?_, fun l2 n2 => ?_⟩
    · rw [List.length_map, List.length_map, sz_eq]
      show 1 + fs.length ≤ _
      omega
    have s2 := same_new (o := .lst ([V.str (Str.ofString "root " ++ decT d)] ++ (fs.map fun e => rowT e.1 e.2.2).map V.str)) n2
    have sAll : Same H (upd G l2 (.lst ([V.str (Str.ofString "root " ++ decT d)] ++ (fs.map fun e => rowT e.1 e.2.2).map V.str))) := s0.trans (s1.trans (sG.trans s2))
    have hl2 : upd G l2 (.lst ([V.str (Str.ofString "root " ++ decT d)] ++ (fs.map fun e => rowT e.1 e.2.2).map V.str)) l2 = some (.lst (((Str.ofString "root " ++ decT d) :: (rowsE fs).map fun e => rowT e.1 e.2).map V.str)) := by
      have e : (rowsE fs).map (fun e => rowT e.1 e.2) = fs.map fun e => rowT e.1 e.2.2 := by
        unfold rowsE
        rw [List.map_map]
        rfl
      rw [upd_same, e]
      rfl
    have lb := lines_join (rs := rowsE fs) hd (fun e he => by
      obtain ⟨f, hf, rfl⟩ := List.mem_map.mp he
      exact hE' f hf) (by unfold rowsE; rw [List.length_map]; exact hn')
    have ln : ((Str.ofString "root " ++ decT d) :: (rowsE fs).map fun e => rowT e.1 e.2).length ≤ 1001 := by
      rw [List.length_cons, List.length_map]
      unfold rowsE
      rw [List.length_map]
      omega
    have fin := fun H' (z : Same H H') => q H' z
    unfold heapT at fin
    generalize ((Str.ofString "root " ++ decT d) :: (rowsE fs).map fun e => rowT e.1 e.2) = ls at hl2 lb ln fin
    generalize upd G l2 (.lst ([V.str (Str.ofString "root " ++ decT d)] ++ (fs.map fun e => rowT e.1 e.2.2).map V.str)) = H2 at hl2 sAll ⊢
    refine ⟨⟨_, rfl⟩, _, rfl, l2, rfl, ⟨_, SqL.of hl2⟩, fun D2 nD2 => ?_⟩
    refine lc_list (K := K) (a := l2) (xs := ls.map V.str) (fun i G => Same H2 G ∧ G D2 = some (.lst (((ls.take i).map fun l => l ++ Str.ofString "\n").map V.str))) ⟨same_new nD2, upd_same⟩ (fun i G _ z => SqL.of (z.1 _ _ hl2)) ?_ ?_
    · rintro i x G hx ⟨sG, hG⟩
      rw [List.getElem?_map] at hx
      cases hz : ls[i]? with
      | none =>
        rw [hz] at hx
        cases hx
      | some z =>
        rw [hz] at hx
        cases hx
        have lz := lb z (List.mem_of_getElem? hz)
        refine ⟨rfl, _, rfl, _, _, rfl, rfl, by rw [e1, sz_eq]; omega, _, hG, ?_, fun a' o zz => (upd_ne (ne_of_none zz nD2)).trans (sG _ _ zz), ?_⟩
        · rw [List.length_map, List.length_map, List.length_take]
          have := (List.getElem?_eq_some_iff.mp hz).1
          rw [sz_eq]
          omega
        · rw [upd_same, List.take_add_one, hz, List.map_append, List.map_append]
          rfl
    rintro G3 ⟨sG3, hG3⟩
    rw [List.length_map, List.take_length] at hG3
    refine ⟨_, D2, ls.map fun l => l ++ Str.ofString "\n", rfl, rfl, .inl (SqL.of hG3), ?_, fin _ (sAll.trans sG3)⟩
    have l2' : ∀ y ∈ ls.map (fun l => l ++ Str.ofString "\n"), y.length ≤ 401 := by
      intro y hy
      obtain ⟨z, hz, rfl⟩ := List.mem_map.mp hy
      have := lb z hz
      rw [Str.length_append, e1]
      omega
    have sb := sum_bd l2'
    rw [List.length_map] at sb
    rw [show (Str.ofString "").length = 0 by decide +kernel]
    omega
end
/-! ### whether a heap is the one that is due, the sheets at other places -/
section
variable {base : Heap} {K : PySem.W.Frag} {mg : Str → Option Value} {w : World}
theorem LkAll.rows2 {H : Hp} {n : Nat} : ∀ {as bs : List Addr} {es fs : DEs}, RowsAt H as es → RowsAt H bs fs → (∀ e ∈ es, ShAt H e.2.1 e.1) → (∀ e ∈ fs, ShAt H e.2.1 e.1) → rowsE es = rowsE fs → LkAll H (n + 3) (as.map V.ref) (bs.map V.ref)
  | _, _, _, _, .nil, .nil, _, _, _ => .nil
  | _, _, _, _, .nil, .cons _ _, _, _, e => by cases e
  | _, _, _, _, .cons _ _, .nil, _, _, e => by cases e
  | _, _, _, _, .cons r t, .cons r' t', k, k', e => by
    obtain ⟨e1, e2⟩ := List.cons.inj e
    obtain ⟨ex, en⟩ := Prod.mk.inj e1
    obtain ⟨u, v, h1, h2, h3⟩ := k _ List.mem_cons_self
    obtain ⟨u', v', g1, g2, g3⟩ := k' _ List.mem_cons_self
    rw [ex] at h2 h3
    refine .cons (Lk.tups r r' (by simp) (.cons (Lk.tups h1 g1 (by simp) (.cons (Lk.pair h2 g2 rfl rfl) (.cons (Lk.pair h3 g3 rfl rfl) .nil))) (.cons (Lk.int en) .nil))) (LkAll.rows2 t t' (fun e he => k e (List.mem_cons_of_mem _ he)) (fun e he => k' e (List.mem_cons_of_mem _ he)) e2)
def spIsHeap (T : Txt K mg) (w : World) : Sp := fun vs H Q _ => ∃ (p c : Addr) (d : Int) (es fs : DEs), vs = [.ref p, .int d, .ref c] ∧ HeapAt PySem.Challenge.pw_grainyard_k65_texts_of_heaps w T.C_Heap H p d es ∧ DAt PySem.Challenge.pw_grainyard_k65_texts_of_heaps w H c fs ∧ (keysD fs).Nodup ∧ fs.length ≤ 1000 ∧ rowsE es = rowsE (sortE fs) ∧ ∀ H', Same H H' → Q (.bl true) H'
theorem ok_is_heap (T : Txt K mg) : FnOk PySem.Challenge.pw_grainyard_k65_texts_of_heaps w K mg base CX0 7 T.f_is_heap T.d_is_heap ["_law_heap_z", "_law_root", "_law_stock"] (spIsHeap T w) := by
  refine T.F_is_heap.ok sc_is_heap (fun vs H Q E h => ?_) (fun cdv A outer s H vs Q E hr h => ?_)
  · obtain ⟨p, c, d, es, fs, rfl, _⟩ := h
    rfl
  · obtain ⟨p, c, d, es, fs, rfl, hA, D, nd, hn, ee, q⟩ := h
    refine ⟨_, (pss_one (ps_ret (pe_and (pe_callB call_isi (by rfl) T.n_isinstance (by decide +kernel) (pa_cons (pv 0) (pa_cons (pe_glob (v := .ref T.C_Heap) (by rfl) T.g_Heap rfl) pa_nil))) (pe_one (pe_call (ok_like T) (hr.mono (by decide)) (by rfl) T.g_like T.F_like.kp T.b_like .nil pass0 (pa_cons (pe_lst (pa_cons (pe_prop (pv 0) T.cl_Heap T.pr_Heap_root (ok_Heap_root T) (hr.mono (by decide)) T.b_Heap_root .nil pass0 rfl) (pa_cons (pe_meth0 (pv 0) T.cl_Heap T.m_Heap_rows (ok_Heap_rows T) (hr.mono (by decide)) T.b_Heap_rows .nil pass0) pa_nil))) (pa_cons (pe_lst (pa_cons (pv 1) (pa_cons (pe_call (ok_listed T) (hr.mono (by decide)) (by rfl) T.g_listed T.F_listed.kp T.b_listed .nil pass0 (pa_cons (pv 2) pa_nil)) pa_nil))) pa_nil))))))), ?_⟩
    obtain ⟨dx, cc, hp, DA⟩ := id hA
    refine ⟨_, rfl, .ref p, .ref T.C_Heap, .ref T.C_Heap, .ref T.C_Heap, true, rfl, ClsV.own _, TyX.base (TyOf.ins hp T.cl_Heap T.ca_Heap T.hn T.ht T.mo_Heap), by simp [PySem.W.kitOne], true, rfl, iteT ?_⟩
    refine ⟨_, rfl, p, dx, _, rfl, hp, p, d, _, rfl, hA, _, rfl, p, dx, _, rfl, hp, rfl, p, d, _, rfl, hA, fun l as H1 hl s1 h1 R1 => ⟨by show 2 ≤ sizeLine; decide, fun l1 n1 => ?_⟩⟩
    have e1 := same_new (o := .lst [.int d, .ref l]) n1
    refine ⟨_, rfl, _, rfl, c, fs, rfl, (D.same s1).same e1, nd, hn, fun l2 H2 hl2 s2 R2 => ⟨by show 2 ≤ sizeLine; decide, fun l3 n3 => ?_⟩⟩
    have e3 := same_new (o := .lst [.int d, .ref l2]) n3
    have ln : es.length ≤ 1000 := by
      have e := congrArg List.length ee
      unfold rowsE at e
      rw [List.length_map, List.length_map, (sortE_perm nd).length_eq] at e
      omega
    have s23 := s2.trans e3
    have L1 : RowsL H1 l es := ⟨as, h1, R1, fun e he => (DA.ks e he).same s1⟩
    obtain ⟨as1, g1, g2, g3⟩ := (L1.same e1).same s23
    obtain ⟨as2, k1, k2, k3⟩ := R2.same e3
    refine ⟨_, _, rfl, Lk.lists (s23 _ _ upd_same) upd_same (by simp) (.cons (Lk.int rfl) (.cons (Lk.lists g1 k1 (by rw [List.length_map, g2.len]; exact ln) (LkAll.rows2 g2 k2 g3 k3 ee)) .nil)), fun H' s' => q _ ((s1.trans e1).trans (s23.trans s'))⟩
end
/-! ### enumerate of a list from another number than 0 -/
/-- the list at a, each item in a new pair with a count from k on -/
def ItF (K : PySem.W.Frag) (a : Addr) (k : Int) : It where
  go := fun i H => ∃ xs : List V, SqL K H a xs ∧ i < xs.length
  yld := fun i H v H' => ∃ T x, v = .ref T ∧ H T = none ∧ H' = upd H T (.tup [.int (k + (i : Int)), x]) ∧ ∀ xs, SqL K H a xs → xs[i]? = some x
  stop := fun i H => ∃ xs : List V, SqL K H a xs ∧ xs.length = i
section
variable {X : Cx}
theorem turnF {P : Program} {w : World} {K : PySem.W.Frag} {elts : List Expr} {kk : Nat} {tpos : Pos} {a e it : Addr} {k : Int} (ne : e ≠ it) (na : a ≠ it) (nb : a ≠ e) :
    Turn P w K (.Tuple elts kk tpos) (ItF K a k) [e, it] e (fun i h => (∃ old, IsEnum h e it (k + (i : Int)) old) ∧ h.IsListIter it a i) where
  mem := by simp
  obj := by
    rintro i h ⟨⟨old, he⟩, oi, h1, _, h3⟩ b hb
    simp only [List.mem_cons, List.not_mem_nil, or_false] at hb
    rcases hb with rfl | rfl
    · exact ⟨_, he, fun _ z => nomatch z⟩
    · exact ⟨oi, h1, fun _ z => by rw [h3] at z; cases z⟩
  keep := fun i h h' st kp => ⟨⟨st.1.choose, kp e (by simp) _ st.1.choose_spec⟩, st.2.at fun o z => kp it (by simp) o z⟩
  self := fun A i s Q E st q => wpAny_pyIter_enum st.1.choose_spec q
  item := by
    intro Y hP hw hK hc i pins s σ H E I hf st go
    subst hP hw hK
    obtain ⟨⟨old, he⟩, hi⟩ := st
    obtain ⟨xs, sq, lt⟩ := go
    obtain ⟨its, rv, tp, _⟩ := I.list sq
    have hx : xs[i]? = some xs[i] := List.getElem?_eq_getElem lt
    obtain ⟨u, hu, ru⟩ := rv.get hx
    have lt' : i < its.toArray.size := by
      rw [List.size_toArray, ← rv.length]
      exact lt
    refine wpAny_pyNext_enum_itemC (Draws.list (A := Y.A.in1) (I.ok.hd hc) it a na its.toArray) he ⟨hi, tp.isList⟩ lt' ne (by simp [ne, nb.symm]) ?_
    intro y h' tk hy out st' hT hsz hk
    have uy : u = y := by
      have e1 : its.toArray[i]? = some u := by simpa using hu
      rw [hy] at e1
      exact (Option.some.inj e1).symm
    subst uy
    refine ⟨_, rfl, wpAny_letOwnedTupleGo_enum (s := { s with heap := h', toks := tk + 1 }) out fun h2 he2 sb => ?_⟩
    have low : e < s.heap.objs.size := Heap.lt_size he
    have low2 : it < s.heap.objs.size := let ⟨_, z, _⟩ := hi; Heap.lt_size z
    have tup2 : h2.get? s.heap.objs.size = some { cls := .type "tuple", data := .seq #[.int (k + (i : Int)) tk, u] } := (sb.2 _ (Nat.ne_of_gt low)).trans hT
    have stay : ∀ b ob, b ∉ [e, it] → s.heap.get? b = some ob → h2.get? b = some ob := fun b ob hb z => by
      simp only [List.mem_cons, List.not_mem_nil, or_false, not_or] at hb
      exact (sb.2 b hb.1).trans (hk b ob hb.1 hb.2 z)
    refine ⟨.ref s.heap.objs.size, upd H s.heap.objs.size (.tup [.int (k + (i : Int)), xs[i]]), I.turnedNew stay hf (Nat.le_refl _) ⟨by show 2 ≤ sizeLine; decide, _, .cons ⟨_, rfl⟩ (.cons ru .nil), ⟨_, tup2, rfl, _, rfl⟩⟩, rfl,
      ⟨_, _, rfl, I.hok.fresh (Nat.le_refl _), rfl, fun ys hys => by rw [I.list_inj hys sq]; exact hx⟩, ⟨⟨u, ?_⟩, st'.1.at fun o z => (sb.2 it ne.symm).trans z⟩, fun b hb => ?_⟩
    · rw [show k + ((i + 1 : Nat) : Int) = k + (i : Int) + 1 by omega]
      exact he2
    · have lb : b < s.heap.objs.size := by
        simp only [List.mem_cons, List.not_mem_nil, or_false] at hb
        rcases hb with rfl | rfl
        · exact low
        · exact low2
      rw [upd_ne (Nat.ne_of_lt lb)]
      exact (hf b hb).1
  done := by
    intro Y hP hw hK hc i pins s σ H E I hf st stop
    subst hP hw hK
    obtain ⟨⟨old, he⟩, hi⟩ := st
    obtain ⟨xs, sq, hx⟩ := stop
    obtain ⟨its, rv, tp, _⟩ := I.list sq
    obtain ⟨f0, f1, _, f3, f4, f5⟩ := hf it (by simp)
    have here : its.toArray.size = i := by
      rw [List.size_toArray, ← rv.length]
      exact hx
    exact wpAny_pyNext_enum_endD (Draws.list (A := Y.A.in1) (I.ok.hd hc) it a na its.toArray) he ⟨by rw [here]; exact hi, tp.isList⟩ fun h' eb => ⟨rfl, I.turned (t' := s.toks) (fun b o hb z => eb b o hb z) f0 f1 f3 f4 f5⟩
def iEnumF (K : PySem.W.Frag) (ta : TA) (k : Int) : TI := fun σ H R => ta σ H fun vs G => ∃ a xs, vs = [.ref a] ∧ SqL K G a xs ∧ R (ItF K a k) G
/-- enumerate(xs, start=k) -/
theorem pi_enumF {e ke : Expr} {ta : TA} {k : Int} {p pos tpos kp : Pos} {elts : List Expr} {kk : Nat} (hg : Gl X "enumerate") (hm : X.mg "enumerate" = none) (ha : PA X [e] ta) (hk : PE X ke (tC (.int k))) (k0 : -(2 ^ 63) ≤ k) (k1 : k < 2 ^ 63)
    (hs : backTo pos (starEach [e] X.env) = (false, eval e X.env) :: backTo pos (starEach [] X.env) := by rfl) (hpl : (backTo pos (starEach [e] X.env)).any (·.1) = false := by rfl) (hall : (backToKw pos (keywordEach [⟨some "start", ke, kp⟩] X.env)).all (·.1.isSome) = true := by rfl)
    (hkw : (backToKw pos (keywordEach [⟨some "start", ke, kp⟩] X.env)).any (·.1.isNone) = false := by rfl) :
    PI X (.Tuple elts kk tpos) (.Call (.Name "enumerate" p) [e] [⟨some "start", ke, kp⟩] pos) (iEnumF X.K ta k) := by
  refine ⟨fun pins s σ H R I h => wpAny_Call_Name_kw (ld_blt I hg hm boot_enumerate ?_)⟩
  have asked : wpAny (model X.prog X.w) X.A (spliced (backTo pos (starEach [e] X.env))) (fun vs s₁ => wpAny (model X.prog X.w) X.A (evalAll ((backToKw pos (keywordEach [⟨some "start", ke, kp⟩] X.env)).map (·.2)))
      (fun ks s₂ => ∃ (a : Addr) (t : Tok) (G : Hp) (xs : List V), vs = [.ref a] ∧ ks = [.int k t] ∧ Inv X pins σ G s₂ ∧ SqL X.K G a xs ∧ R (ItF X.K a k) G) X.xe s₁) X.xe s := by
    refine thn (ha.run pos pins s σ H _ I h) ?_
    rintro us s1 ⟨vs, G, I1, r, a, xs, rfl, sq, q⟩
    obtain ⟨u, rfl, ru⟩ := r.one
    cases ru
    refine PyProof.Rows.kws_cons (thn (hk.run pins s1 σ G (fun v G2 => v = .int k ∧ G2 = G) I1 ⟨rfl, rfl⟩) ?_)
    rintro v s2 ⟨v', G2, I2, rv, rfl, rfl⟩
    obtain ⟨t, rfl⟩ := rv
    exact PyProof.Rows.kws_nil ⟨a, t, _, xs, rfl, rfl, I2, sq, q⟩
  have ev : wpAny (model X.prog X.w) X.A (evalArgs (.type "enumerate") true (backTo pos (starEach [e] X.env)) (backToKw pos (keywordEach [⟨some "start", ke, kp⟩] X.env)))
      (fun args s₂ => ∃ (a : Addr) (t : Tok) (G : Hp) (xs : List V), args = ⟨[.ref a], [(Str.ofString "start", .int k t)]⟩ ∧ Inv X pins σ G s₂ ∧ SqL X.K G a xs ∧ R (ItF X.K a k) G) X.xe s := by
    rw [hs] at asked ⊢
    refine PyProof.Rows.evalArgs_kwB hall (wpAny_mono asked (fun vs s₁ z => wpAny_mono z (fun ks s₂ z => ?_) fun _ _ z => z) fun _ _ z => z)
    obtain ⟨a, t, G, xs, rfl, rfl, rest⟩ := z
    exact ⟨a, t, G, xs, rfl, rest⟩
  unfold callWith
  refine wpAny_bind (wpAny_holding (wpAny_mono ev (fun args s2 z => wpAny_bind (wpAny_standAt ?_)) fun _ _ z => z))
  obtain ⟨a, t, G, xs, rfl, I2, sq, q⟩ := z
  simp only [hpl, hkw, Bool.or_false]
  refine wpAny_bind (wpAny_pure (wpAny_bind ?_))
  obtain ⟨its, rv, tp, _⟩ := I2.list sq
  have la : a < s2.heap.objs.size := let ⟨_, z, _⟩ := tp.isList; Heap.lt_size z
  refine enum_begins_start (begins_list a its.toArray) tp.isList k0 k1 fun h' he hit hsz hkp => ?_
  refine wpAny_bind (wpAny_holding (wpAny_point (wpAny_pure (wpAny_pyIter_enum he ?_))))
  have I3 : Inv X pins σ G { s2 with heap := h' } := I2.kept (t' := s2.toks) hkp
  refine ⟨s2.heap.objs.size + 1, [s2.heap.objs.size + 1, s2.heap.objs.size], _, _, G, rfl, I3, turnF (Nat.succ_ne_self _) (Nat.ne_of_lt la) (Nat.ne_of_lt (Nat.lt_succ_of_lt la)), ⟨⟨.none, ?_⟩, ⟨_, hit, rfl, rfl⟩⟩, fun b hb => ?_, q⟩
  · rw [show k + ((0 : Nat) : Int) = k by omega]
    exact he
  · have le : s2.heap.objs.size ≤ b := by
      simp only [List.mem_cons, List.not_mem_nil, or_false] at hb
      rcases hb with rfl | rfl
      · exact Nat.le_succ _
      · exact Nat.le_refl _
    exact I2.fpOk le (I2.hok.fresh le)
end
/-- a for over it, where the list stays -/
theorem for_enumF {K : PySem.W.Frag} {a : Addr} {k : Int} {xs : List V} {g : TG} {tb : TS} {D : Ends} {σ : L2.St} {H : Hp} (Pv : Nat → L2.St → Hp → Prop) (h0 : Pv 0 σ H) (hl : ∀ i τ G, i ≤ xs.length → Pv i τ G → SqL K G a xs)
    (turn : ∀ i x τ G T, xs[i]? = some x → Pv i τ G → G T = none → g (.ref T) τ (upd G T (.tup [.int (k + (i : Int)), x])) fun τ2 G2 => tb { D with nx := Pv (i + 1), ct := Pv (i + 1), bk := D.nx } τ2 G2) (fin : ∀ τ G, Pv xs.length τ G → D.nx τ G) :
    ∃ W : Nat → Nat → L2.St → Hp → Prop, (∃ m, W 0 m σ H) ∧ ∀ i m τ G, W i m τ G → ((ItF K a k).stop i G ∧ D.nx τ G) ∨ ((ItF K a k).go i G ∧ ∃ N : L2.St → Hp → Prop, (∀ τ' G', N τ' G' → ∃ m', m' < m ∧ W (i + 1) m' τ' G') ∧
      ∀ x G', (ItF K a k).yld i G x G' → g x τ G' fun τ2 G2 => tb { D with nx := N, ct := N, bk := D.nx } τ2 G2) := by
  refine ⟨fun i m τ G => m = xs.length - i ∧ i ≤ xs.length ∧ Pv i τ G, ⟨_, rfl, Nat.zero_le _, h0⟩, ?_⟩
  rintro i m τ G ⟨rfl, hi, pv⟩
  have sq := hl i τ G hi pv
  by_cases lt : i < xs.length
  · refine .inr ⟨⟨xs, sq, lt⟩, Pv (i + 1), fun τ' G' z => ⟨_, by omega, rfl, lt, z⟩, ?_⟩
    rintro x G' ⟨T, y, rfl, hT, rfl, at_⟩
    exact turn i y τ G T (at_ xs sq) pv hT
  · obtain rfl : i = xs.length := by omega
    exact .inl ⟨⟨xs, sq, rfl⟩, fin τ G pv⟩
/-! ### *xs, y = a list -/
/-- all items but the last in a new list -/
def gStarL (K : PySem.W.Frag) (t : TGs) : TG := fun v σ H Q => ∃ a xs y, v = .ref a ∧ SqL K H a (xs ++ [y]) ∧ ∀ D, H D = none → t [.ref D, y] σ (upd H D (.lst xs)) Q
section
variable {X : Cx}
theorem pg_starL {tx ty : Expr} {sp pos : Pos} {k : Nat} {t : TGs} (hc : X.calm = true) (h : PGs X [tx, ty] t)
    (hs : (assignEach [.Starred tx sp, ty] X.env).map (·.2) = (assignEach [tx, ty] X.env).map (·.2) := by rfl) (hn : (assignEach [.Starred tx sp, ty] X.env).length = 2 := by rfl) (hst : (assignEach [.Starred tx sp, ty] X.env).findIdx? (·.1) = some 0 := by rfl) :
    PG X (.Tuple [.Starred tx sp, ty] k pos) (gStarL X.K t) := by
  refine ⟨fun pins s σ H v u Q I r hw => ?_⟩
  obtain ⟨a, xs, y, rfl, hq, hw⟩ := hw
  cases r
  obtain ⟨its, rv, pl, hz⟩ := I.list hq
  have lst := pl.isList
  have la : a < s.heap.objs.size := let ⟨_, z, _⟩ := lst; Heap.lt_size z
  have ne : a ≠ s.heap.objs.size := Nat.ne_of_lt la
  have len : its.toArray.size = xs.length + 1 := by
    rw [List.size_toArray, ← rv.length, List.length_append]
    rfl
  have fit : its.toArray.size ≤ sizeLine := by
    rw [List.size_toArray, ← rv.length]
    exact hz
  rw [PyProof.Rows.assign_Tuple]
  refine wpAny_bind (wpAny_standAt ?_)
  unfold unpack
  rw [hn, hst]
  refine wpAny_bind (wpAny_holding ?_)
  unfold unpackItems
  refine wpAny_bind ?_
  unfold notIterableAtAll
  refine wpAny_bind (wpAny_specialOf lst.typeIs PySem.slot_list_iter.lookup (wpAny_pure ?_))
  simp only [Bool.false_eq_true, if_false]
  refine wpAny_bind (wpAny_holding (wpAny_pyIter_list lst ?_))
  refine wpAny_bind (wpAny_holding (wpAny_pure ?_))
  rw [if_neg (show ¬ ([] : List Value).length < 0 from Nat.lt_irrefl 0)]
  have lst1 := lst.push { cls := .type "list_iterator", data := .fields #[.ref a, .int 0 0] }
  refine wpAny_bind (wpAny_holding (PySem.W.kun_collect (s := { s with heap := s.heap.push { cls := .type "list_iterator", data := .fields #[.ref a, .int 0 0] } }) (T := "list_iterator") (.inr (.inr (.inl rfl))) (Walks.list (A := X.A.in1) (I.ok.hd hc) s.heap.objs.size a ne its.toArray)
    (fun j u st => st.1.typeIs) (k := 0) (Nat.zero_le _) ⟨⟨_, Heap.get?_push_size _ rfl, rfl, rfl⟩, lst1⟩ (by show s.heap.objs.size < (s.heap.push _).objs.size; rw [Heap.size_push]; omega) (by show a < (s.heap.push _).objs.size; rw [Heap.size_push]; exact Nat.lt_succ_of_lt la) (fun h2 tk hk => ?_) fit))
  rw [List.drop_zero]
  have ei : its.toArray.toList = its := by simp
  have li : its.length = xs.length + 1 := by rw [← len, List.size_toArray]
  rw [ei]
  show wpAny _ _ (if its.length < 2 - 1 - 0 then _ else _) _ _ _
  rw [if_neg (by omega)]
  show wpAny _ _ (newList (its.take (its.length - (2 - 1 - 0))) >>= fun d => pure ([] ++ [d] ++ its.drop (its.length - (2 - 1 - 0)))) _ _ _
  rw [show its.length - (2 - 1 - 0) = xs.length by omega]
  have r1 := rv.take xs.length
  have r2 := rv.drop xs.length
  rw [List.take_left] at r1
  rw [List.drop_left] at r2
  generalize its.take xs.length = us1 at r1
  generalize its.drop xs.length = us2 at r2
  have hx : xs.length ≤ sizeLine := by
    rw [List.length_append, List.length_singleton] at hz
    omega
  have kept : ∀ b o, s.heap.get? b = some o → h2.get? b = some o := fun b o e => hk b o (Nat.ne_of_lt (Heap.lt_size e)) (Heap.get?_push_of_some _ e)
  have I1 : Inv X pins σ H { s with heap := h2, toks := tk } := I.kept (t' := tk) kept
  refine wpAny_bind (wpAny_newList (s := { s with heap := h2, toks := tk }) (wpAny_pure ?_) (by rw [← r1.length]; exact hx))
  have new : ObjOk X.prog X.w (upd H h2.objs.size (.lst xs)) (h2.push { cls := .type "list", data := .seq us1.toArray }) h2.objs.size (.lst xs) := ⟨hx, us1, 0, r1, Heap.get?_push_size _ rfl⟩
  have I2 : Inv X pins σ (upd H h2.objs.size (.lst xs)) { s with heap := h2.push { cls := .type "list", data := .seq us1.toArray }, toks := tk } := I1.laid (t' := tk) (fun b o e => Heap.get?_push_of_some _ e) (Nat.le_refl _) new
  rw [hs]
  exact h.run pins _ σ _ [.ref h2.objs.size, y] _ Q I2 (.cons rfl r2) (hw _ (I1.hok.fresh (Nat.le_refl _)))
end
/-! ### sheets in order; things among the things of a tuple; a dict of sheets as a target -/
section
variable {X : Cx}
def rLeSh : R2 := fun x y H Q => ∃ p q a b, x = .ref p ∧ y = .ref q ∧ ShAt H p a ∧ ShAt H q b ∧ Q (.bl (leS a b)) H
theorem ShAt.dpS {K : PySem.W.Frag} {H : Hp} {p : Addr} {x : Sh} (h : ShAt H p x) : Dp K H (.ref p) (encS x) := by
  obtain ⟨u, v, h1, h2, h3⟩ := h
  exact .tup (SqT.of h1) (.cons (.tup (SqT.of h2) (.cons (.int _) (.cons (.int _) .nil))) (.cons (.tup (SqT.of h3) (.cons (.int _) (.cons (.int _) .nil))) .nil))
theorem encS_deep (x : Sh) : (encS x).depth ≤ 3 := by simp [encS, PyData.depth, PyData.depthAll]
theorem op_leSh (hu : X.A.units + 64 < cLine) : OpR X (compareOp .LtE) rLeSh := by
  intro pins s σ H x y v u Q I rx ry h
  obtain ⟨p, q, a, b, rfl, rfl, ha, hb, k⟩ := h
  obtain ⟨as, r1⟩ := Dp.reads I _ _ _ (ha.dpS (K := X.K)) rx
  obtain ⟨bs, r2⟩ := Dp.reads I _ _ _ (hb.dpS (K := X.K)) ry
  have room : X.A.units + min (encS a).depth (encS b).depth < cLine := by
    have := encS_deep a
    omega
  refine PySem.W.le_data r1 r2 (by simp [encS, PySem.W.alike, PySem.W.alikeAll]) (by intro z; unfold encS at z; cases z) room ⟨.bl _, H, I, rfl, ?_⟩
  rw [lt_encS]
  exact k
def rInTup (K : PySem.W.Frag) : R2 := fun x y H Q => ∃ d ds, Dp K H x d ∧ Dp K H y (.tuple ds) ∧ d.plain = true ∧ PyData.plainAll ds = true ∧ d.depth ≤ 3 ∧ Q (.bl (ds.any fun z => PyData.eqv z d)) H
theorem op_inTup (hu : X.A.units + 64 < cLine) : OpR X (compareOp .In) (rInTup X.K) := by
  intro pins s σ H x y v u Q I rx ry h
  obtain ⟨d, ds, hx, hy, p1, p2, hd, k⟩ := h
  obtain ⟨as, r1⟩ := Dp.reads I _ _ _ hx rx
  obtain ⟨bs, r2⟩ := Dp.reads I _ _ _ hy ry
  exact SeqAt.in_tuple_data r2 r1 p2 p1 (by omega) ⟨.bl _, H, I, rfl, k⟩
/-- == and != of plain data -/
def rEqP (K : PySem.W.Frag) : R2 := fun x y H Q => ∃ d e, Dp K H x d ∧ Dp K H y e ∧ d.plain = true ∧ e.plain = true ∧ min d.depth e.depth ≤ 8 ∧ Q (.bl (PyData.eqv d e)) H
def rNeP (K : PySem.W.Frag) : R2 := fun x y H Q => ∃ d e, Dp K H x d ∧ Dp K H y e ∧ d.plain = true ∧ e.plain = true ∧ min d.depth e.depth ≤ 8 ∧ Q (.bl (!PyData.eqv d e)) H
theorem op_eqP (hu : X.A.units + 64 < cLine) : OpR X (compareOp .Eq) (rEqP X.K) := by
  intro pins s σ H x y v u Q I rx ry h
  obtain ⟨d, e, hx, hy, p1, p2, hd, k⟩ := h
  obtain ⟨as, r1⟩ := Dp.reads I _ _ _ hx rx
  obtain ⟨bs, r2⟩ := Dp.reads I _ _ _ hy ry
  exact SeqAt.eq_plain r1 r2 p1 p2 (by omega) ⟨.bl _, H, I, rfl, k⟩
theorem op_neP (hu : X.A.units + 64 < cLine) : OpR X (compareOp .NotEq) (rNeP X.K) := by
  intro pins s σ H x y v u Q I rx ry h
  obtain ⟨d, e, hx, hy, p1, p2, hd, k⟩ := h
  obtain ⟨as, r1⟩ := Dp.reads I _ _ _ hx rx
  obtain ⟨bs, r2⟩ := Dp.reads I _ _ _ hy ry
  exact SeqAt.ne_plain r1 r2 p1 p2 (by omega) ⟨.bl _, H, I, rfl, k⟩
def tSetDS (P : Program) (w : World) : TSet := fun o i v H Q => ∃ d p es x n, o = .ref d ∧ i = .ref p ∧ v = .int n ∧ DAt P w H d es ∧ ShAt H p x ∧ es.length < sizeLine ∧ Q (upd H d (DS P w d (putD es x p n)))
theorem set_DS (hu : X.A.units + 64 < cLine) : PSet X (tSetDS X.prog X.w) := by
  intro pins s σ H o i v ov iv u Q I ro ri rv h
  obtain ⟨d, p, es, x, n, rfl, rfl, rfl, D, hp, hl, q⟩ := h
  cases ro
  cases ri
  exact ds_setItem (by omega) I D hp rv hl fun s' I' => ⟨_, I', q⟩
end
/-! ### sheets that are read -/
def DueT (H : Hp) (v : V) : Option (Int × Int) → Prop
  | none => v = .non
  | some (m, n) => ∃ t, v = .ref t ∧ H t = some (.tup [.int m, .int n])
theorem DueT.same {H H' : Hp} {v : V} {o : Option (Int × Int)} (h : DueT H v o) (s : Same H H') : DueT H' v o := by
  match o, h with
  | none, h => exact h
  | some (m, n), ⟨t, e, h⟩ => exact ⟨t, e, s _ _ h⟩
def dueD : Option (Int × Int) → PyData
  | none => .none
  | some (m, n) => .tuple [.int m, .int n]
theorem DueT.dp {K : PySem.W.Frag} {H : Hp} {v : V} {o : Option (Int × Int)} (h : DueT H v o) : Dp K H v (dueD o) := by
  match o, h with
  | none, h =>
    rw [show v = V.non from h]
    exact .non
  | some (m, n), ⟨t, e, h⟩ =>
    rw [e]
    exact .tup (SqT.of h) (.cons (.int _) (.cons (.int _) .nil))
theorem DueT.put {G : Hp} {D : Addr} {xs acc : List V} {v : V} {o : Option (Int × Int)} (h : DueT G v o) (hD : G D = some (.lst xs)) : DueT (upd G D (.lst acc)) v o := by
  match o, h with
  | none, h => exact h
  | some (m, n), ⟨t, e, h⟩ => exact ⟨t, e, (upd_ne (ne_of h hD (by intro z; cases z))).trans h⟩
theorem read_due {H : Hp} {z : Str} {Q : VK} {E : XK} (hz : z.length ≤ 5900) (q : ∀ v H', Same H H' → DueT H' v (rp z) → Q v H') : spReadP [.str z] H Q E := by
  refine ⟨z.cps.toList, by rw [mk_self], by rw [← TL.len_tl]; exact hz, fun H' e hn => q _ _ e ?_, fun m n p H' hm e hp => q _ _ e ?_⟩
  · show DueT H' .non (readP z.cps.toList)
    rw [hn]
    rfl
  · show DueT H' (.ref p) (readP z.cps.toList)
    rw [hm]
    exact ⟨p, rfl, hp⟩
def DueAll (H : Hp) (vs : List V) (zs : List Str) : Prop := Paired (fun v z => DueT H v (rp z)) vs zs
theorem DueAll.dp {K : PySem.W.Frag} {H : Hp} : ∀ {vs : List V} {zs : List Str}, DueAll H vs zs → DpAll K H vs (zs.map fun z => dueD (rp z))
  | _, _, .nil => .nil
  | _, _, .cons h t => .cons h.dp (DueAll.dp t)
theorem DueAll.next {H0 G Ha : Hp} {D : Addr} {i : Nat} {vs : List V} {dv : V} {z : Str} {zs : List Str} (sG : Same H0 G) (hG : G D = some (.lst vs)) (pG : DueAll G vs (zs.take i)) (nD : H0 D = none) (hz : zs[i]? = some z) (sa : Same G Ha) (hd : DueT Ha dv (rp z)) :
    Same H0 (upd Ha D (.lst (vs ++ [dv]))) ∧ DueAll (upd Ha D (.lst (vs ++ [dv]))) (vs ++ [dv]) (zs.take (i + 1)) := by
  refine ⟨fun a o e => (upd_ne (ne_of_none e nD)).trans (sa _ _ (sG _ _ e)), ?_⟩
  unfold DueAll at pG ⊢
  rw [List.take_add_one, hz]
  have p2 : Paired (fun v z => DueT (upd Ha D (.lst (vs ++ [dv]))) v (rp z)) vs (zs.take i) := Paired.mono (fun v z (h : DueT G v (rp z)) => (h.same sa).put (sa _ _ hG)) pG
  exact Paired.snoc (F := fun v z => DueT (upd Ha D (.lst (vs ++ [dv]))) v (rp z)) (hd.put (sa _ _ hG)) p2
theorem due_eq (o : Option (Int × Int)) : PyData.eqv (dueD o) .none = o.isNone := by
  match o with
  | none => simp [dueD, PyData.eqv]
  | some (m, n) => simp [dueD, PyData.eqv]
theorem none_any (zs : List Str) : ((zs.map fun z => dueD (rp z)).any fun y => PyData.eqv y .none) = (zs.any fun z => (rp z).isNone) := by
  rw [List.any_map]
  congr 1
  funext z
  exact due_eq _
theorem due_plain : ∀ zs : List Str, PyData.plainAll (zs.map fun z => dueD (rp z)) = true
  | [] => rfl
  | z :: zs => by
    have ih := due_plain zs
    have h : (dueD (rp z)).plain = true := by
      match rp z with
      | none => simp [dueD, PyData.plain]
      | some (m, n) => simp [dueD, PyData.plain, PyData.plainAll]
    simp [PyData.plainAll, h, ih]
theorem due_one (o : Option (Int × Int)) : (dueD o).canLay0 = true ∧ (dueD o).depth ≤ 1 := by
  match o with
  | none => exact ⟨by simp [dueD, PyData.canLay0], by simp [dueD, PyData.depth]⟩
  | some (m, n) => exact ⟨by simp [dueD, PyData.canLay0, PyData.canLayAll0], by simp [dueD, PyData.depth, PyData.depthAll]⟩
theorem due_shaped (zs : List Str) : SeqAt.shaped (.list (zs.map fun z => dueD (rp z))) = true := by
  have h : ∀ zs : List Str, PyData.canLayAll0 (zs.map fun z => dueD (rp z)) = true ∧ PyData.depthAll (zs.map fun z => dueD (rp z)) ≤ 3 := by
    intro zs
    induction zs with
    | nil => exact ⟨by simp [PyData.canLayAll0], by simp [PyData.depthAll]⟩
    | cons z zs ih =>
      obtain ⟨g1, g2⟩ := due_one (rp z)
      obtain ⟨i1, i2⟩ := ih
      rw [List.map_cons]
      generalize dueD (rp z) = d at g1 g2
      generalize zs.map (fun z => dueD (rp z)) = ds at i1 i2
      exact ⟨by simp [PyData.canLayAll0, g1, i1], by simp only [PyData.depthAll]; omega⟩
  obtain ⟨h1, h2⟩ := h zs
  unfold SeqAt.shaped
  rw [Bool.and_eq_true]
  refine ⟨by simp [PyData.canLay0, h1], decide_eq_true ?_⟩
  simp only [PyData.depth]
  omega
/-- the parts of a text, and the sheet that they write -/
theorem readSh_two {z a b : Str} (h : Txt.split z (Str.ofString " x ") = [a, b]) : readSh z = two [rp a, rp b] := by
  unfold readSh
  rw [h]
  rfl
theorem readSh_not {z : Str} (h : (Txt.split z (Str.ofString " x ")).length ≠ 2) : readSh z = none := by
  cases e : readSh z with
  | none => rfl
  | some x =>
    have := congrArg List.length (two_some e)
    rw [List.length_map] at this
    exact absurd this h
theorem readSh_none {z : Str} (h : (Txt.split z (Str.ofString " x ")).any (fun y => (rp y).isNone) = true) : readSh z = none := by
  cases e : readSh z with
  | none => rfl
  | some x =>
    have e := two_some e
    obtain ⟨y, hy, hn⟩ := List.any_eq_true.mp h
    have : rp y ∈ (Txt.split z (Str.ofString " x ")).map rp := List.mem_map.mpr ⟨y, hy, rfl⟩
    rw [e] at this
    rcases List.mem_cons.mp this with q | q
    · rw [q] at hn
      cases hn
    · rw [List.mem_singleton.mp q] at hn
      cases hn
/-- two parts that both write pairs -/
theorem due_two {H : Hp} {vs : List V} {z : Str} (h : DueAll H vs (Txt.split z (Str.ofString " x "))) (l : (Txt.split z (Str.ofString " x ")).length = 2) (n : (Txt.split z (Str.ofString " x ")).any (fun y => (rp y).isNone) = false) :
    ∃ (u v : Addr) (x : Sh), vs = [.ref u, .ref v] ∧ readSh z = some x ∧ H u = some (.tup [.int x.1, .int x.2.1]) ∧ H v = some (.tup [.int x.2.2.1, .int x.2.2.2]) := by
  match hs : Txt.split z (Str.ofString " x "), l with
  | [a, b], _ =>
    rw [hs] at h n
    match vs, h with
    | [v1, v2], .cons h1 (.cons h2 .nil) =>
      simp only [List.any_cons, List.any_nil, Bool.or_false, Bool.or_eq_false_iff] at n
      rw [readSh_two hs]
      match ha : rp a, hb : rp b with
      | none, _ =>
        rw [ha] at n
        exact absurd n.1 (by decide)
      | some p, none =>
        rw [hb] at n
        exact absurd n.2 (by decide)
      | some (m, n'), some (m2, n2) =>
        rw [ha] at h1
        rw [hb] at h2
        obtain ⟨u, e1, g1⟩ := h1
        obtain ⟨v, e2, g2⟩ := h2
        exact ⟨u, v, (m, n', m2, n2), by rw [e1, e2], rfl, g1, g2⟩
theorem part_len {z y c : Str} (h : y ∈ Txt.split z c) (hc : 1 ≤ c.length) : y.length ≤ z.length + 1 := by
  have w := split_weight z c hc
  have : y.length ≤ ((Txt.split z c).map (·.length)).sum := by
    have : ∀ {l : List Str}, y ∈ l → y.length ≤ (l.map (·.length)).sum := by
      intro l
      induction l with
      | nil => intro h; cases h
      | cons a l ih =>
        intro h
        rw [List.map_cons, List.sum_cons]
        rcases List.mem_cons.mp h with rfl | h
        · omega
        · have := ih h
          omega
    exact this h
  omega
section
variable {base : Heap} {K : PySem.W.Frag} {mg : Str → Option Value} {P : Program} {w : World}
theorem units65 {k : Nat} {A : Around} (r : Room k A) : A.units + 65 < cLine := by have := r.un; omega
def spReadSh : Sp := fun vs H Q _ => ∃ z : Str, vs = [.str z] ∧ z.length ≤ 5800 ∧ (∀ H', Same H H' → readSh z = none → Q .non H') ∧ ∀ x p H', readSh z = some x → Same H H' → ShAt H' p x → Q (.ref p) H'
theorem ok_read_sheet (T : Txt K mg) : FnOk P w K mg base CX0 5 T.f_read_sheet T.d_read_sheet ["text"] spReadSh := by
  refine T.F_read_sheet.ok sc_read_sheet (fun vs H Q E h => ?_) (fun cdv A outer s H vs Q E hr h => ?_)
  · obtain ⟨z, rfl, _⟩ := h
    rfl
  · obtain ⟨z, rfl, hz, q1, q2⟩ := h
    refine ⟨_, (pss_cons (ps_set (i := 1) sc_read_sheet.nd rfl (Or.inl rfl) (pe_callTy call_tuple_of (by rfl) T.n_tuple (by decide +kernel) (pa_cons (pe_lc (own := [("part", 2)]) (g := (gName 2)) (tt := tYes) (te := tCall spReadP [] E0 (tCons (tVar 2) tNil)) (by rfl) sc_read_sheet.nd (pi_list (pe_split (pv 0) pe_str)) (blkOk_by (own := [("part", 2)]) (N := ["text", "pairs", "part"]) (sc := defScope s_read_sheet) (by decide +kernel)) (fun _ _ _ _ _ => (pg_name (i := 2) sc_read_sheet.nd rfl (Or.inl rfl))) (fun _ _ _ _ _ => pts_nil) (fun _ _ _ _ _ => (pe_call (ok_read_pair T) (hr.mono (by decide)) (by rfl) T.g_read_pair T.F_read_pair.kp T.b_read_pair .nil pass0 (pa_cons (pv 2) pa_nil)))) pa_nil)))
      (pss_one (ps_ret (pe_ifExp (PW.pt (pw_or (pt_cmpR op_ne (pe_callB call_len_seq (by rfl) T.n_len (by decide +kernel) (pa_cons (pv 1) pa_nil)) pe_int (nomark _)) (pw_or1 (pt_cmpR (op_inTup hr.units) pe_non (pv 1) (by rfl))))) pe_non (pv 1))))), ?_⟩
    have c3 : (Str.ofString " x ").length = 3 := by decide +kernel
    refine ⟨_, rfl, ⟨_, rfl⟩, z, _, rfl, rfl, by decide +kernel, by rw [sz_eq]; omega, fun l nl => ?_⟩
    have sl := same_new (o := .lst ((Txt.split z (Str.ofString " x ")).map V.str)) nl
    have hl : upd H l (.lst ((Txt.split z (Str.ofString " x ")).map V.str)) l = some (.lst ((Txt.split z (Str.ofString " x ")).map V.str)) := upd_same
    have ln := split_le z (Str.ofString " x ")
    have pl : ∀ y ∈ Txt.split z (Str.ofString " x "), y.length ≤ 5900 := fun y hy => by
      have := part_len hy (by rw [c3]; decide)
      omega
    refine ⟨l, rfl, ⟨_, SqL.of hl⟩, fun D nD => lc_list (K := K) (a := l) (xs := (Txt.split z (Str.ofString " x ")).map V.str) (fun i G => Same (upd H l (.lst ((Txt.split z (Str.ofString " x ")).map V.str))) G ∧ ∃ vs, G D = some (.lst vs) ∧ DueAll G vs ((Txt.split z (Str.ofString " x ")).take i)) ⟨same_new nD, [], upd_same, .nil⟩ (fun i G _ z => SqL.of (z.1 _ _ hl)) ?_ ?_⟩
    · rintro i x G hx ⟨sG, vs, hG, pG⟩
      rw [List.getElem?_map] at hx
      cases hy : (Txt.split z (Str.ofString " x "))[i]? with
      | none =>
        rw [hy] at hx
        cases hx
      | some y =>
        rw [hy] at hx
        cases hx
        refine ⟨rfl, _, rfl, ?_⟩
        unfold tNil
        refine read_due (pl y (List.mem_of_getElem? hy)) fun dv Ha sa hd => ⟨vs, sa _ _ hG, ?_, ?_⟩
        · have li := (List.getElem?_eq_some_iff.mp hy).1
          rw [Paired.length pG, List.length_take, sz_eq]
          omega
        · obtain ⟨g1, g2⟩ := DueAll.next sG hG pG nD hy sa hd
          exact ⟨g1, _, upd_same, g2⟩
    rintro G ⟨sG, vs, hG, pG⟩
    rw [List.length_map, List.take_length] at pG
    have s2 := sl.trans sG
    refine ⟨D, _, rfl, .inl ⟨SqL.of hG, fun p np => ?_⟩⟩
    have e := same_new (o := .tup vs) np
    have pG2 : DueAll (upd G p (.tup vs)) vs (Txt.split z (Str.ofString " x ")) := Paired.mono (fun v z h => h.same e) pG
    have s3 := s2.trans e
    have hv := Paired.length pG
    refine ⟨_, rfl, p, vs, rfl, .inr (SqT.of upd_same), rfl, _, rfl, ?_⟩
    by_cases l2 : (Txt.split z (Str.ofString " x ")).length = 2
    · rw [show decide (V.int (vs.length : Nat) = V.int 2) = true from decide_eq_true (by rw [hv, l2]; rfl)]
      refine iteF ⟨_, rfl, .none, _, .non, .tup (SqT.of upd_same) pG2.dp, by simp [PyData.plain], due_plain _, by simp [PyData.depth], _, rfl, ?_⟩
      rw [none_any]
      cases n : (Txt.split z (Str.ofString " x ")).any (fun y => (rp y).isNone) with
      | true => exact iteT (q1 _ s3 (readSh_none n))
      | false =>
        obtain ⟨u, v, x, rfl, hx, h1, h2⟩ := due_two pG2 l2 n
        exact iteF ⟨_, rfl, q2 x p _ hx s3 ⟨u, v, upd_same, h1, h2⟩⟩
    · rw [show decide (V.int (vs.length : Nat) = V.int 2) = false from decide_eq_false fun z => l2 (by have := V.int.inj z; omega)]
      exact iteT (iteT (q1 _ s3 (readSh_not l2)))
theorem ok_sheet_read (T : Txt K mg) : FnOk P w K mg base CX0 3 T.f_sheet_read T.d_sheet_read ["_law_text_z"] spReadSh := by
  refine T.F_sheet_read.ok sc_sheet_read (fun vs H Q E h => ?_) (fun cdv A outer s H vs Q E hr h => ?_)
  · obtain ⟨z, rfl, _⟩ := h
    rfl
  · obtain ⟨z, rfl, hz, q1, q2⟩ := h
    refine ⟨_, (pss_cons (ps_setLc (i := 1) (own := [("_law_part", 2)]) (g := (gName 2)) (tt := tYes) (te := tCall spReadP [] E0 (tCons (tVar 2) tNil)) (by rfl) sc_sheet_read.nd rfl rfl (sw_true rfl rfl rfl (by decide +kernel)) (pi_list (pe_split (pv 0) pe_str)) (blkOk_by (own := [("_law_part", 2)]) (N := ["_law_text_z", "_law_pairs", "_law_part"]) (sc := defScope s_sheet_read) (by decide +kernel)) (fun _ _ _ _ _ => (pg_name (i := 2) sc_sheet_read.nd rfl (Or.inl rfl))) (fun _ _ _ _ _ => pts_nil) (fun _ _ _ _ _ => (pe_call (ok_pair_read T) (hr.mono (by decide)) (by rfl) T.g_pair_read T.F_pair_read.kp T.b_pair_read .nil pass0 (pa_cons (pv 2) pa_nil))))
      (pss_one (ps_ret (pe_ifExp (PW.pt (pw_and (pt_cmpR op_eq (pe_callB call_len_seq (by rfl) T.n_len (by decide +kernel) (pa_cons (pv 1) pa_nil)) pe_int (nomark _)) (pw_and1 (pt_cmpR (op_notInD (units65 hr)) pe_non (pv 1) (by rfl))))) (pe_tup (pa_cons (pe_ix ix_list (pv 1) pe_int (fun _ _ => rfl)) (pa_cons (pe_ix ix_list (pv 1) pe_int (fun _ _ => rfl)) pa_nil))) pe_non)))), ?_⟩
    have c3 : (Str.ofString " x ").length = 3 := by decide +kernel
    refine ⟨_, rfl, ⟨_, rfl⟩, z, _, rfl, rfl, by decide +kernel, by rw [sz_eq]; omega, fun l nl => ?_⟩
    have sl := same_new (o := .lst ((Txt.split z (Str.ofString " x ")).map V.str)) nl
    have hl : upd H l (.lst ((Txt.split z (Str.ofString " x ")).map V.str)) l = some (.lst ((Txt.split z (Str.ofString " x ")).map V.str)) := upd_same
    have ln := split_le z (Str.ofString " x ")
    have pl : ∀ y ∈ Txt.split z (Str.ofString " x "), y.length ≤ 5900 := fun y hy => by
      have := part_len hy (by rw [c3]; decide)
      omega
    refine ⟨l, rfl, ⟨_, SqL.of hl⟩, fun D nD => lc_list (K := K) (a := l) (xs := (Txt.split z (Str.ofString " x ")).map V.str) (fun i G => Same (upd H l (.lst ((Txt.split z (Str.ofString " x ")).map V.str))) G ∧ ∃ vs, G D = some (.lst vs) ∧ DueAll G vs ((Txt.split z (Str.ofString " x ")).take i)) ⟨same_new nD, [], upd_same, .nil⟩ (fun i G _ z => SqL.of (z.1 _ _ hl)) ?_ ?_⟩
    · rintro i x G hx ⟨sG, vs, hG, pG⟩
      rw [List.getElem?_map] at hx
      cases hy : (Txt.split z (Str.ofString " x "))[i]? with
      | none =>
        rw [hy] at hx
        cases hx
      | some y =>
        rw [hy] at hx
        cases hx
        refine ⟨rfl, _, rfl, ?_⟩
        unfold tNil
        refine read_due (pl y (List.mem_of_getElem? hy)) fun dv Ha sa hd => ⟨vs, sa _ _ hG, ?_, ?_⟩
        · have li := (List.getElem?_eq_some_iff.mp hy).1
          rw [Paired.length pG, List.length_take, sz_eq]
          omega
        · obtain ⟨g1, g2⟩ := DueAll.next sG hG pG nD hy sa hd
          exact ⟨g1, _, upd_same, g2⟩
    rintro G ⟨sG, vs, hG, pG⟩
    rw [List.length_map, List.take_length] at pG
    have s2 := sl.trans sG
    have hv := Paired.length pG
    refine ⟨_, rfl, D, vs, rfl, .inl (SqL.of hG), rfl, _, rfl, ?_⟩
    by_cases l2 : (Txt.split z (Str.ofString " x ")).length = 2
    · rw [show decide (V.int (vs.length : Nat) = V.int 2) = true from decide_eq_true (by rw [hv, l2]; rfl)]
      refine iteT ⟨_, rfl, .none, _, .non, .lst (SqL.of hG) pG.dp, by decide +kernel, due_shaped _, _, rfl, ?_⟩
      rw [none_any]
      cases n : (Txt.split z (Str.ofString " x ")).any (fun y => (rp y).isNone) with
      | true => exact iteF (q1 _ s2 (readSh_none n))
      | false =>
        obtain ⟨u, v, x, rfl, hx, h1, h2⟩ := due_two pG l2 n
        refine iteT ⟨_, rfl, D, _, 0, .ref u, rfl, rfl, SqL.of hG, atI_nat (j := 0) rfl, _, rfl, D, _, 1, .ref v, rfl, rfl, SqL.of hG, atI_nat (j := 1) rfl, by show 2 ≤ sizeLine; decide, fun t nt => ?_⟩
        have e := same_new (o := .tup [.ref u, .ref v]) nt
        exact q2 x t _ hx (s2.trans e) ⟨u, v, upd_same, e _ _ h1, e _ _ h2⟩
    · rw [show decide (V.int (vs.length : Nat) = V.int 2) = false from decide_eq_false fun z => l2 (by have := V.int.inj z; omega)]
      exact iteF (iteF (q1 _ s2 (readSh_not l2)))
def spReadRoot : Sp := fun vs H Q _ => ∃ z : Str, vs = [.str z] ∧ z.length ≤ 5800 ∧ ∀ H', Same H H' → Q (optV (readRoot z)) H'
theorem par_len (z y : Str) : (Txt.partition z y).1.length ≤ z.length ∧ (Txt.partition z y).2.2.length ≤ z.length := by
  have h := congrArg Str.length (StrLaws.partition_sum z y)
  rw [Str.length_append, Str.length_append] at h
  omega
theorem ok_read_root (T : Txt K mg) : FnOk P w K mg base CX0 3 T.f_read_root T.d_read_root ["line"] spReadRoot := by
  refine T.F_read_root.ok sc_read_root (fun vs H Q E h => ?_) (fun cdv A outer s H vs Q E hr h => ?_)
  · obtain ⟨z, rfl, _⟩ := h
    rfl
  · obtain ⟨z, rfl, hz, q⟩ := h
    refine ⟨_, (pss_cons (ps_asg (pe_partition (pv 0) pe_str) (pg_tup (by rfl) (pgs_cons (pg_name (i := 2) sc_read_root.nd rfl (Or.inl rfl)) (pgs_cons (pg_name (i := 3) sc_read_root.nd rfl (Or.inl rfl)) (pgs_cons (pg_name (i := 4) sc_read_root.nd rfl (Or.inl rfl)) pgs_nil)))))
      (pss_cons (ps_set (i := 1) sc_read_root.nd rfl (Or.inl rfl) (pe_call (ok_read_number T) (hr.mono (by decide)) (by rfl) T.g_read_number T.F_read_number.kp T.b_read_number .nil pass0 (pa_cons (pv 4) pa_nil)))
      (pss_cons (ps_if (PW.pt (pw_or (pt_cmpR op_ne (pv 2) pe_str (nomark _)) (pw_or (pt_cmpR op_isN (pv 1) pe_non (nomark _)) (pw_or1 (pt_not (pt_val (pe_call (ok_is_root T) (hr.mono (by decide)) (by rfl) T.g_is_root T.F_is_root.kp T.b_is_root .nil pass0 (pa_cons (pv 1) pa_nil)))))))) (pss_one (ps_ret pe_non)) pss_nil)
      (pss_one (ps_ret (pv 1)))))), ?_⟩
    obtain ⟨p1, p2⟩ := par_len z (Str.ofString " ")
    refine ⟨_, rfl, ⟨_, rfl⟩, z, _, rfl, rfl, by decide +kernel, by rw [sz_eq]; omega, fun t nt => ?_⟩
    have st := same_new (o := .tup [.str (Txt.partition z (Str.ofString " ")).1, .str (Txt.partition z (Str.ofString " ")).2.1, .str (Txt.partition z (Str.ofString " ")).2.2]) nt
    unfold readRoot rn at q
    generalize Txt.partition z (Str.ofString " ") = pt at p1 p2 st q ⊢
    obtain ⟨a, g, b⟩ := pt
    dsimp only at p1 p2 st q ⊢
    refine ⟨t, _, rfl, SqT.of upd_same, rfl, .str a, _, rfl, .str g, _, rfl, .str b, _, rfl, rfl, _, rfl, b, rfl, by omega, fun H1 s1 => ⟨_, rfl, rfl, _, rfl, ?_⟩⟩
    have s2 := st.trans s1
    rw [dS]
    by_cases ha : a = Str.ofString "root"
    · rw [if_pos ha] at q
      rw [decide_eq_true ha]
      refine iteF ⟨_, rfl, rfl, _, rfl, ?_⟩
      cases hn : readN b.cps.toList with
      | none =>
        rw [hn] at q
        exact iteT (iteT (q _ s2))
      | some d =>
        rw [hn] at q
        dsimp only at q
        refine iteF ⟨_, rfl, d, rfl, _, rfl, ?_⟩
        cases hd : isRB d with
        | true =>
          rw [hd, if_pos rfl] at q
          exact iteF ⟨_, rfl, q _ s2⟩
        | false =>
          rw [hd, if_neg (by decide)] at q
          exact iteT (q _ s2)
    · rw [if_neg ha] at q
      rw [decide_eq_false ha]
      exact iteT (iteT (q _ s2))
def spReadRow : Sp := fun vs H Q _ => ∃ (z : Str) (d : Int), vs = [.str z, .int d] ∧ z.length ≤ 5800 ∧ d.natAbs < 2 ^ 64 ∧ (∀ H', Same H H' → readRow d z = none → Q .non H') ∧
  ∀ x n p r H', readRow d z = some (x, n) → Same H H' → ShAt H' p x → H' r = some (.tup [.ref p, .int n]) → Q (.ref r) H'
theorem b200 {x : Int} (h : x.natAbs < 10 ^ 20) : x.natAbs < 2 ^ 200 := Nat.lt_of_lt_of_le h (by decide +kernel)
theorem ok_read_row (T : Txt K mg) : FnOk P w K mg base CX0 6 T.f_read_row T.d_read_row ["line", "root"] spReadRow := by
  refine T.F_read_row.ok sc_read_row (fun vs H Q E h => ?_) (fun cdv A outer s H vs Q E hr h => ?_)
  · obtain ⟨z, d, rfl, _⟩ := h
    rfl
  · obtain ⟨z, d, rfl, hz, hd, q1, q2⟩ := h
    refine ⟨_, (pss_cons (ps_asg (pe_partition (pv 0) pe_str) (pg_tup (by rfl) (pgs_cons (pg_name (i := 4) sc_read_row.nd rfl (Or.inl rfl)) (pgs_cons (pg_name (i := 5) sc_read_row.nd rfl (Or.inl rfl)) (pgs_cons (pg_name (i := 6) sc_read_row.nd rfl (Or.inl rfl)) pgs_nil)))))
      (pss_cons (ps_set (i := 2) sc_read_row.nd rfl (Or.inl rfl) (pe_call (ok_read_number T) (hr.mono (by decide)) (by rfl) T.g_read_number T.F_read_number.kp T.b_read_number .nil pass0 (pa_cons (pv 4) pa_nil)))
      (pss_cons (ps_set (i := 3) sc_read_row.nd rfl (Or.inl rfl) (pe_call (ok_read_sheet T) (hr.mono (by decide)) (by rfl) T.g_read_sheet T.F_read_sheet.kp T.b_read_sheet .nil pass0 (pa_cons (pv 6) pa_nil)))
      (pss_cons (ps_if (PW.pt (pw_or (pt_cmpR op_isN (pv 2) pe_non (nomark _)) (pw_or (pt_cmpR op_lt (pv 2) pe_int (nomark _)) (pw_or (pt_cmpR op_isN (pv 3) pe_non (nomark _)) (pw_or1 (pt_not (pt_val (pe_call (ok_is_sheet T) (hr.mono (by decide)) (by rfl) T.g_is_sheet T.F_is_sheet.kp T.b_is_sheet .nil pass0 (pa_cons (pv 3) (pa_cons (pv 1) pa_nil)))))))))) (pss_one (ps_ret pe_non)) pss_nil)
      (pss_one (ps_ret (pe_tup (pa_cons (pv 3) (pa_cons (pv 2) pa_nil))))))))), ?_⟩
    obtain ⟨p1, p2⟩ := par_len z (Str.ofString " ")
    refine ⟨_, rfl, ⟨_, rfl⟩, z, _, rfl, rfl, by decide +kernel, by rw [sz_eq]; omega, fun t nt => ?_⟩
    have st := same_new (o := .tup [.str (Txt.partition z (Str.ofString " ")).1, .str (Txt.partition z (Str.ofString " ")).2.1, .str (Txt.partition z (Str.ofString " ")).2.2]) nt
    unfold readRow rn at q1 q2
    generalize Txt.partition z (Str.ofString " ") = pt at p1 p2 st q1 q2 ⊢
    obtain ⟨a, g, b⟩ := pt
    dsimp only at p1 p2 st q1 q2 ⊢
    refine ⟨t, _, rfl, SqT.of upd_same, rfl, .str a, _, rfl, .str g, _, rfl, .str b, _, rfl, rfl, _, rfl, a, rfl, by omega, fun H1 s1 => ?_⟩
    have s2 := st.trans s1
    cases hn : readN a.cps.toList with
    | none =>
      rw [hn] at q1
      refine ⟨_, rfl, b, rfl, by omega, fun H2 s3 _ => ?_, fun x p H2 _ s3 _ => ?_⟩
      · exact ⟨_, rfl, rfl, _, rfl, iteT (iteT (q1 _ (s2.trans s3) rfl))⟩
      · exact ⟨_, rfl, rfl, _, rfl, iteT (iteT (q1 _ (s2.trans s3) rfl))⟩
    | some n =>
      rw [hn] at q1 q2
      refine ⟨_, rfl, b, rfl, by omega, fun H2 s3 hx => ?_, fun x p H2 hx s3 hp => ?_⟩
      · rw [hx] at q1
        refine ⟨_, rfl, rfl, _, rfl, iteF ⟨_, rfl, n, 1, rfl, rfl, _, rfl, ite2 (fun _ => iteT (q1 _ (s2.trans s3) rfl)) fun _ => ⟨_, rfl, rfl, _, rfl, iteT (iteT (q1 _ (s2.trans s3) rfl))⟩⟩⟩
      · rw [hx] at q1 q2
        dsimp only at q1 q2
        have bx := (readSh_text hx).2
        refine ⟨_, rfl, rfl, _, rfl, iteF ⟨_, rfl, n, 1, rfl, rfl, _, rfl, ite2 (fun l => ?_) fun l => ?_⟩⟩
        · have l := of_decide_eq_true l
          rw [if_neg fun z => by omega] at q1
          exact iteT (q1 _ (s2.trans s3) rfl)
        · have l : 1 ≤ n := by
            have : ¬ n < 1 := fun z => l (decide_eq_true z)
            omega
          refine ⟨_, rfl, rfl, _, rfl, iteF ⟨_, rfl, _, rfl, p, d, x, rfl, hp, hd, ⟨b200 bx.1, b200 bx.2.1, b200 bx.2.2.1, b200 bx.2.2.2⟩, _, rfl, ?_⟩⟩
          cases hs : shB d x with
          | false =>
            rw [if_neg fun z => by rw [hs] at z; cases z.2] at q1
            exact iteT (q1 _ (s2.trans s3) rfl)
          | true =>
            rw [if_pos ⟨l, hs⟩] at q2
            refine iteF ⟨_, rfl, _, rfl, by show 2 ≤ sizeLine; decide, fun r nr => ?_⟩
            have e := same_new (o := .tup [.ref p, .int n]) nr
            exact q2 x n p r _ rfl ((s2.trans s3).trans e) (hp.same e) upd_same
end
/-! ### texts of heaps that are read: the program -/
def badTextI (i : Int) : List (Str × V) := [("at", .int i), ("word", .str "BadText")]
theorem split_all (z : Str) : Txt.split z (Str.ofString "\n") = linesN z ++ [lastN z] := by
  have ne : Txt.split z (Str.ofString "\n") ≠ [] := fun e => by
    have := split_pos z (Str.ofString "\n")
    rw [e] at this
    cases this
  unfold linesN lastN
  cases e : (Txt.split z (Str.ofString "\n")).getLast? with
  | none => exact absurd (List.getLast?_eq_none_iff.mp e) ne
  | some l =>
    obtain ⟨ys, e⟩ := List.getLast?_eq_some_iff.mp e
    rw [e, List.dropLast_concat]
    rfl
theorem lines_len {z : Str} (hz : z.length ≤ 5700) : (∀ y ∈ linesN z, y.length ≤ 5800) ∧ (lastN z).length ≤ 5800 ∧ (linesN z).length ≤ 5800 := by
  have s := split_all z
  have n1 : (Str.ofString "\n").length = 1 := by decide +kernel
  have pl : ∀ y ∈ Txt.split z (Str.ofString "\n"), y.length ≤ 5800 := fun y hy => by
    have := part_len hy (by rw [n1]; decide)
    omega
  rw [s] at pl
  have ln := split_le z (Str.ofString "\n")
  rw [s, List.length_append, List.length_singleton] at ln
  exact ⟨fun y hy => pl y (List.mem_append_left _ hy), pl _ (by simp), by omega⟩
theorem up_none {rs : List (Sh × Int)} {x : Sh} (h : rs = []) : upB rs x = false := by
  rw [h]
  rfl
theorem rowsE_len (es : DEs) : (rowsE es).length = es.length := by
  unfold rowsE
  rw [List.length_map]
theorem rows_next {d : Int} {ls : List Str} {i : Nat} {rs : List (Sh × Int)} {z : Str} (g : rowsTo d ls i = some rs) (hz : ls[i]? = some z) : rowsTo d ls (i + 1) = match readRow d z with | none => none | some e => if upB rs e.1 = true then none else some (rs ++ [e]) := by
  rw [rowsTo, g, hz]
  show (match some rs, readRow d z with | some rs, some e => if upB rs e.1 = true then none else some (rs ++ [e]) | _, _ => none) = _
  cases readRow d z <;> rfl
section
variable {base : Heap} {K : PySem.W.Frag} {mg : Str → Option Value} {w : World}
def spReadRows (T : Txt K mg) : Sp := fun vs H Q E => ∃ (l : Addr) (ls : List Str) (d : Int), vs = [.ref l, .int d] ∧ H l = some (.lst (ls.map V.str)) ∧ d.natAbs < 2 ^ 64 ∧ (∀ y ∈ ls, y.length ≤ 5800) ∧ ls.length ≤ 5800 ∧
  (∀ i rs, rowsTo d ls i = some rs → i < ls.length → rowsTo d ls (i + 1) = none → Throws T.e_BadText.C (badTextI ((i : Int) + 1)) H E) ∧ ∀ r es H', rowsTo d ls ls.length = some (rowsE es) → Same H H' → RowsL H' r es → Q (.ref r) H'
theorem ok_read_rows (T : Txt K mg) : FnOk PySem.Challenge.pw_grainyard_k65_texts_of_heaps w K mg base (L2.CX PySem.Challenge.pw_grainyard_k65_texts_of_heaps w) 7 T.f_read_rows T.d_read_rows ["lines", "root"] (spReadRows T) := by
  refine T.F_read_rows.okX sc_read_rows (fun vs H Q E h => ?_) (fun cdv A outer s H vs Q E hr h => ?_)
  · obtain ⟨l, ls, d, rfl, _⟩ := h
    rfl
  · obtain ⟨l, ls, d, rfl, hl, hd, ly, ln, q1, q2⟩ := h
    refine ⟨_, (pss_cons (ps_set (i := 2) sc_read_rows.nd rfl (Or.inl rfl) (pe_lst pa_nil))
      (pss_cons (ps_for (passes_of rfl) rfl (pi_enumF (by rfl) T.n_enumerate (pa_cons (pv 0) pa_nil) pe_int (by decide) (by decide)) (pg_tup (by rfl) (pgs_cons (pg_name (i := 3) sc_read_rows.nd rfl (Or.inl rfl)) (pgs_cons (pg_name (i := 4) sc_read_rows.nd rfl (Or.inl rfl)) pgs_nil))) (pss_cons (ps_set (i := 5) sc_read_rows.nd rfl (Or.inl rfl) (pe_call (ok_read_row T) (hr.mono (by decide)) (by rfl) T.g_read_row T.F_read_row.kp T.b_read_row .nil pass0 (pa_cons (pv 4) (pa_cons (pv 1) pa_nil))))
      (pss_cons (ps_if (PW.pt (pw_or (pt_cmpR op_isN (pv 5) pe_non (nomark _)) (pw_or1 (PW.pt (pw_and (pt_truth (pv 2) (fun _ => rfl)) (pw_and1 (pt_cmpR (op_leSh hr.units) (pe_ix ix_tup (pv 5) pe_int (fun _ _ => rfl)) (pe_ix ix_tup (pe_ix ix_list (pv 2) (pe_un un_neg pe_int) (fun _ _ => rfl)) pe_int (fun _ _ => rfl)) (nomark _)))))))) (pss_one (ps_raise rfl (takes_of rfl rfl rfl rfl) (pmk_oex (oex_of T.e_BadText) T.e_BadText.iC T.e_BadText.tI (ini_BadText T) (hr.mono (by decide)) (bi_BadText T) .nil pass0 (by rfl) T.e_BadText.g (pa_cons (pv 3) pa_nil)))) pss_nil)
      (pss_one (ps_expr (pe_bm PySem.F.plainAttrs_list PySem.F.slot_list_append PySem.F.type_list_append mt_append (pv 2) (pa_cons (pv 5) pa_nil)))))))
      (pss_one (ps_ret (pv 2))))), ?_⟩
    refine ⟨Nat.zero_le _, fun R nR => ?_⟩
    have s0 := same_new (o := .lst []) nR
    refine ⟨_, rfl, l, _, rfl, SqL.of (s0 _ _ hl), for_enumF (K := K) (a := l) (k := 1) (xs := ls.map V.str) (fun i σ G => ∃ y3 y4 y5 es, σ = [some (.ref l), some (.int d), some (.ref R), y3, y4, y5] ∧ Same H G ∧ RowsL G R es ∧ rowsTo d ls i = some (rowsE es)) ⟨none, none, none, [], rfl, s0, ⟨[], upd_same, .nil, fun e he => by cases he⟩, rfl⟩ ?_ ?_ ?_⟩
    · rintro i τ G _ ⟨_, _, _, _, _, sG, _⟩
      exact SqL.of (sG _ _ hl)
    · rintro i x τ G T1 hx ⟨y3, y4, y5, es, rfl, sG, RG, g⟩ hT
      rw [List.getElem?_map] at hx
      cases hz : ls[i]? with
      | none =>
        rw [hz] at hx
        cases hx
      | some z =>
        rw [hz] at hx
        cases hx
        have li := (List.getElem?_eq_some_iff.mp hz).1
        have nx := rows_next g hz
        have s1 := same_new (o := .tup [.int (1 + (i : Int)), .str z]) hT
        have RT := RG.same s1
        have sT := sG.trans s1
        refine ⟨T1, _, rfl, SqT.of upd_same, rfl, .int (1 + (i : Int)), _, rfl, .str z, _, rfl, rfl, ?_⟩
        have bad : rowsTo d ls (i + 1) = none → ∀ G', Same (upd G T1 (.tup [.int (1 + (i : Int)), .str z])) G' → Throws T.e_BadText.C (badTextI (1 + (i : Int))) G' E := fun b G' e => by
          have := (q1 i _ g li b).up (sT.trans e)
          rwa [Int.add_comm] at this
        refine ⟨_, rfl, _, rfl, z, d, rfl, ly z (List.mem_of_getElem? hz), hd, fun G2 s2 hn => ?_, fun x n p r G2 hn s2 hp hr2 => ?_⟩
        · rw [hn] at nx
          exact ⟨_, rfl, rfl, _, rfl, iteT (iteT ⟨_, rfl, mk_use rfl (by decide) fun x Hf hx s3 f3 => bad nx _ s2 x Hf hx s3 f3⟩)⟩
        · rw [hn] at nx
          dsimp only at nx
          refine ⟨_, rfl, rfl, _, rfl, iteF ?_⟩
          obtain ⟨as, hR, hA, hK⟩ := RT.same s2
          have sT2 := sT.trans s2
          have app : upB (rowsE es) x = false → tDrop (tBM K "list" rAppend (tVar 2) (tCons (tVar 5) tNil)) { nx := fun σ G => ∃ y3 y4 y5 es, σ = [some (V.ref l), some (V.int d), some (V.ref R), y3, y4, y5] ∧ Same H G ∧ RowsL G R es ∧ rowsTo d ls (i + 1) = some (rowsE es), rt := Q, bk := tRet (tVar 2) { nx := fun x H' => Q V.non H', rt := Q }, ct := fun σ G => ∃ y3 y4 y5 es, σ = [some (V.ref l), some (V.int d), some (V.ref R), y3, y4, y5] ∧ Same H G ∧ RowsL G R es ∧ rowsTo d ls (i + 1) = some (rowsE es) }
              [some (V.ref l), some (V.int d), some (V.ref R), some (V.int (1 + (i : Int))), some (V.str z), some (V.ref r)] G2 := by
            intro u
            rw [u, if_neg (by decide)] at nx
            have RR : RowsL G2 R es := ⟨as, hR, hA, hK⟩
            obtain ⟨xs, g1, g2, g3⟩ := RR.snoc hr2 hp
            have le : es.length ≤ 5800 := by
              have := (rowsTo_good (show i ≤ ls.length by omega) g).2.1
              rw [rowsE_len] at this
              omega
            refine ⟨_, rfl, .inl ⟨rfl, _, SqL.of hR⟩, _, rfl, R, xs, .ref r, rfl, rfl, g1, by rw [g2, sz_eq]; omega, _, _, _, _, rfl, fun a o zz => (upd_ne (ne_of_none zz nR)).trans (sT2 _ _ zz), g3, ?_⟩
            rw [nx]
            unfold rowsE
            rw [List.map_append]
            rfl
          rcases List.eq_nil_or_concat es with rfl | ⟨fs, e, rfl⟩
          · cases hA
            exact ⟨_, rfl, false, .inl ⟨_, SqL.of hR, rfl⟩, iteF (iteF (app rfl))⟩
          · obtain ⟨bs, a, rfl⟩ : ∃ bs a, as = bs ++ [a] := by
              rcases List.eq_nil_or_concat as with rfl | ⟨bs, a, rfl⟩
              · have := hA.len
                simp at this
              · exact ⟨bs, a, List.concat_eq_append⟩
            rw [List.concat_eq_append] at hA hK app nx
            have ha : G2 a = some (.tup [.ref e.2.1, .int e.2.2]) := by
              obtain ⟨a', e', h1, h2, h3⟩ := RowsAt.row (i := bs.length) (v := .ref a) hA (by simp)
              have ll : bs.length = fs.length := by
                have := hA.len
                simpa using this
              rw [ll] at h2
              have : e' = e := by simpa using h2.symm
              subst this
              cases h1
              exact h3
            have hK' := hK e (by simp)
            have ub : upB (rowsE (fs ++ [e])) x = leS x e.1 := by
              unfold upB rowsE
              rw [List.map_append, List.map_cons, List.map_nil, List.getLast?_concat]
              rfl
            rw [List.map_append] at hR
            refine ⟨_, rfl, true, .inl ⟨_, SqL.of hR, by simp⟩, iteT ⟨_, rfl, r, _, 0, .ref p, rfl, rfl, SqT.of hr2, atI_nat (j := 0) rfl, _, rfl, 1, rfl, R, _, -1, .ref a, rfl, rfl, SqL.of hR, atI_last _ _, a, _, 0, .ref e.2.1, rfl, rfl, SqT.of ha, atI_nat (j := 0) rfl, p, e.2.1, x, e.1, rfl, rfl, hp, hK', _, rfl, ?_⟩⟩
            rw [← ub]
            cases u : upB (rowsE (fs ++ [e])) x with
            | false => exact iteF (app u)
            | true =>
              rw [u, if_pos rfl] at nx
              exact iteT ⟨_, rfl, mk_use rfl (by decide) fun x Hf hx s3 f3 => bad nx _ s2 x Hf hx s3 f3⟩
    · rintro τ G ⟨y3, y4, y5, es, rfl, sG, RG, g⟩
      rw [List.length_map] at g
      exact ⟨_, rfl, q2 R es G g sG RG⟩
theorem cut_one (xs : List V) : cutV xs (some 1) none = xs.tail := by
  unfold cutV
  rw [show (some (1 : Int)) = some ((1 : Nat) : Int) from rfl, HT.sIx_nat, HT.sIx_none]
  cases xs with
  | nil => rfl
  | cons x xs =>
    rw [List.length_cons, show min 1 (xs.length + 1) = 1 by omega, List.drop_one, List.tail_cons]
    exact List.take_of_length_le (by omega)
theorem asc_of {d : Int} {es : DEs} (g : GoodRs d (rowsE es)) : Asc es := by
  refine ⟨?_, fun e he => (g.ok (e.1, e.2.2) (List.mem_map.mpr ⟨e, he, rfl⟩)).2.2.1⟩
  have := g.up
  unfold rowsE at this
  rw [List.pairwise_map] at this
  exact this
def spParseH (T : Txt K mg) (w : World) : Sp := fun vs H Q E => ∃ z : Str, vs = [.str z] ∧ z.length ≤ 5700 ∧ (∀ i, HRes z (.bad i) → Throws T.e_BadText.C (badTextI i) H E) ∧
  ∀ d es p H', HRes z (.told d (rowsE es)) → Same H H' → HeapAt PySem.Challenge.pw_grainyard_k65_texts_of_heaps w T.C_Heap H' p d es → Q (.ref p) H'
theorem ok_parse_heap (T : Txt K mg) : FnOk PySem.Challenge.pw_grainyard_k65_texts_of_heaps w K mg base (L2.CX PySem.Challenge.pw_grainyard_k65_texts_of_heaps w) 8 T.f_parse_heap T.d_parse_heap ["text"] (spParseH T w) := by
  refine T.F_parse_heap.okX sc_parse_heap (fun vs H Q E h => ?_) (fun cdv A outer s H vs Q E hr h => ?_)
  · obtain ⟨z, rfl, _⟩ := h
    rfl
  · obtain ⟨z, rfl, hz, q1, q2⟩ := h
    refine ⟨_, (pss_cons (ps_asg (pe_split (pv 0) pe_str) (pg_starL (by rfl) (pgs_cons (pg_name (i := 4) sc_parse_heap.nd rfl (Or.inl rfl)) (pgs_cons (pg_name (i := 3) sc_parse_heap.nd rfl (Or.inl rfl)) pgs_nil))))
      (Evl.pss_cut (ps_set (i := 1) sc_parse_heap.nd rfl (Or.inl rfl) (pe_ifExp (pt_truth (pv 4) (fun _ => rfl)) (pe_call (ok_read_root T) (hr.mono (by decide)) (by rfl) T.g_read_root T.F_read_root.kp T.b_read_root .nil pass0 (pa_cons (pe_ix ix_list (pv 4) pe_int (fun _ _ => rfl)) pa_nil)) pe_non))
      (pss_cons (ps_if (pt_cmpR op_isN (pv 1) pe_non (nomark _)) (pss_one (ps_raise rfl (takes_of rfl rfl rfl rfl) (pmk_oex (oex_of T.e_BadText) T.e_BadText.iC T.e_BadText.tI (ini_BadText T) (hr.mono (by decide)) (bi_BadText T) .nil pass0 (by rfl) T.e_BadText.g (pa_cons pe_int pa_nil)))) pss_nil)
      (pss_cons (ps_set (i := 2) sc_parse_heap.nd rfl (Or.inl rfl) (pe_call (ok_read_rows T) (hr.mono (by decide)) (by rfl) T.g_read_rows T.F_read_rows.kp T.b_read_rows .nil (passes_call (takes_of rfl rfl rfl rfl) (fun _ _ _ _ h => h)) (pa_cons (pe_slice sl_list (pv 4) (po_some pe_int) po_none) (pa_cons (pv 1) pa_nil))))
      (pss_cons (ps_if (pt_truth (pv 3) (fun _ => rfl)) (pss_one (ps_raise rfl (takes_of rfl rfl rfl rfl) (pmk_oex (oex_of T.e_BadText) T.e_BadText.iC T.e_BadText.tI (ini_BadText T) (hr.mono (by decide)) (bi_BadText T) .nil pass0 (by rfl) T.e_BadText.g (pa_cons (pe_callB call_len_seq (by rfl) T.n_len (by decide +kernel) (pa_cons (pv 4) pa_nil)) pa_nil)))) pss_nil)
      (pss_one (ps_ret (pe_make T.M_Heap (ok_Heap_init T) (hr.mono (by decide)) (by rfl) T.g_Heap T.b_Heap_init .nil pass_never (pa_cons (pv 1) (pa_cons (pv 2) pa_nil)))))))))), ?_⟩
    obtain ⟨l1, l2, l3⟩ := lines_len hz
    refine ⟨_, rfl, ⟨_, rfl⟩, z, _, rfl, rfl, by decide +kernel, by rw [sz_eq]; omega, fun L nL => ?_⟩
    have sL := same_new (o := .lst ((Txt.split z (Str.ofString "\n")).map V.str)) nL
    refine ⟨L, (linesN z).map V.str, .str (lastN z), rfl, SqL.of (by rw [upd_same, split_all, List.map_append]; rfl), fun D nD => ⟨.ref D, _, rfl, .str (lastN z), _, rfl, rfl, ?_⟩⟩
    have sD := same_new (o := .lst ((linesN z).map V.str)) nD
    have s0 := sL.trans sD
    have hD : upd (upd H L (.lst ((Txt.split z (Str.ofString "\n")).map V.str))) D (.lst ((linesN z).map V.str)) D = some (.lst ((linesN z).map V.str)) := upd_same
    generalize upd (upd H L (.lst ((Txt.split z (Str.ofString "\n")).map V.str))) D (.lst ((linesN z).map V.str)) = H1 at s0 hD ⊢
    clear sL sD nD
    refine ⟨fun σ G => σ = [some (.str z), some (optV (rootN z)), none, some (.str (lastN z)), some (.ref D)] ∧ Same H1 G, ?_, ?_⟩
    · unfold rootN
      cases hl : linesN z with
      | nil =>
        rw [hl] at hD
        exact ⟨_, rfl, false, .inl ⟨_, SqL.of hD, rfl⟩, iteF ⟨rfl, Same.refl _⟩⟩
      | cons y r =>
        rw [hl] at hD l1
        exact ⟨_, rfl, true, .inl ⟨_, SqL.of hD, rfl⟩, iteT ⟨_, rfl, D, _, 0, .str y, rfl, rfl, SqL.of hD, atI_nat (j := 0) rfl, y, rfl, l1 y List.mem_cons_self, fun G s1 => ⟨rfl, s1⟩⟩⟩
    rintro σ G ⟨rfl, s1⟩
    have s2 := s0.trans s1
    have hD2 := s1 _ _ hD
    refine ⟨_, rfl, rfl, _, rfl, ?_⟩
    cases hr0 : rootN z with
    | none => exact iteT (mk_use rfl (by decide) fun x Hf hx s3 f3 => (q1 0 (.root hr0)).up s2 x Hf hx s3 f3)
    | some d =>
      obtain ⟨hh, hd⟩ := head_lines hr0
      refine iteF ⟨_, rfl, 1, rfl, D, _, rfl, SqL.of hD2, fun D2 nD2 => ⟨_, rfl, ?_⟩⟩
      rw [cut_one, ← List.map_tail]
      have s3 := same_new (o := .lst ((linesN z).tail.map V.str)) nD2
      have lt : (linesN z).tail.length ≤ 5800 := by rw [List.length_tail]; omega
      refine ⟨D2, (linesN z).tail, d, rfl, upd_same, isRB_small hd, fun y hy => l1 y (List.mem_of_mem_tail hy), lt, fun i rs g hi b => (q1 _ (.row hr0 g hi b)).up (s2.trans s3), fun R es G2 g s4 RL => ?_⟩
      have s5 := s2.trans (s3.trans s4)
      have hD5 := (s3.trans s4) _ _ hD2
      by_cases t0 : lastN z = Str.ofString ""
      · have good := rowsTo_good (Nat.le_refl _) g
        have asc := asc_of good.1
        have few := few_rows (show z.length ≤ 5900 by omega) (Nat.le_refl _) g
        refine ⟨_, rfl, false, ⟨by rw [sz_eq]; omega, ?_⟩, iteF ⟨_, rfl, _, rfl, mk_heap (T := T) (w := w) hd RL.handed ?_ ?_ ?_ fun x H' hx s6 hA => ?_⟩⟩
        · rw [t0]
          decide +kernel
        · intro e he
          obtain ⟨⟨b1, b2, b3, b4⟩, _⟩ := good.1.ok (e.1, e.2.2) (List.mem_map.mpr ⟨e, he, rfl⟩)
          exact ⟨b200 b1, b200 b2, b200 b3, b200 b4⟩
        · intro e he
          obtain ⟨_, _, g1, g2⟩ := good.1.ok (e.1, e.2.2) (List.mem_map.mpr ⟨e, he, rfl⟩)
          unfold rowB
          rw [decide_eq_true g1, g2]
          rfl
        · have := good.2.1
          rw [rowsE_len] at this
          omega
        · rw [merge_id asc.nd, sort_id asc] at hA
          exact q2 d es x H' (.told hr0 g t0) (s5.trans s6) hA
      · refine ⟨_, rfl, true, ⟨by rw [sz_eq]; omega, ?_⟩, iteT ⟨_, rfl, D, _, rfl, .inl (SqL.of hD5), mk_use rfl (by decide) fun x Hf hx s6 f6 => ?_⟩⟩
        · have : (lastN z).length ≠ 0 := fun z0 => t0 (TL.ext_tl (by
            have e := TL.len_tl (lastN z)
            rw [z0] at e
            rw [List.eq_nil_of_length_eq_zero e.symm]
            decide +kernel))
          exact (bne_iff_ne.mpr (by omega)).symm
        · have := (q1 _ (.tail hr0 g t0)).up s5 x Hf hx s6
          refine this ?_
          rw [f6]
          unfold badTextI
          rw [← List.length_map (f := V.str)]
          rfl
end
/-! ### texts of heaps that are read: the law -/
theorem isRB_out {n : Int} (h : ¬ (2 ≤ n ∧ n ≤ 99)) : isRB n = false := by
  unfold isRB
  rw [decide_eq_false h]
  rfl
theorem inV_in : ∀ k : Nat, k < 100 → inV (.int (k : Int)) ((rootsTo 98).map V.int) = isRB (k : Int) := by decide +kernel
theorem inV_roots (n : Int) : inV (.int n) ((rootsTo 98).map V.int) = isRB n := by
  by_cases h : 2 ≤ n ∧ n ≤ 99
  · obtain ⟨m, rfl⟩ := Int.eq_ofNat_of_zero_le (show 0 ≤ n by omega)
    exact inV_in m (by omega)
  · rw [isRB_out h]
    unfold inV
    rw [List.any_eq_false]
    intro y hy
    obtain ⟨i, hi, rfl⟩ := List.mem_map.mp hy
    obtain ⟨a1, a2, _⟩ := roots_are hi
    show ¬ ((i == n) = true)
    intro z
    have := eq_of_beq z
    omega
section
variable {base : Heap} {K : PySem.W.Frag} {mg : Str → Option Value} {P : Program} {w : World}
def spFlaw : Sp := fun vs H Q _ => ∃ (p : Addr) (x : Sh) (n d : Int), vs = [.ref p, .int n, .int d] ∧ ShAt H p x ∧ Small20 x ∧ d.natAbs < 2 ^ 64 ∧ ((1 ≤ n ∧ shB d x = true) → Q .non H) ∧ (¬ (1 ≤ n ∧ shB d x = true) → ∀ q H', Same H H' → Q (.ref q) H')
theorem b9k {x : Int} (h : x.natAbs < 10 ^ 20) : x.natAbs < 2 ^ 9000 := w100 (b200 h)
theorem sg_one (v : Int) : decide (sgnI v < 1) = !decide (0 < v) := by
  rcases Int.lt_trichotomy v 0 with h | h | h
  · rw [sgnI_neg h, decide_eq_false (show ¬ 0 < v by omega)]
    decide
  · subst h
    decide
  · rw [sgnI_pos h, decide_eq_true h]
    decide
theorem ok_row_flaw (T : Txt K mg) : FnOk P w K mg base CX0 2 T.f_row_flaw T.d_row_flaw ["_law_sheet", "_law_copies", "_law_root"] spFlaw := by
  refine T.F_row_flaw.ok sc_row_flaw (fun vs H Q E h => ?_) (fun cdv A outer s H vs Q E hr h => ?_)
  · obtain ⟨p, x, n, d, rfl, _⟩ := h
    rfl
  · obtain ⟨p, x, n, d, rfl, ⟨u, v, hp, hu, hv⟩, ⟨b1, b2, b3, b4⟩, hd, q1, q2⟩ := h
    refine ⟨_, (pss_cons (ps_if (PW.pt (pw_or (pt_cmpR op_lt (pe_call (ok_lsign T) (hr.mono (by decide)) (by rfl) T.g_lsign T.F_lsign.kp T.b_lsign .nil pass0 (pa_cons (pe_ix ix_tup (pv 0) pe_int (fun _ _ => rfl)) (pa_cons (pv 2) pa_nil))) pe_int (nomark _)) (pw_or1 (pt_cmpR op_lt (pe_call (ok_lsign T) (hr.mono (by decide)) (by rfl) T.g_lsign T.F_lsign.kp T.b_lsign .nil pass0 (pa_cons (pe_ix ix_tup (pv 0) pe_int (fun _ _ => rfl)) (pa_cons (pv 2) pa_nil))) pe_int (nomark _))))) (pss_one (ps_ret (pe_tup (pa_cons pe_str (pa_cons pe_non pa_nil))))) pss_nil)
      (pss_one (ps_ret (pe_ifExp (pt_cmpR op_lt (pv 1) pe_int (nomark _)) (pe_tup (pa_cons pe_str (pa_cons (pv 1) pa_nil))) pe_non)))), ?_⟩
    refine ⟨_, rfl, p, _, 0, .ref u, rfl, rfl, SqT.of hp, atI_nat (j := 0) rfl, _, rfl, u, d, _, _, rfl, SqT.of hu, hd, b9k b1, b9k b2, _, 1, rfl, rfl, _, rfl, ?_⟩
    rw [sg_one]
    unfold shB at q1 q2
    have bad : ¬ (1 ≤ n ∧ shB d x = true) → tRet (tTup (tCons (tC (.str (Str.ofString "BadSheet"))) (tCons (tC .non) tNil))) { nx := fun _ H' => Q .non H', rt := Q } [some (.ref p), some (.int n), some (.int d)] H := fun g => ⟨by show 2 ≤ sizeLine; decide, fun t nt => q2 g t _ (same_new nt)⟩
    cases z1 : decide (0 < vl x.1 x.2.1 d) with
    | false => exact iteT (iteT (bad fun g => by have := g.2; unfold shB at this; rw [z1] at this; cases this))
    | true =>
      refine iteF ⟨_, rfl, p, _, 1, .ref v, rfl, rfl, SqT.of hp, atI_nat (j := 1) rfl, _, rfl, v, d, _, _, rfl, SqT.of hv, hd, b9k b3, b9k b4, _, 1, rfl, rfl, _, rfl, ?_⟩
      rw [sg_one]
      cases z2 : decide (0 < vl x.2.2.1 x.2.2.2 d) with
      | false => exact iteT (bad fun g => by have := g.2; unfold shB at this; rw [z1, z2] at this; cases this)
      | true =>
        rw [z1, z2] at q1 q2
        refine iteF ⟨_, rfl, n, 1, rfl, rfl, _, rfl, ite2 (fun l => ?_) fun l => ?_⟩
        · have l := of_decide_eq_true l
          exact ⟨_, rfl, by show 2 ≤ sizeLine; decide, fun t nt => q2 (fun g => by omega) t _ (same_new nt)⟩
        · exact q1 ⟨by have : ¬ n < 1 := fun z => l (decide_eq_true z); omega, rfl⟩
theorem dstrs {H : Hp} {l : Addr} {ns : List Str} (h : H l = some (.lst (ns.map V.str))) : Dp K H (.ref l) (.list (ns.map .str)) := by
  refine .lst (SqL.of h) ?_
  clear h
  induction ns with
  | nil => exact .nil
  | cons n ns ih => exact .cons (.str _) ih
theorem strs_plainL : ∀ ns : List Str, PyData.plainAll (ns.map .str) = true
  | [] => rfl
  | n :: ns => by
    have := strs_plainL ns
    simp [PyData.plainAll, PyData.plain, this]
theorem strs_nil (ns : List Str) : PyData.eqv (.list (ns.map .str)) (.list (([] : List Str).map .str)) = ns.isEmpty := by
  cases ns with
  | nil => simp [PyData.eqv, PyData.eqvAll]
  | cons e es => simp [PyData.eqv, PyData.eqvAll]
theorem cut_len65 (z : Str) (lo hi : Option Int) : (cutS z lo hi).length ≤ z.length := by
  unfold cutS
  show (mkS _).length ≤ _
  rw [mkS_len, List.length_take, List.length_drop, TL.len_tl]
  show min _ (z.cps.toList.length - _) ≤ z.cps.toList.length
  omega
/-- what the law tells of a text -/
inductive DueH (P : Program) (w : World) (z : Str) (H : Hp) : V → Prop
  | bad {i : Int} {t : Addr} (h : HRes z (.bad i)) (ht : H t = some (.tup [.str "BadText", .int i])) : DueH P w z H (.ref t)
  | told {d : Int} {es : DEs} {c t : Addr} (h : HRes z (.told d (rowsE es))) (ht : H t = some (.tup [.str "told", .int d, .ref c])) (D : DAt P w H c es) : DueH P w z H (.ref t)
def spHeapRead (P : Program) (w : World) : Sp := fun vs H Q _ => ∃ z : Str, vs = [.str z] ∧ z.length ≤ 5700 ∧ ∀ v H', Same H H' → DueH P w z H' v → Q v H'
def DueSh (H : Hp) (v : V) : Option Sh → Prop
  | none => v = .non
  | some x => ∃ p, v = .ref p ∧ ShAt H p x
/-- the sheet before -/
def Bef (es : DEs) (v : V) : Prop := (es = [] ∧ v = .non) ∨ ∃ fs e, es = fs ++ [e] ∧ v = .ref e.2.1
def headR (z : Str) : Option Int := match linesN z with | [] => none | y :: _ => if cutS y none (some 5) = Str.ofString "root " then rn (cutS y (some 5) none) else none
def headT (z : Str) : Str := (linesN z).head?.getD (Str.ofString "")
theorem headR_is (z : Str) : headR z = if cutS (headT z) none (some 5) = Str.ofString "root " then rn (cutS (headT z) (some 5) none) else none := by
  unfold headR headT
  cases linesN z with
  | nil => exact (if_neg (by decide +kernel)).symm
  | cons y r => rfl
theorem head_root (z : Str) : rootN z = (headR z).bind fun d => if isRB d = true then some d else none := by
  unfold rootN headR
  cases linesN z with
  | nil => rfl
  | cons y r =>
    dsimp only
    rw [root_law]
    show readRoot y = _
    unfold readRoot
    split
    · cases rn (Txt.partition y (Str.ofString " ")).2.2 with
      | none => rfl
      | some d => rfl
    · rfl
theorem headR_none {z : Str} (h : headR z = none) : rootN z = none := by
  rw [head_root, h]
  rfl
theorem headR_some {z : Str} {d : Int} (h : headR z = some d) : rootN z = if isRB d = true then some d else none := by
  rw [head_root, h]
  rfl
theorem ok_heap_read (T : Txt K mg) : FnOk P w K mg base CX0 4 T.f_heap_read T.d_heap_read ["_law_text_z"] (spHeapRead P w) := by
  refine T.F_heap_read.ok sc_heap_read (fun vs H Q E h => ?_) (fun cdv A outer s H vs Q E hr h => ?_)
  · obtain ⟨z, rfl, _⟩ := h
    rfl
  · obtain ⟨z, rfl, hz, q⟩ := h
    refine ⟨_, (pss_cons (ps_set (i := 1) sc_heap_read.nd rfl (Or.inl rfl) (pe_split (pv 0) pe_str))
      (pss_cons (ps_set (i := 2) sc_heap_read.nd rfl (Or.inl rfl) (pe_bm0 PySem.F.plainAttrs_list PySem.F.slot_list_pop PySem.F.type_list_pop mt_pop (pv 1)))
      (Evl.pss_cut (ps_set (i := 3) sc_heap_read.nd rfl (Or.inl rfl) (pe_ifExp (pt_cmpR (op_neP hr.units) (pv 1) (pe_lst pa_nil) (nomark _)) (pe_ix ix_list (pv 1) pe_int (fun _ _ => rfl)) pe_str))
      (Evl.pss_cut (ps_set (i := 4) sc_heap_read.nd rfl (Or.inl rfl) (pe_ifExp (pt_cmpR op_eq (pe_slice sl_str (pv 3) po_none (po_some pe_int)) pe_str (nomark _)) (pe_call (ok_number_read T) (hr.mono (by decide)) (by rfl) T.g_number_read T.F_number_read.kp T.b_number_read .nil pass0 (pa_cons (pe_slice sl_str (pv 3) (po_some pe_int) po_none) pa_nil)) pe_non))
      (pss_cons (ps_if (PW.pt (pw_or (pt_cmpR op_isN (pv 4) pe_non (nomark _)) (pw_or1 (pt_cmpR op_notIn_seq (pv 4) (pe_call0 (ok_roots T) (hr.mono (by decide)) (by rfl) T.g_roots T.F_roots.kp T.b_roots .nil pass0) (by rfl))))) (pss_one (ps_ret (pe_tup (pa_cons pe_str (pa_cons pe_int pa_nil))))) pss_nil)
      (pss_cons (ps_par (i := 6) (j := 7) (by rfl) sc_heap_read.nd rfl rfl (by decide) rfl rfl (pa_cons pe_dnewS (pa_cons pe_non pa_nil)) (by rfl))
      (pss_cons (ps_for PassesOwn.never rfl (pi_range2 (by rfl) T.n_range (pa_cons pe_int (pa_cons (pe_callB call_len_seq (by rfl) T.n_len (by decide +kernel) (pa_cons (pv 1) pa_nil)) pa_nil))) (pg_name (i := 5) sc_heap_read.nd rfl (Or.inl rfl)) (pss_cons (ps_set (i := 8) sc_heap_read.nd rfl (Or.inl rfl) (pe_split (pe_ix ix_list (pv 1) (pv 5) (fun _ _ => rfl)) pe_str))
      (Evl.pss_cut (ps_par (i := 9) (j := 10) (by rfl) sc_heap_read.nd rfl rfl (by decide) rfl rfl (pa_cons (pe_call (ok_number_read T) (hr.mono (by decide)) (by rfl) T.g_number_read T.F_number_read.kp T.b_number_read .nil pass0 (pa_cons (pe_ix ix_list (pv 8) pe_int (fun _ _ => rfl)) pa_nil)) (pa_cons (pe_call (ok_sheet_read T) (hr.mono (by decide)) (by rfl) T.g_sheet_read T.F_sheet_read.kp T.b_sheet_read .nil pass0 (pa_cons (pe_join pe_str (pe_slice sl_list (pv 8) (po_some pe_int) po_none)) pa_nil)) pa_nil)) (by rfl))
      (pss_cons (ps_if (PW.pt (pw_or (pt_cmpR op_isN (pv 9) pe_non (nomark _)) (pw_or (pt_cmpR op_isN (pv 10) pe_non (nomark _)) (pw_or1 (pt_cmpR op_notN (pe_call (ok_row_flaw T) (hr.mono (by decide)) (by rfl) T.g_row_flaw T.F_row_flaw.kp T.b_row_flaw .nil pass0 (pa_cons (pv 10) (pa_cons (pv 9) (pa_cons (pv 4) pa_nil)))) pe_non (nomark _)))))) (pss_one (ps_ret (pe_tup (pa_cons pe_str (pa_cons (pv 5) pa_nil))))) pss_nil)
      (pss_cons (ps_if (PW.pt (pw_and (pt_cmpR op_notN (pv 7) pe_non (nomark _)) (pw_and1 (pt_cmpR (op_leSh hr.units) (pv 10) (pv 7) (nomark _))))) (pss_one (ps_ret (pe_tup (pa_cons pe_str (pa_cons (pv 5) pa_nil))))) pss_nil)
      (pss_one (ps_asg (pe_tup (pa_cons (pv 9) (pa_cons (pv 10) pa_nil))) (pg_tup (by rfl) (pgs_cons (pg_sub (pv 6) (pv 10) (set_DS hr.units)) (pgs_cons (pg_name (i := 7) sc_heap_read.nd rfl (Or.inl rfl)) pgs_nil))))))))))
      (pss_one (ps_ret (pe_ifExp (pt_cmpR op_eq (pv 2) pe_str (nomark _)) (pe_tup (pa_cons pe_str (pa_cons (pv 4) (pa_cons (pv 6) pa_nil)))) (pe_tup (pa_cons pe_str (pa_cons (pe_callB call_len_seq (by rfl) T.n_len (by decide +kernel) (pa_cons (pv 1) pa_nil)) pa_nil))))))))))))), ?_⟩
    obtain ⟨l1, l2, l3⟩ := lines_len hz
    refine ⟨_, rfl, ⟨_, rfl⟩, z, _, rfl, rfl, by decide +kernel, by rw [sz_eq]; omega, fun L nL => ?_⟩
    have spl : (Txt.split z (Str.ofString "\n")).map V.str = (linesN z).map V.str ++ [.str (lastN z)] := by
      rw [split_all, List.map_append]
      rfl
    rw [spl]
    have sL := same_new (o := .lst ((linesN z).map V.str ++ [.str (lastN z)])) nL
    refine ⟨_, rfl, .inl ⟨rfl, _, SqL.of upd_same⟩, L, _, .str (lastN z), rfl, rfl, upd_same, by simp, ?_⟩
    rw [List.dropLast_concat]
    have s0 : Same H (upd (upd H L (.lst ((linesN z).map V.str ++ [.str (lastN z)]))) L (.lst ((linesN z).map V.str))) := fun a o e => (upd_ne (ne_of_none e nL)).trans (sL a o e)
    have hL : upd (upd H L (.lst ((linesN z).map V.str ++ [.str (lastN z)]))) L (.lst ((linesN z).map V.str)) L = some (.lst ((linesN z).map V.str)) := upd_same
    show Evl.tCut _ _ _ _ (upd (upd H L (.lst ((linesN z).map V.str ++ [.str (lastN z)]))) L (.lst ((linesN z).map V.str)))
    generalize upd (upd H L (.lst ((linesN z).map V.str ++ [.str (lastN z)]))) L (.lst ((linesN z).map V.str)) = H1 at s0 hL ⊢
    clear sL spl
    have hT : (headT z).length ≤ 5800 := by
      unfold headT
      cases e : linesN z with
      | nil => decide +kernel
      | cons y r => exact l1 y (by rw [e]; exact List.mem_cons_self)
    refine ⟨fun σ G => σ = [some (.str z), some (.ref L), some (.str (lastN z)), some (.str (headT z)), none, none, none, none, none, none, none] ∧ Same H1 G, ?_, ?_⟩
    · refine ⟨_, rfl, Nat.zero_le _, fun p np => ⟨_, _, dstrs ((same_new (o := .lst []) np) _ _ hL), dstrs (ns := []) upd_same, by simp [PyData.plain, strs_plainL], by decide, Nat.le_trans (Nat.min_le_right _ _) (by decide), _, rfl, ?_⟩⟩
      rw [strs_nil]
      unfold headT
      cases e : linesN z with
      | nil => exact iteF ⟨rfl, same_new np⟩
      | cons y r =>
        rw [e] at hL
        exact iteT ⟨_, rfl, L, _, 0, .str y, rfl, rfl, SqL.of ((same_new (o := .lst []) np) _ _ hL), atI_nat (j := 0) rfl, rfl, same_new np⟩
    rintro σ G1 ⟨rfl, s1⟩
    refine ⟨fun σ G => σ = [some (.str z), some (.ref L), some (.str (lastN z)), some (.str (headT z)), some (optV (headR z)), none, none, none, none, none, none] ∧ Same G1 G, ?_, ?_⟩
    · rw [headR_is]
      refine ⟨_, rfl, 5, rfl, headT z, rfl, by rw [sz_eq]; omega, rfl, _, rfl, ?_⟩
      rw [dS]
      by_cases e : cutS (headT z) none (some 5) = Str.ofString "root "
      · rw [decide_eq_true e, if_pos e]
        refine iteT ⟨_, rfl, 5, rfl, headT z, rfl, by rw [sz_eq]; omega, _, rfl, ?_, fun G' s' => ⟨rfl, s'⟩⟩
        have := cut_len65 (headT z) (some 5) none
        omega
      · rw [decide_eq_false e, if_neg e]
        exact iteF ⟨rfl, Same.refl _⟩
    rintro σ G2 ⟨rfl, s2⟩
    have s02 := s0.trans (s1.trans s2)
    have hL2 := (s1.trans s2) _ _ hL
    clear hL s0 s1 s2
    refine ⟨_, rfl, rfl, _, rfl, ?_⟩
    have badR : ∀ G', Same G2 G' → rootN z = none → tRet (tTup (tCons (tC (.str (Str.ofString "BadText"))) (tCons (tC (.int 0)) tNil))) { nx := fun _ H' => Q .non H', rt := Q } [some (.str z), some (.ref L), some (.str (lastN z)), some (.str (headT z)), some (optV (headR z)), none, none, none, none, none, none] G' := fun G' s' h => ⟨by show 2 ≤ sizeLine; decide, fun t nt => q _ _ (s02.trans (s'.trans (same_new nt))) (.bad (.root h) upd_same)⟩
    cases hh : headR z with
    | none =>
      rw [hh] at badR
      exact iteT (iteT (badR _ (Same.refl _) (headR_none hh)))
    | some d =>
      rw [hh] at badR
      refine iteF ⟨_, rfl, rfl, fun p G3 np s3 hp => ⟨p, _, rfl, .inl (SqL.of hp), rfl, by decide +kernel, _, rfl, ?_⟩⟩
      rw [show inV (optV (some d)) ((rootsTo 98).map V.int) = isRB d from inV_roots d]
      cases hd : isRB d with
      | false => exact iteT (badR _ s3 (by rw [headR_some hh, hd]; rfl))
      | true =>
        have hr0 : rootN z = some d := by rw [headR_some hh, hd]; rfl
        refine iteF ?_
        have s03 := s02.trans s3
        have hL3 := s3 _ _ hL2
        obtain ⟨hh1, _⟩ := head_lines hr0
        have ll : (linesN z).length = (linesN z).tail.length + 1 := by
          rw [hh1]
          simp
        refine fun c nc => ⟨_, _, rfl, ?_⟩
        have sc := same_new (o := DS P w c []) nc
        have s04 := s03.trans sc
        have hcH : H c = none := s03.free nc
        have hL4 : upd G3 c (DS P w c []) L = _ := sc _ _ hL3
        have neL : L ≠ c := ne_of_none hL3 nc
        have D0 : DAt P w (upd G3 c (DS P w c [])) c [] := ⟨upd_same, fun x hx => by cases hx⟩
        show tSeq _ _ _ _ (upd G3 c (DS P w c []))
        generalize upd G3 c (DS P w c []) = G4 at s04 hL4 D0 ⊢
        clear sc s03 hL3 hp hL2 s02 s3 np badR
        have elen : (((linesN z).map V.str).length : Int) = (linesN z).tail.length + 1 := by
          rw [List.length_map, ll]
          rfl
        refine ⟨_, rfl, L, _, rfl, .inl (SqL.of hL4), 1, _, rfl, ⟨by decide, by decide, by rw [elen]; omega, by rw [elen]; omega⟩, ?_⟩
        rw [elen, show ((linesN z).tail.length + 1 - 1 : Int).toNat = (linesN z).tail.length by omega]
        refine for_range (lo := 1) (n := (linesN z).tail.length) (fun i σ G => ∃ y5 bef y8 y9 y10 es, σ = [some (.str z), some (.ref L), some (.str (lastN z)), some (.str (headT z)), some (.int d), y5, some (.ref c), some bef, y8, y9, y10] ∧ Same H G ∧ G L = some (.lst ((linesN z).map V.str)) ∧ DAt P w G c es ∧ rowsTo d (linesN z).tail i = some (rowsE es) ∧ Bef es bef) ⟨none, .non, none, none, none, [], rfl, s04, hL4, D0, rfl, .inl ⟨rfl, rfl⟩⟩ ?_ ?_
        · rintro i σ G hi ⟨y5, bef, y8, y9, y10, es, rfl, sG, hLG, DG, g, hb⟩
          obtain ⟨y, hy⟩ : ∃ y, (linesN z).tail[i]? = some y := ⟨_, List.getElem?_eq_getElem hi⟩
          have hy1 : ((linesN z).map V.str)[i + 1]? = some (.str y) := by
            rw [hh1, List.map_cons, List.getElem?_cons_succ, List.getElem?_map, hy]
            rfl
          have ly := l1 y (List.mem_of_mem_tail (List.mem_of_getElem? hy))
          have nx := rows_next g hy
          obtain ⟨r, sp, jr⟩ := split_first y
          obtain ⟨pl1, pl2⟩ := par_len y (Str.ofString " ")
          refine ⟨_, rfl, _, rfl, L, _, 1 + (i : Int), .str y, rfl, rfl, SqL.of hLG, by have := atI_nat (j := i + 1) hy1; rwa [show ((i + 1 : Nat) : Int) = 1 + (i : Int) by omega] at this, ⟨_, rfl⟩, y, _, rfl, rfl, by decide +kernel, by rw [sz_eq]; omega, fun L2 nL2 => ?_⟩
          rw [sp]
          have s5 := same_new (o := .lst (((Txt.partition y (Str.ofString " ")).1 :: r).map V.str)) nL2
          have hL2 : upd G L2 (.lst (((Txt.partition y (Str.ofString " ")).1 :: r).map V.str)) L2 = some (.lst (((Txt.partition y (Str.ofString " ")).1 :: r).map V.str)) := upd_same
          show Evl.tCut _ _ _ _ (upd G L2 (.lst (((Txt.partition y (Str.ofString " ")).1 :: r).map V.str)))
          generalize upd G L2 (.lst (((Txt.partition y (Str.ofString " ")).1 :: r).map V.str)) = G5 at s5 hL2 ⊢
          have w2 := split_weight y (Str.ofString " ") (by decide +kernel)
          rw [sp, List.map_cons, List.sum_cons, List.length_cons] at w2
          unfold readRow at nx
          generalize Txt.partition y (Str.ofString " ") = pt at nx sp jr pl1 pl2 hL2 w2
          obtain ⟨ta, tg, tb⟩ := pt
          dsimp only at nx sp jr pl1 pl2 hL2 w2
          have sb1 : (Str.ofString " ").length = 1 := by decide +kernel
          refine ⟨fun σ G' => ∃ v, σ = [some (.str z), some (.ref L), some (.str (lastN z)), some (.str (headT z)), some (.int d), some (.int (1 + (i : Int))), some (.ref c), some bef, some (.ref L2), some (optV (rn ta)), some v] ∧ Same G5 G' ∧ DueSh G' v (readSh tb), ?_, ?_⟩
          · refine ⟨_, rfl, L2, _, 0, .str ta, rfl, rfl, SqL.of hL2, atI_nat (j := 0) rfl, ta, rfl, by omega, fun G6 s6 => ⟨⟨_, rfl⟩, _, rfl, 1, rfl, L2, _, rfl, SqL.of (s6 _ _ hL2), fun L3 nL3 => ?_⟩⟩
            rw [cut_one]
            have s7 := s6.trans (same_new (o := .lst (((ta :: r).map V.str).tail)) nL3)
            refine ⟨_, L3, r, rfl, rfl, .inl (SqL.of upd_same), by rw [sb1]; omega, ?_⟩
            rw [TL.join_eq, jr]
            exact ⟨tb, rfl, by omega, fun G8 s8 hn => ⟨_, _, rfl, _, rfl, s7.trans s8, by rw [hn]; rfl⟩, fun x p G8 hx s8 hp => ⟨_, _, rfl, _, rfl, s7.trans s8, by rw [hx]; exact ⟨p, rfl, hp⟩⟩⟩
          rintro σ G6 ⟨v, rfl, s6, hv⟩
          have s56 := s5.trans s6
          have sG6 := sG.trans s56
          have bad : ∀ G', Same G6 G' → rowsTo d (linesN z).tail (i + 1) = none → tRet (tTup (tCons (tC (.str (Str.ofString "BadText"))) (tCons (tVar 5) tNil))) { nx := fun _ H' => Q .non H', rt := Q } [some (.str z), some (.ref L), some (.str (lastN z)), some (.str (headT z)), some (.int d), some (.int (1 + (i : Int))), some (.ref c), some bef, some (.ref L2), some (optV (rn ta)), some v] G' := fun G' s' hb' => by
            refine ⟨_, rfl, by show 2 ≤ sizeLine; decide, fun t nt => q _ _ (sG6.trans (s'.trans (same_new nt))) (.bad (i := (i : Int) + 1) (.row hr0 g hi hb') ?_)⟩
            rw [upd_same, Int.add_comm]
          unfold rn at nx bad ⊢
          cases hn : readN ta.cps.toList with
          | none =>
            rw [hn] at nx bad
            exact ⟨_, rfl, rfl, _, rfl, iteT (iteT (bad _ (Same.refl _) nx))⟩
          | some n =>
            rw [hn] at nx bad
            refine ⟨_, rfl, rfl, _, rfl, iteF ?_⟩
            cases hx : readSh tb with
            | none =>
              rw [hx] at nx hv
              obtain rfl : v = .non := hv
              exact ⟨_, rfl, rfl, _, rfl, iteT (iteT (bad _ (Same.refl _) nx))⟩
            | some x =>
              rw [hx] at nx hv
              obtain ⟨p, rfl, hp⟩ := hv
              have bx := (readSh_text hx).2
              dsimp only at nx
              refine ⟨_, rfl, rfl, _, rfl, iteF ⟨_, rfl, _, rfl, _, rfl, p, x, n, d, rfl, hp, bx, isRB_small hd, fun ok => ?_, fun no qa G7 s7 => ?_⟩⟩
              · rw [if_pos ok] at nx
                dsimp only at nx
                refine ⟨rfl, _, rfl, iteF ?_⟩
                have put : upB (rowsE es) x = false → tAsg (tTup (tCons (tVar 9) (tCons (tVar 10) tNil))) (gTup K 2 (gCons (gSub (tVar 6) (tVar 10) (tSetDS P w)) (gCons (gName 7) gNil))) { nx := fun σ G => ∃ y5 bef y8 y9 y10 es, σ = [some (.str z), some (.ref L), some (.str (lastN z)), some (.str (headT z)), some (.int d), y5, some (.ref c), some bef, y8, y9, y10] ∧ Same H G ∧ G L = some (.lst ((linesN z).map V.str)) ∧ DAt P w G c es ∧ rowsTo d (linesN z).tail (i + 1) = some (rowsE es) ∧ Bef es bef, rt := Q }
                    [some (.str z), some (.ref L), some (.str (lastN z)), some (.str (headT z)), some (.int d), some (.int (1 + (i : Int))), some (.ref c), some bef, some (.ref L2), some (.int n), some (.ref p)] G6 := by
                  intro u
                  rw [u, if_neg (by decide)] at nx
                  have good := rowsTo_good (show i ≤ (linesN z).tail.length by omega) g
                  have ups : ∀ e ∈ es, ltS e.1 x := fun e he => up_snoc good.1.up u (e.1, e.2.2) (List.mem_map.mpr ⟨e, he, rfl⟩)
                  have vn : valD es x = none := valD_none.mpr fun m => by
                    obtain ⟨e, he, e1⟩ := List.mem_map.mp m
                    have := ups e he
                    rw [e1] at this
                    exact ltS_irr _ this
                  have el : es.length ≤ 5800 := by
                    have := good.2.1
                    rw [rowsE_len] at this
                    omega
                  refine ⟨_, rfl, _, rfl, by show 2 ≤ sizeLine; decide, fun t nt => ?_⟩
                  have s7 := same_new (o := .tup [.int n, .ref p]) nt
                  have D7 := DG.same (s56.trans s7)
                  refine ⟨t, _, rfl, SqT.of upd_same, rfl, .int n, _, rfl, _, rfl, _, rfl, c, p, es, x, n, rfl, rfl, rfl, D7, hp.same s7, by rw [sz_eq]; omega, .ref p, _, rfl, rfl, _, _, _, _, _, es ++ [(x, p, n)], rfl, fun a o zz => (upd_ne (ne_of_none zz hcH)).trans (s7 _ _ (sG6 _ _ zz)), (upd_ne neL).trans (s7 _ _ (s56 _ _ hLG)), ?_, ?_, .inr ⟨es, _, rfl, rfl⟩⟩
                  · have := D7.put (n := n) (hp.same s7)
                    rw [putD_new vn] at this ⊢
                    exact this
                  · rw [nx]
                    unfold rowsE
                    rw [List.map_append]
                    rfl
                rcases hb with ⟨rfl, rfl⟩ | ⟨fs, e, rfl, rfl⟩
                · exact ⟨_, rfl, rfl, _, rfl, iteF (iteF (put rfl))⟩
                · have he := (DG.same s56).ks e (by simp)
                  have ub : upB (rowsE (fs ++ [e])) x = leS x e.1 := by
                    unfold upB rowsE
                    rw [List.map_append, List.map_cons, List.map_nil, List.getLast?_concat]
                    rfl
                  refine ⟨_, rfl, rfl, _, rfl, iteT ⟨_, rfl, _, rfl, p, e.2.1, x, e.1, rfl, rfl, hp, he, _, rfl, ?_⟩⟩
                  rw [← ub]
                  cases u : upB (rowsE (fs ++ [e])) x with
                  | false => exact iteF (put u)
                  | true =>
                    rw [u, if_pos rfl] at nx
                    exact iteT (bad _ (Same.refl _) nx)
              · rw [if_neg no] at nx
                exact ⟨rfl, _, rfl, iteT (bad _ s7 nx)⟩
        · rintro σ G ⟨y5, bef, y8, y9, y10, es, rfl, sG, hLG, DG, g, hb⟩
          refine ⟨_, rfl, rfl, _, rfl, ?_⟩
          rw [dS]
          by_cases t0 : lastN z = Str.ofString ""
          · rw [decide_eq_true t0]
            refine iteT ⟨_, rfl, _, rfl, by show 3 ≤ sizeLine; decide, fun t nt => ?_⟩
            have e := same_new (o := .tup [.str "told", .int d, .ref c]) nt
            exact q _ _ (sG.trans e) (.told (.told hr0 g t0) upd_same (DG.same e))
          · rw [decide_eq_false t0]
            refine iteF ⟨_, rfl, L, _, rfl, .inl (SqL.of hLG), by show 2 ≤ sizeLine; decide, fun t nt => ?_⟩
            have e := same_new (o := .tup [.str "BadText", .int (((linesN z).map V.str).length : Nat)]) nt
            refine q _ _ (sG.trans e) (.bad (i := ((linesN z).length : Nat)) (.tail hr0 g t0) ?_)
            rw [upd_same, List.length_map]
end
/-! ### a text so many times; texts that are bent -/
section
variable {X : Cx}
theorem op_strmul : OpR X (binaryOp .Mult) (fun x y H Q => ∃ i n, x = .str i ∧ y = .int n ∧ MulOk i n ∧ Q (.str (Txt.mul i n)) H) := by
  intro pins s σ H x y v u Q I rx ry h
  obtain ⟨i, n, rfl, rfl, ok, q⟩ := h
  obtain ⟨t, rfl⟩ := rx
  obtain ⟨t', rfl⟩ := ry
  exact PySem.SB.mul ok fun t2 k => ⟨.str (Txt.mul i n), H, I.tok _, ⟨_, rfl⟩, q⟩
end
def signsL : List Str := ["\n", " ", "0", "1", "r", "-", "x", ""]
theorem signs_len : ∀ s ∈ signsL, s.length ≤ 3 := by decide +kernel
section
variable {base : Heap} {K : PySem.W.Frag} {mg : Str → Option Value} {P : Program} {w : World}
def spBent : Sp := fun vs H Q _ => ∃ (b sb sg : Addr) (z : Str), vs = [.ref b, .str z, .ref sg] ∧ Bag H b sb ∧ H sg = some (.lst (signsL.map V.str)) ∧ sg ≠ b ∧ z.length ≤ 1000 ∧ ∀ (z' : Str) H', z'.length ≤ 2 * z.length + 3 → Bag H' b sb → Keep b H H' → Q (.str z') H'
theorem cut_len (z : Str) (lo hi : Option Int) : (cutS z lo hi).length ≤ z.length := by
  unfold cutS
  show (mkS _).length ≤ _
  rw [mkS_len, List.length_take, List.length_drop, TL.len_tl]
  show min _ (z.cps.toList.length - _) ≤ z.cps.toList.length
  omega
theorem ok_bent_text (T : Txt K mg) : FnOk P w K mg base CX0 3 T.f_bent_text T.d_bent_text ["_law_bag", "_law_text_z", "_law_signs"] spBent := by
  refine T.F_bent_text.ok sc_bent_text (fun vs H Q E h => ?_) (fun cdv A outer s H vs Q E hr h => ?_)
  · obtain ⟨b, sb, sg, z, rfl, _⟩ := h
    rfl
  · obtain ⟨b, sb, sg, z, rfl, B, hs, ne, hz, q⟩ := h
    refine ⟨_, (pss_cons (ps_par (i := 3) (j := 4) (by rfl) sc_bent_text.nd rfl rfl (by decide) rfl rfl (pa_cons (pe_call (ok_pull T) (hr.mono (by decide)) (by rfl) T.g_pull T.F_pull.kp T.b_pull .nil pass0 (pa_cons (pv 0) (pa_cons (pe_op op_add (pe_callB call_len_str (by rfl) T.n_len (by decide +kernel) (pa_cons (pv 1) pa_nil)) pe_int) pa_nil))) (pa_cons (pe_call (ok_of T) (hr.mono (by decide)) (by rfl) T.g_of T.F_of.kp T.b_of .nil pass0 (pa_cons (pv 0) (pa_cons (pv 2) pa_nil))) pa_nil)) (by rfl))
      (pss_one (ps_ret (pe_op op_add_str (pe_op op_add_str (pe_slice sl_str (pv 1) po_none (po_some (pv 3))) (pv 4)) (pe_slice sl_str (pv 1) (po_some (pe_op op_add (pv 3) (pe_call (ok_pull T) (hr.mono (by decide)) (by rfl) T.g_pull T.F_pull.kp T.b_pull .nil pass0 (pa_cons (pv 0) (pa_cons pe_int pa_nil))))) po_none))))), ?_⟩
    have hz' : z.length ≤ sizeLine := Nat.le_of_lt (small1000 hz)
    refine ⟨_, rfl, _, rfl, z, rfl, hz', _, 1, rfl, rfl, b, sb, _, rfl, B, by omega, Nat.lt_of_le_of_lt (show ((z.length : Int) + 1).natAbs ≤ 1001 by omega) (by decide), fun at' H1 a0 a1 B1 k1 => ?_⟩
    refine ⟨_, rfl, _, rfl, b, sb, sg, _, rfl, B1, k1 _ _ ne hs, ne, by decide, by decide, fun i v H2 hv B2 k2 => ?_⟩
    obtain ⟨c, rfl, hc⟩ : ∃ c : Str, v = .str c ∧ c.length ≤ 3 := by
      rw [List.getElem?_map] at hv
      cases e : signsL[i]? with
      | none =>
        rw [e] at hv
        cases hv
      | some c =>
        rw [e] at hv
        cases hv
        exact ⟨c, rfl, signs_len c (List.mem_of_getElem? e)⟩
    have l1 := cut_len z none (some at')
    refine ⟨_, _, rfl, _, rfl, _, rfl, _, rfl, _, rfl, hz', _, rfl, _, c, rfl, rfl, by rw [sz_eq]; omega, _, rfl, _, rfl, _, rfl, b, sb, 2, rfl, B2, by decide, by decide, fun d H3 d0 d1 B3 k3 => ⟨_, _, rfl, rfl, _, rfl, _, rfl, hz', _, _, rfl, rfl, ?_, q _ _ ?_ B3 (k1.trans (k2.trans k3))⟩⟩
    · have l2 := cut_len z (some (at' + d)) none
      rw [Str.length_append, sz_eq]
      omega
    · have l2 := cut_len z (some (at' + d)) none
      rw [Str.length_append, Str.length_append]
      omega
end
/-! ### lines that are bent -/
def wgt (ys : List Str) : Nat := (ys.map (·.length)).sum + ys.length
theorem wgt_app (xs ys : List Str) : wgt (xs ++ ys) = wgt xs + wgt ys := by
  unfold wgt
  rw [List.map_append, List.sum_append, List.length_append]
  omega
theorem wgt_one (y : Str) : wgt [y] = y.length + 1 := by
  unfold wgt
  simp
theorem wgt_cut (xs : List Str) (k : Nat) : wgt (xs.take k) + wgt (xs.drop k) = wgt xs := by
  rw [← wgt_app, List.take_append_drop]
theorem wgt_drop (xs : List Str) (k : Nat) : wgt (xs.drop k) ≤ wgt xs := by
  have := wgt_cut xs k
  omega
theorem wgt_mem {xs : List Str} {y : Str} (h : y ∈ xs) : y.length + 1 ≤ wgt xs := by
  obtain ⟨a, b, rfl⟩ := List.append_of_mem h
  rw [wgt_app, show y :: b = [y] ++ b from rfl, wgt_app, wgt_one]
  omega
theorem wgt_set (y : Str) : ∀ (xs : List Str) (k : Nat), wgt (xs.set k y) ≤ wgt xs + y.length
  | [], _ => by simp [wgt]
  | x :: xs, 0 => by
    rw [List.set_cons_zero, show y :: xs = [y] ++ xs from rfl, show x :: xs = [x] ++ xs from rfl, wgt_app, wgt_app, wgt_one, wgt_one]
    omega
  | x :: xs, k + 1 => by
    have := wgt_set y xs k
    rw [List.set_cons_succ, show x :: xs.set k y = [x] ++ xs.set k y from rfl, show x :: xs = [x] ++ xs from rfl, wgt_app, wgt_app]
    omega
theorem wgt_join {ys : List Str} {n : Nat} (h : wgt ys ≤ n) : (Txt.join (Str.ofString "\n") ys).length ≤ n := by
  rw [TL.join_eq]
  have := join_len_le (Str.ofString "\n") ys
  rw [show (Str.ofString "\n").length = 1 by decide +kernel] at this
  unfold wgt at h
  omega
theorem cut_takeV (xs : List Str) (k : Nat) : cutV (xs.map V.str) none (some (k : Int)) = (xs.take k).map V.str := by
  unfold cutV
  rw [HT.sIx_nat, HT.sIx_none, List.length_map, List.drop_zero, Nat.sub_zero, List.map_take]
  by_cases h : k ≤ xs.length
  · rw [Nat.min_eq_left h]
  · rw [Nat.min_eq_right (by omega), List.take_of_length_le (by simp), List.take_of_length_le (by simp; omega)]
theorem cut_dropV (xs : List Str) (k : Nat) : cutV (xs.map V.str) (some (k : Int)) none = (xs.drop k).map V.str := by
  unfold cutV
  rw [HT.sIx_nat, HT.sIx_none, List.length_map, List.map_drop]
  by_cases h : k ≤ xs.length
  · rw [Nat.min_eq_left h]
    exact List.take_of_length_le (by simp)
  · rw [Nat.min_eq_right (by omega), List.drop_of_length_le (by simp), List.drop_of_length_le (by simp; omega)]
    simp
def oddsL : List Str := ["", "1 1 x 1", "0 1 x 1", "2 1 x -1", "root 2", "1 1r x 1", "3", "1 1 x 1 "]
theorem odds_len : ∀ z ∈ oddsL, z.length ≤ 10 := by decide +kernel
section
variable {base : Heap} {K : PySem.W.Frag} {mg : Str → Option Value} {P : Program} {w : World}
def spBentL : Sp := fun vs H Q _ => ∃ (b sb : Addr) (z : Str), vs = [.ref b, .str z] ∧ Bag H b sb ∧ z.length ≤ 1000 ∧ ∀ (z' : Str) H', z'.length ≤ 3 * z.length + 40 → Bag H' b sb → Keep b H H' → Q (.str z') H'
theorem ok_bent_lines (T : Txt K mg) : FnOk P w K mg base CX0 4 T.f_bent_lines T.d_bent_lines ["_law_bag", "_law_text_z"] spBentL := by
  refine T.F_bent_lines.ok sc_bent_lines (fun vs H Q E h => ?_) (fun cdv A outer s H vs Q E hr h => ?_)
  · obtain ⟨b, sb, z, rfl, _⟩ := h
    rfl
  · obtain ⟨b, sb, z, rfl, B, hz, q⟩ := h
    refine ⟨_, (pss_cons (ps_par (i := 3) (j := 4) (by rfl) sc_bent_lines.nd rfl rfl (by decide) rfl rfl (pa_cons (pe_split (pv 1) pe_str) (pa_cons (pe_call (ok_pull T) (hr.mono (by decide)) (by rfl) T.g_pull T.F_pull.kp T.b_pull .nil pass0 (pa_cons (pv 0) (pa_cons pe_int pa_nil))) pa_nil)) (by rfl))
      (pss_cons (ps_par (i := 5) (j := 6) (by rfl) sc_bent_lines.nd rfl rfl (by decide) rfl rfl (pa_cons (pe_call (ok_pull T) (hr.mono (by decide)) (by rfl) T.g_pull T.F_pull.kp T.b_pull .nil pass0 (pa_cons (pv 0) (pa_cons (pe_callB call_len_seq (by rfl) T.n_len (by decide +kernel) (pa_cons (pv 3) pa_nil)) pa_nil))) (pa_cons (pe_call (ok_pull T) (hr.mono (by decide)) (by rfl) T.g_pull T.F_pull.kp T.b_pull .nil pass0 (pa_cons (pv 0) (pa_cons (pe_callB call_len_seq (by rfl) T.n_len (by decide +kernel) (pa_cons (pv 3) pa_nil)) pa_nil))) pa_nil)) (by rfl))
      (pss_cons (ps_set (i := 2) sc_bent_lines.nd rfl (Or.inl rfl) (pe_call (ok_of T) (hr.mono (by decide)) (by rfl) T.g_of T.F_of.kp T.b_of .nil pass0 (pa_cons (pv 0) (pa_cons (pe_lst (pa_cons pe_str (pa_cons pe_str (pa_cons pe_str (pa_cons pe_str (pa_cons pe_str (pa_cons pe_str (pa_cons pe_str (pa_cons pe_str pa_nil))))))))) pa_nil))))
      (pss_cons (ps_if (pt_cmpR op_eq (pv 4) pe_int (nomark _)) (pss_one (ps_ret (pe_join pe_str (pe_op op_cat (pe_slice sl_list (pv 3) po_none (po_some (pv 5))) (pe_slice sl_list (pv 3) (po_some (pe_op op_add (pv 5) pe_int)) po_none))))) pss_nil)
      (pss_cons (ps_if (pt_cmpR op_eq (pv 4) pe_int (nomark _)) (pss_one (ps_ret (pe_join pe_str (pe_op op_cat (pe_op op_cat (pe_slice sl_list (pv 3) po_none (po_some (pv 5))) (pe_lst (pa_cons (pe_ix ix_list (pv 3) (pv 6) (fun _ _ => rfl)) pa_nil))) (pe_slice sl_list (pv 3) (po_some (pv 5)) po_none))))) pss_nil)
      (pss_cons (ps_if (pt_cmpR op_eq (pv 4) pe_int (nomark _)) (pss_one (ps_ret (pe_join pe_str (pe_op op_cat (pe_op op_cat (pe_slice sl_list (pv 3) po_none (po_some (pv 5))) (pe_lst (pa_cons (pv 2) pa_nil))) (pe_slice sl_list (pv 3) (po_some (pv 5)) po_none))))) pss_nil)
      (pss_cons (ps_if (pt_cmpR op_eq (pv 4) pe_int (nomark _)) (pss_cons (ps_asg (pe_tup (pa_cons (pe_ix ix_list (pv 3) (pv 6) (fun _ _ => rfl)) (pa_cons (pe_ix ix_list (pv 3) (pv 5) (fun _ _ => rfl)) pa_nil))) (pg_tup (by rfl) (pgs_cons (pg_sub (pv 3) (pv 5) set_list) (pgs_cons (pg_sub (pv 3) (pv 6) set_list) pgs_nil))))
      (pss_one (ps_ret (pe_join pe_str (pv 3))))) pss_nil)
      (pss_one (ps_ret (pe_call (ok_bent_text T) (hr.mono (by decide)) (by rfl) T.g_bent_text T.F_bent_text.kp T.b_bent_text .nil pass0 (pa_cons (pv 0) (pa_cons (pv 1) (pa_cons (pe_lst (pa_cons pe_str (pa_cons pe_str (pa_cons pe_str (pa_cons pe_str (pa_cons pe_str (pa_cons pe_str (pa_cons pe_str (pa_cons pe_str pa_nil))))))))) pa_nil))))))))))))), ?_⟩
    have n1 : (Str.ofString "\n").length = 1 := by decide +kernel
    have wz : wgt (Txt.split z (Str.ofString "\n")) ≤ z.length + 1 := split_weight z _ (by rw [n1]; decide)
    have lp := split_pos z (Str.ofString "\n")
    generalize hls : Txt.split z (Str.ofString "\n") = ls at wz lp
    have ln : ls.length ≤ 1001 := by
      unfold wgt at wz
      omega
    refine ⟨_, rfl, ⟨_, rfl⟩, z, _, rfl, rfl, by decide +kernel, by rw [sz_eq]; omega, fun L nL => ?_⟩
    rw [hls]
    have B1 := B.new (o := .lst (ls.map V.str)) nL
    have neL := B.ne nL
    refine ⟨_, rfl, b, sb, 6, rfl, B1, by decide, by decide, fun wy H1 w0 w1 B2 k1 => ⟨_, _, rfl, ?_⟩⟩
    have kk1 : Keep b H H1 := (keep_new nL).trans k1
    have hL1 := k1 _ _ neL (upd_same (H := H) (a := L) (o := .lst (ls.map V.str)))
    have ell : ((ls.map V.str).length : Int) = ls.length := by rw [List.length_map]
    refine ⟨_, rfl, _, rfl, L, _, rfl, .inl (SqL.of hL1), b, sb, _, rfl, B2, by rw [ell]; omega, Nat.lt_of_le_of_lt (show (((ls.map V.str).length : Int)).natAbs ≤ 1001 by rw [ell]; omega) (by decide), fun x H2 x0 x1 B3 k2 => ?_⟩
    have hL2 := k2 _ _ neL hL1
    refine ⟨_, rfl, _, rfl, L, _, rfl, .inl (SqL.of hL2), b, sb, _, rfl, B3, by rw [ell]; omega, Nat.lt_of_le_of_lt (show (((ls.map V.str).length : Int)).natAbs ≤ 1001 by rw [ell]; omega) (by decide), fun y H3 y0 y1 B4 k3 => ⟨_, _, rfl, ?_⟩⟩
    have hL3 := k3 _ _ neL hL2
    rw [ell] at x1 y1
    obtain ⟨i, rfl⟩ := Int.eq_ofNat_of_zero_le x0
    obtain ⟨j, rfl⟩ := Int.eq_ofNat_of_zero_le y0
    have hi : i < ls.length := by omega
    have hj : j < ls.length := by omega
    have gi : (ls.map V.str)[i]? = some (.str ls[i]) := by rw [List.getElem?_map, List.getElem?_eq_getElem hi]; rfl
    have gj : (ls.map V.str)[j]? = some (.str ls[j]) := by rw [List.getElem?_map, List.getElem?_eq_getElem hj]; rfl
    have mi := wgt_mem (List.getElem_mem hi)
    have mj := wgt_mem (List.getElem_mem hj)
    refine ⟨_, rfl, by show 8 ≤ sizeLine; decide, fun O nO => ?_⟩
    have B5 := B4.new (o := .lst (oddsL.map V.str)) nO
    refine ⟨b, sb, O, _, rfl, B5, upd_same, B4.ne nO, by decide, by decide, fun o v H4 hv B6 k4 => ?_⟩
    have hL4 := k4 _ _ neL ((same_new (o := .lst (oddsL.map V.str)) nO) _ _ hL3)
    have k04 : Keep b H H4 := kk1.trans (k2.trans (k3.trans ((keep_new nO).trans k4)))
    obtain ⟨od, rfl, lo⟩ : ∃ od : Str, v = .str od ∧ od.length ≤ 10 := by
      have hv : (oddsL.map V.str)[o]? = some v := hv
      rw [List.getElem?_map] at hv
      cases e : oddsL[o]? with
      | none =>
        rw [e] at hv
        cases hv
      | some c =>
        rw [e] at hv
        cases hv
        exact ⟨c, rfl, odds_len c (List.mem_of_getElem? e)⟩
    have wk := wgt_cut ls i
    have wd := wgt_drop ls (i + 1)
    have di : (ls.drop (i + 1)) = ls.drop (i + 1) := rfl
    refine ⟨_, rfl, rfl, _, rfl, ite2 (fun _ => ?_) fun _ => ?_⟩
    · refine ⟨⟨_, rfl⟩, _, rfl, _, rfl, (i : Int), rfl, L, _, rfl, SqL.of hL4, fun D1 m1 => ?_⟩
      rw [cut_takeV]
      have s1 := same_new (o := .lst ((ls.take i).map V.str)) m1
      refine ⟨_, rfl, _, rfl, (i : Int), 1, rfl, rfl, ((i + 1 : Nat) : Int), rfl, L, _, rfl, SqL.of (s1 _ _ hL4), fun D2 m2 => ?_⟩
      rw [cut_dropV]
      have s2 := same_new (o := .lst ((ls.drop (i + 1)).map V.str)) m2
      refine ⟨D1, D2, _, _, rfl, rfl, s2 _ _ upd_same, upd_same, by rw [List.length_map, List.length_map, List.length_take, List.length_drop, sz_eq]; omega, fun D m3 => ?_⟩
      have s3 := same_new (o := .lst ((ls.take i).map V.str ++ (ls.drop (i + 1)).map V.str)) m3
      have w : wgt (ls.take i ++ ls.drop (i + 1)) ≤ 3 * z.length + 40 := by
        rw [wgt_app]
        omega
      refine ⟨_, D, ls.take i ++ ls.drop (i + 1), rfl, rfl, .inl (SqL.of (by rw [upd_same, List.map_append])), by rw [n1]; unfold wgt at w; omega, q _ _ (wgt_join w) (((B6.same s1).same s2).same s3) (k04.trans ((keep_of s1).trans ((keep_of s2).trans (keep_of s3))))⟩
    refine ⟨_, rfl, rfl, _, rfl, ite2 (fun _ => ?_) fun _ => ?_⟩
    · refine ⟨⟨_, rfl⟩, _, rfl, _, rfl, (i : Int), rfl, L, _, rfl, SqL.of hL4, fun D1 m1 => ?_⟩
      rw [cut_takeV]
      have s1 := same_new (o := .lst ((ls.take i).map V.str)) m1
      refine ⟨_, rfl, _, rfl, L, _, (j : Int), .str ls[j], rfl, rfl, SqL.of (s1 _ _ hL4), atI_nat gj, by show 1 ≤ sizeLine; decide, fun D0 m0 => ?_⟩
      have s0 := same_new (o := .lst [.str ls[j]]) m0
      refine ⟨D1, D0, _, _, rfl, rfl, s0 _ _ upd_same, upd_same, by rw [List.length_map, List.length_take, sz_eq]; show min i ls.length + 1 ≤ _; omega, fun D2 m2 => ?_⟩
      have s2 := same_new (o := .lst ((ls.take i).map V.str ++ [.str ls[j]])) m2
      refine ⟨_, rfl, _, rfl, (i : Int), rfl, L, _, rfl, SqL.of (s2 _ _ (s0 _ _ (s1 _ _ hL4))), fun D3 m3 => ?_⟩
      rw [cut_dropV]
      have s3 := same_new (o := .lst ((ls.drop i).map V.str)) m3
      refine ⟨D2, D3, _, _, rfl, rfl, s3 _ _ upd_same, upd_same, by rw [List.length_append, List.length_map, List.length_map, List.length_take, List.length_drop, sz_eq]; show min i ls.length + 1 + _ ≤ _; omega, fun D m4 => ?_⟩
      have s4 := same_new (o := .lst (((ls.take i).map V.str ++ [.str ls[j]]) ++ (ls.drop i).map V.str)) m4
      have w : wgt (ls.take i ++ [ls[j]] ++ ls.drop i) ≤ 3 * z.length + 40 := by
        rw [wgt_app, wgt_app, wgt_one]
        omega
      refine ⟨_, D, ls.take i ++ [ls[j]] ++ ls.drop i, rfl, rfl, .inl (SqL.of (by rw [upd_same, List.map_append, List.map_append]; rfl)), by rw [n1]; unfold wgt at w; omega, q _ _ (wgt_join w) (((((B6.same s1).same s0).same s2).same s3).same s4) (k04.trans ((keep_of s1).trans ((keep_of s0).trans ((keep_of s2).trans ((keep_of s3).trans (keep_of s4))))))⟩
    refine ⟨_, rfl, rfl, _, rfl, ite2 (fun _ => ?_) fun _ => ?_⟩
    · refine ⟨⟨_, rfl⟩, _, rfl, _, rfl, (i : Int), rfl, L, _, rfl, SqL.of hL4, fun D1 m1 => ?_⟩
      rw [cut_takeV]
      have s1 := same_new (o := .lst ((ls.take i).map V.str)) m1
      refine ⟨_, rfl, by show 1 ≤ sizeLine; decide, fun D0 m0 => ?_⟩
      have s0 := same_new (o := .lst [.str od]) m0
      refine ⟨D1, D0, _, _, rfl, rfl, s0 _ _ upd_same, upd_same, by rw [List.length_map, List.length_take, sz_eq]; show min i ls.length + 1 ≤ _; omega, fun D2 m2 => ?_⟩
      have s2 := same_new (o := .lst ((ls.take i).map V.str ++ [.str od])) m2
      refine ⟨_, rfl, _, rfl, (i : Int), rfl, L, _, rfl, SqL.of (s2 _ _ (s0 _ _ (s1 _ _ hL4))), fun D3 m3 => ?_⟩
      rw [cut_dropV]
      have s3 := same_new (o := .lst ((ls.drop i).map V.str)) m3
      refine ⟨D2, D3, _, _, rfl, rfl, s3 _ _ upd_same, upd_same, by rw [List.length_append, List.length_map, List.length_map, List.length_take, List.length_drop, sz_eq]; show min i ls.length + 1 + _ ≤ _; omega, fun D m4 => ?_⟩
      have s4 := same_new (o := .lst (((ls.take i).map V.str ++ [.str od]) ++ (ls.drop i).map V.str)) m4
      have w : wgt (ls.take i ++ [od] ++ ls.drop i) ≤ 3 * z.length + 40 := by
        rw [wgt_app, wgt_app, wgt_one]
        omega
      refine ⟨_, D, ls.take i ++ [od] ++ ls.drop i, rfl, rfl, .inl (SqL.of (by rw [upd_same, List.map_append, List.map_append]; rfl)), by rw [n1]; unfold wgt at w; omega, q _ _ (wgt_join w) (((((B6.same s1).same s0).same s2).same s3).same s4) (k04.trans ((keep_of s1).trans ((keep_of s0).trans ((keep_of s2).trans ((keep_of s3).trans (keep_of s4))))))⟩
    refine ⟨_, rfl, rfl, _, rfl, ite2 (fun _ => ?_) fun _ => ?_⟩
    · refine ⟨_, rfl, _, rfl, L, _, (j : Int), .str ls[j], rfl, rfl, SqL.of hL4, atI_nat gj, _, rfl, _, rfl, L, _, (i : Int), .str ls[i], rfl, rfl, SqL.of hL4, atI_nat gi, by show 2 ≤ sizeLine; decide, fun t nt => ⟨t, _, rfl, SqT.of upd_same, rfl, .str ls[j], _, rfl, ?_⟩⟩
      have s1 := same_new (o := .tup [.str ls[j], .str ls[i]]) nt
      have i1 : ixN (ls.map V.str).length (i : Int) = some i := Evl.ixN_nat (by rw [List.length_map]; exact hi)
      have j1 : ixN ((ls.map V.str).set i (.str ls[j])).length (j : Int) = some j := Evl.ixN_nat (by rw [List.length_set, List.length_map]; exact hj)
      have neL2 := B.ne2 nL
      refine ⟨_, rfl, _, rfl, L, _, (i : Int), i, rfl, rfl, s1 _ _ hL4, i1, .str ls[i], _, rfl, ?_⟩
      refine ⟨_, rfl, _, rfl, L, _, (j : Int), j, rfl, rfl, upd_same, j1, rfl, ?_⟩
      have B7 := ((B6.same s1).put (o := .lst ((ls.map V.str).set i (.str ls[j]))) neL neL2).put (o := .lst (((ls.map V.str).set i (.str ls[j])).set j (.str ls[i]))) neL neL2
      have w : wgt ((ls.set i ls[j]).set j ls[i]) ≤ 3 * z.length + 40 := by
        have h1 := wgt_set ls[j] ls i
        have h2 := wgt_set ls[i] (ls.set i ls[j]) j
        omega
      refine ⟨⟨_, rfl⟩, _, rfl, _, L, (ls.set i ls[j]).set j ls[i], rfl, rfl, .inl (SqL.of (by rw [upd_same, List.map_set, List.map_set])), by rw [n1]; unfold wgt at w; omega, q _ _ (wgt_join w) B7 fun a o na e => (upd_ne (ne_of_none e nL)).trans ((upd_ne (ne_of_none e nL)).trans (s1 _ _ (k04 a o na e)))⟩
    · refine ⟨_, rfl, _, rfl, by show 8 ≤ sizeLine; decide, fun S mS => ?_⟩
      have s1 := same_new (o := .lst (signsL.map V.str)) mS
      exact ⟨b, sb, S, z, rfl, B6.same s1, upd_same, B6.ne mS, hz, fun z' H' lz B7 k7 => q z' H' (by omega) B7 (k04.trans ((keep_of s1).trans k7))⟩
end
/-! ### scaled -/
section
variable {base : Heap} {K : PySem.W.Frag} {mg : Str → Option Value} {P : Program} {w : World}
def spScaled (K : PySem.W.Frag) : Sp := fun vs H Q _ => ∃ (v : V) (x y n : Int), vs = [v, .int n] ∧ PairAt K H v x y ∧ x.natAbs < 2 ^ 9000 ∧ y.natAbs < 2 ^ 9000 ∧ n.natAbs < 2 ^ 9000 ∧ NewPair H (x * n) (y * n) Q
theorem ok_scaled (T : Txt K mg) : FnOk P w K mg base CX0 1 T.f_scaled T.d_scaled ["pair", "number"] (spScaled K) := by
  refine T.F_scaled.ok sc_scaled (fun vs H Q E h => ?_) (fun cdv A outer s H vs Q E hr h => ?_)
  · obtain ⟨v, x, y, n, rfl, _⟩ := h
    rfl
  · obtain ⟨v, x, y, n, rfl, ⟨t, rfl, ht⟩, x1, y1, n1, q⟩ := h
    refine ⟨_, (pss_cons (ps_asg (pv 0) (pg_tup (by rfl) (pgs_cons (pg_name (i := 2) sc_scaled.nd rfl (Or.inl rfl)) (pgs_cons (pg_name (i := 3) sc_scaled.nd rfl (Or.inl rfl)) pgs_nil))))
      (pss_one (ps_ret (pe_tup (pa_cons (pe_op op_mulW (pv 2) (pv 1)) (pa_cons (pe_op op_mulW (pv 3) (pv 1)) pa_nil)))))), ?_⟩
    refine ⟨_, rfl, t, _, rfl, ht, rfl, .int x, [.int y], rfl, .int y, [], rfl, rfl, ?_⟩
    exact ⟨_, rfl, _, rfl, x, n, rfl, rfl, wide_mul x1 n1 (by decide) (by decide) (by decide), _, rfl, _, rfl, y, n, rfl, rfl, wide_mul y1 n1 (by decide) (by decide) (by decide), by show 2 ≤ sizeLine; decide, fun p hp => q p _ hp (same_new hp) upd_same⟩
end
/-! ### Heap.of -/
theorem pe_makeL {X : Cx} {CX : CXT} {k i : Nat} {f C : Addr} {fd : FuncData} {ps : List Str} {sp : Sp} {dvs : List V} {ds : List Value} {E : XK} {x : Str} {p pos : Pos} {e : Expr} {es : List Expr} {t : TA} (M : Mk X.K C f) (F : FnOk X.prog X.w X.K X.mg X.base CX k f fd ps sp) (hr : Room (k + 1) X.A) (hN : X.N[i]? = some x) (hv : Vis X.env.scope x)
    (hb : Binds X.K fd ps ds) (hd : Vals dvs ds) (hx : Passes CX X E) (ha : PA X (e :: es) t) (hdb : (x == ("__debug__" : Str)) = false := by decide) (hcd : (x == ("__classdict__" : Str)) = false := by decide)
    (he : starEach (e :: es) X.env = (false, eval e X.env) :: starEach es X.env := by rfl) (hpl : (backTo pos (starEach es X.env)).any (·.1) = false := by rfl) :
    PE X (.Call (.Name x p) (e :: es) [] pos) (fun σ H Q => σ[i]? = some (some (.ref C)) ∧ tMake C sp dvs E t σ H Q) := by
  constructor
  rintro pins s σ H Q I ⟨hs, h⟩
  apply wpAny_Call_Name_kw
  refine thn ((pe_var (pos := p) hN hv hdb hcd).run pins s σ H (fun v H1 => v = .ref C ∧ H1 = H) I ⟨.ref C, hs, rfl, rfl⟩) ?_
  rintro u s1 ⟨v, H1, I1, r1, rfl, rfl⟩
  cases (show u = Value.ref C from r1)
  refine PySem.W.callWith_K (h₀ := X.base) I.ok.mod.kin M.kp (thn (ha.run pos pins s1 σ H1 _ I1 h) ?_) he hpl
  rintro us s2 ⟨vs, H2, I2, r2, q2⟩
  exact ⟨I2.kIn, run_make M F hr hb hd hx I2 r2 q2⟩
section
variable {base : Heap} {K : PySem.W.Frag} {mg : Str → Option Value} {w : World}
def onesE (bs : List (Sh × Addr)) : DEs := bs.map fun b => (b.1, b.2, 1)
/-- what is asked of Heap.of, and told by it -/
structure OfAsk (T : Txt K mg) (w : World) (H : Hp) (d : Int) (bs : List (Sh × Addr)) (Q : VK) (E : XK) : Prop where
  rd : isRB d = true
  ks : ∀ b ∈ bs, ShAt H b.2 b.1 ∧ Sh100 b.1
  len : bs.length ≤ 100
  good : (∀ b ∈ bs, shB d b.1 = true) → ∀ p H', H p = none → Same H H' → HeapAt PySem.Challenge.pw_grainyard_k65_texts_of_heaps w T.C_Heap H' p d (sortE (mergeD (onesE bs))) → Q (.ref p) H'
  bad : ∀ i, FirstBad d (onesE bs) i → Throws T.e_BadRow.C (badRow i) H E
theorem OfAsk.up {T : Txt K mg} {H H1 : Hp} {d : Int} {bs : List (Sh × Addr)} {Q : VK} {E : XK} (h : OfAsk T w H d bs Q E) (s : Same H H1) : OfAsk T w H1 d bs Q E :=
  ⟨h.rd, fun b hb => ⟨(h.ks b hb).1.same s, (h.ks b hb).2⟩, h.len, fun g p H' hp s1 hA => h.good g p H' (s.free hp) (s.trans s1) hA, fun i fb => (h.bad i fb).up s⟩
def spOfB (T : Txt K mg) (w : World) : Sp := fun vs H Q E => ∃ (t : Addr) (d : Int) (bs : List (Sh × Addr)), vs = [.ref T.C_Heap, .int d, .ref t] ∧ H t = some (.tup (bs.map fun b => V.ref b.2)) ∧ OfAsk T w H d bs Q E
def spHOf (T : Txt K mg) (w : World) : Sp := fun vs H Q E => ∃ (d : Int) (bs : List (Sh × Addr)), vs = .ref T.C_Heap :: .int d :: bs.map (fun b => V.ref b.2) ∧ OfAsk T w H d bs Q E
theorem row_one {d : Int} {b : Sh × Addr} : rowB d (b.1, b.2, 1) = shB d b.1 := by
  unfold rowB
  rw [decide_eq_true (show (1 : Int) ≤ 1 by decide), Bool.true_and]
theorem ok_Heap_of (T : Txt K mg) : FnR PySem.Challenge.pw_grainyard_k65_texts_of_heaps w K mg base (L2.CX PySem.Challenge.pw_grainyard_k65_texts_of_heaps w) 7 T.f_Heap_of (spHOf T w) := by
  obtain ⟨o1, o2, v1, v2, v3, a1, v4, v5, sl1, e1, r1, r2⟩ := T.F_Heap_of.ex
  have r1' := r1
  rw [e1] at r1'
  refine FnR.imp (StX.fn_star (ps := ["cls", "root"]) (pv := "sheets") (sp := spOfB T w) (N := ["cls", "root", "sheets", "sheet"]) r1' r2 sc_Heap_of StX.cxUp ?_ ?_) ?_
  · intro us rest hu
    match us, rest, hu with
    | [_, _], [], _ => rfl
    | [_, _], _ :: _, _ => rfl
  · intro A outer s H vs Q E hr h
    obtain ⟨t, d, bs, rfl, ht, h1⟩ := h
    refine ⟨_, (pss_one (ps_ret (pe_makeL (i := 0) T.M_Heap (ok_Heap_init (w := w) T) (hr.mono (by decide)) (by rfl) (Or.inl rfl) T.b_Heap_init .nil (passes_call (takes_of rfl rfl rfl rfl) (fun _ _ _ _ h => h)) (pa_cons (pv 1) (pa_cons (pe_lc (own := [("sheet", 3)]) (g := (gName 3)) (tt := tYes) (by rfl) sc_Heap_of.nd (pi_tup (pv 2)) (blkOk_by (own := [("sheet", 3)]) (N := ["cls", "root", "sheets", "sheet"]) (sc := defScope s_Heap_of) (by decide +kernel)) (fun _ _ _ _ _ => (pg_name (i := 3) sc_Heap_of.nd rfl (Or.inl rfl))) (fun _ _ _ _ _ => pts_nil) (fun _ _ _ _ _ => (pe_tup (pa_cons (pv 3) (pa_cons pe_int pa_nil))))) pa_nil))))), ?_⟩
    have hln := h1.len
    refine ⟨rfl, _, rfl, _, rfl, t, rfl, ⟨_, SqT.of ht⟩, fun D hD => lc_tup (K := K) (a := t) (xs := bs.map fun b => V.ref b.2) (fun i G => Same H G ∧ RowsL G D ((onesE bs).take i)) ⟨same_new hD, [], upd_same, .nil, fun e he => by cases he⟩ (fun i H' _ h => SqT.of (h.1 _ _ ht)) ?_ ?_⟩
    · rintro i x G hx ⟨sG, RG⟩
      rw [List.getElem?_map] at hx
      cases hb : bs[i]? with
      | none =>
        rw [hb] at hx
        cases hx
      | some b =>
        rw [hb] at hx
        cases hx
        have hs := ((h1.ks b (List.mem_of_getElem? hb)).1).same sG
        have hi := (List.getElem?_eq_some_iff.mp hb).1
        refine ⟨rfl, _, rfl, by show 2 ≤ sizeLine; decide, fun t2 n2 => ?_⟩
        obtain ⟨xs, g1, g2, g3, g4⟩ := RowsL.step (fs := onesE bs) (x := b.1) (p := b.2) (n := 1) hD sG RG (by unfold onesE; rw [List.getElem?_map, hb]; rfl) n2 hs
        exact ⟨xs, g1, small1000 (by omega), g3, g4⟩
    · rintro G ⟨sG, RG⟩
      have hl : (bs.map fun b => V.ref b.2).length = (onesE bs).length := by
        unfold onesE
        rw [List.length_map, List.length_map]
      rw [hl, List.take_length] at RG
      have h2 := h1.up sG
      have b100 : Es100 (onesE bs) := fun e he => by
        obtain ⟨b, hb, rfl⟩ := List.mem_map.mp he
        exact (h2.ks b hb).2
      have ln : (onesE bs).length ≤ 1000 := by
        rw [← hl, List.length_map]
        omega
      intro x dx nx nd ne
      have s1 : Same G (upd (upd G dx (.own x)) x (.ins T.C_Heap dx [])) := fun b o z => by
        rw [upd_ne (ne_of_none z nx), upd_ne (ne_of_none z nd)]
        exact z
      refine ⟨x, dx, d, _, onesE bs, rfl, upd_same, RG.handed.same s1, b100, ln, fun _ ok H' hA hk => ⟨rfl, ?_⟩, fun _ i fb => (h2.bad i fb).up s1, fun z => by rw [h1.rd] at z; cases z⟩
      refine h2.good (fun b hb => ?_) x H' nx (fun b o z => hk b o (s1 b o z) (ne_of_none z nx)) hA
      have := ok (b.1, b.2, 1) (List.mem_map.mpr ⟨b, hb, rfl⟩)
      rwa [row_one] at this
  · rintro vs H Q E ⟨d, bs, rfl, h1⟩
    have := h1.len
    exact ⟨[.ref T.C_Heap, .int d], bs.map fun b => V.ref b.2, rfl, rfl, Nat.le_of_lt (small1000 (by rw [List.length_map]; omega)), fun p hp => ⟨p, d, bs, rfl, upd_same, h1.up (same_new hp)⟩⟩
end
/-! ### what is told of a text of a heap -/
section
variable {base : Heap} {K : PySem.W.Frag} {mg : Str → Option Value} {w : World}
inductive FoundH (T : Txt K mg) (w : World) (z : Str) (H : Hp) : V → Prop
  | bad {i : Int} {t : Addr} (h : HRes z (.bad i)) (ht : H t = some (.tup [.str "BadText", .int i])) : FoundH T w z H (.ref t)
  | told {d : Int} {es : DEs} {p t : Addr} (h : HRes z (.told d (rowsE es))) (ht : H t = some (.tup [.str "told", .ref p])) (hA : HeapAt PySem.Challenge.pw_grainyard_k65_texts_of_heaps w T.C_Heap H p d es) : FoundH T w z H (.ref t)
theorem parse_told (T : Txt K mg) {H : Hp} {z : Str} {Q Q1 : VK} {E : XK} (hE : E = Raised K T.r_GrainError Q) (hQ : Q1 = fun v H1 => [V.str "told", v].length ≤ sizeLine ∧ ∀ p, H1 p = none → Q (.ref p) (upd H1 p (.tup [.str "told", v]))) (hz : z.length ≤ 5700)
    (q : ∀ v H', Same H H' → FoundH T w z H' v → Q v H') : spParseH T w [.str z] H Q1 E := by
  subst hE hQ
  refine ⟨z, rfl, hz, fun i hi x Hf nx sf fx => ?_, fun d es p H' hd e hA => ⟨by show 2 ≤ sizeLine; decide, fun t nt => q _ _ (e.trans (same_new nt)) (.told hd upd_same (hA.same (same_new nt)))⟩⟩
  obtain ⟨cg, hg, _⟩ := T.c_GrainError
  exact raised_er T.e_BadText hg T.t_GrainError T.sb_GrainError (no_two T.x_BadText_at T.x_BadText_word) rfl rfl fx fun H' p s' hp => q _ H' (sf.trans s') (.bad hi hp)
end
theorem num_len {n : Nat} (h : n < 10 ^ 7) : (TL.numL n).length ≤ 7 := by
  by_cases z : n = 0
  · rw [z]
    decide +kernel
  · exact TL.numL_len (n := n) (k := 7) (by decide) h
theorem lets_len {n : Int} (h : n.natAbs < 10 ^ 7) : (decT n).length ≤ 8 := by
  rw [dec_lets, mkS_len]
  have := num_len h
  unfold lets
  split
  · rw [List.length_cons]
    omega
  · omega
theorem pair_len7 {a b : Int} (ha : a.natAbs < 10 ^ 7) (hb : b.natAbs < 10 ^ 7) : (pairT a b).length ≤ 18 := by
  have h1 := lets_len ha
  have h2 := lets_len hb
  have r1 : (Str.ofString "r").length = 1 := by decide +kernel
  have s1 : (sgT b).length ≤ 1 := by
    unfold sgT
    split <;> decide +kernel
  unfold pairT
  split
  · omega
  split
  · rw [Str.length_append, r1]
    omega
  · rw [Str.length_append, Str.length_append, Str.length_append, r1]
    omega
def Sh7 (x : Sh) : Prop := x.1.natAbs < 10 ^ 7 ∧ x.2.1.natAbs < 10 ^ 7 ∧ x.2.2.1.natAbs < 10 ^ 7 ∧ x.2.2.2.natAbs < 10 ^ 7
theorem row_len7 {x : Sh} {n : Int} (h : Sh7 x) (hn : n.natAbs < 10 ^ 7) : (rowT x n).length ≤ 48 := by
  have p1 := pair_len7 h.1 h.2.1
  have p2 := pair_len7 h.2.2.1 h.2.2.2
  have p3 := lets_len hn
  have e1 : (Str.ofString " ").length = 1 := by decide +kernel
  have e2 : (Str.ofString " x ").length = 3 := by decide +kernel
  unfold rowT sheetT
  simp only [Str.length_append, e1, e2]
  omega
theorem heap_len7 {d : Int} {rs : List (Sh × Int)} (hd : d.natAbs < 10 ^ 7) (h : ∀ e ∈ rs, Sh7 e.1 ∧ e.2.natAbs < 10 ^ 7) (hn : rs.length ≤ 6) : (heapT d rs).length ≤ 320 := by
  have e5 : (Str.ofString "root ").length = 5 := by decide +kernel
  have e1 : (Str.ofString "\n").length = 1 := by decide +kernel
  have l0 := lets_len hd
  have each : ∀ y ∈ (rs.map fun e => rowT e.1 e.2).map (fun l => l ++ Str.ofString "\n"), y.length ≤ 49 := by
    intro y hy
    obtain ⟨l, hl, rfl⟩ := List.mem_map.mp hy
    obtain ⟨e, he, rfl⟩ := List.mem_map.mp hl
    have := row_len7 (h e he).1 (h e he).2
    rw [Str.length_append, e1]
    omega
  have sb := sum_bd each
  rw [List.length_map, List.length_map] at sb
  unfold heapT
  rw [TL.join_eq]
  refine Nat.le_trans (join_len_le _ _) ?_
  rw [show (Str.ofString "").length = 0 by decide +kernel, Nat.mul_zero, Nat.add_zero, List.map_cons, List.map_cons, List.sum_cons, Str.length_append, Str.length_append, e5, e1]
  omega
/-! ### the law -/
abbrev qn : Str := "law" ++ ".<locals>." ++ "<lambda>"
/-- the texts so far -/
structure LT (b sb P0 l : Addr) (ts : List Str) (H : Hp) : Prop where
  bag : Bag H b sb
  tab : LamX.Tabs [(P0, qn)] H
  hl : H l = some (.lst (ts.map V.str))
  ne : l ≠ b
  len : ∀ t ∈ ts, t.length ≤ 5100
  few : ts.length ≤ 100
theorem LT.same {b sb P0 l : Addr} {ts : List Str} {H H' : Hp} (h : LT b sb P0 l ts H) (s : Same H H') : LT b sb P0 l ts H' := ⟨h.bag.same s, h.tab.ext s, s _ _ h.hl, h.ne, h.len, h.few⟩
theorem LT.keep {b sb P0 l : Addr} {ts : List Str} {H H' : Hp} (h : LT b sb P0 l ts H) (B : Bag H' b sb) (k : Keep b H H') : LT b sb P0 l ts H' := ⟨B, tabs_keep h.tab h.bag k, k _ _ h.ne h.hl, h.ne, h.len, h.few⟩
theorem LT.extN {b sb P0 l : Addr} {ts : List Str} {H H' : Hp} (h : LT b sb P0 l ts H) (e : LamX.ExtN H H') (t : LamX.Tabs [(P0, qn)] H') : LT b sb P0 l ts H' := ⟨h.bag.extN e, t, lst_extN h.hl e, h.ne, h.len, h.few⟩
theorem fold_size (x : Array Nat) : ∀ (n : Nat) (a : Array Nat), ((List.replicate n x).foldl (· ++ ·) a).size = a.size + n * x.size
  | 0, a => by simp
  | n + 1, a => by
    rw [List.replicate_succ, List.foldl_cons, fold_size x n, Array.size_append, Nat.add_mul]
    omega
theorem mul_len {x : Str} {n : Nat} (h : 1 < n) (hx : x.length ≠ 0) : (Txt.mul x n).length = n * x.length := by
  unfold Txt.mul
  have h2 : ((n : Int) == 1 || x.length == 0) = false := by
    rw [Bool.or_eq_false_iff]
    exact ⟨beq_eq_false_iff_ne.mpr (by omega), beq_eq_false_iff_ne.mpr hx⟩
  rw [if_neg (by omega), h2, if_neg (by decide)]
  show ((List.replicate n x.cps).foldl (· ++ ·) #[]).size = _
  rw [fold_size]
  show 0 + n * x.cps.size = n * x.cps.size
  omega
def ts4 : List Str := [Str.ofString "root 2\n" ++ Txt.mul (Str.ofString "9") 20 ++ Str.ofString " 1 x 1\n", Str.ofString "root 2\n" ++ Txt.mul (Str.ofString "9") 21 ++ Str.ofString " 1 x 1\n", Str.ofString "root 2\n" ++ Txt.mul (Str.ofString "9") 5000 ++ Str.ofString " 1 x 1\n", Str.ofString "root " ++ Txt.mul (Str.ofString "9") 5000 ++ Str.ofString "\n"]
def ts10 : List Str := ["", "\n", "root 2", "root 2\n", "root 4\n", "root 02\n", "Root 2\n", "root 2\n\n", "root 2\n1 1 x 1", "root -2\n"]
theorem ts10_len : ∀ t ∈ ts10, t.length ≤ 20 := by decide +kernel
theorem tabs_lst {T : List (Addr × Str)} {G : Hp} {D : Addr} {xs : List V} {o : HO} (t : LamX.Tabs T G) (hD : G D = some (.lst xs)) : LamX.Tabs T (upd G D o) := by
  intro p hp
  obtain ⟨ps, h1, h2, h3⟩ := t p hp
  refine ⟨ps, (upd_ne (ne_of h1 hD (by intro z; cases z))).trans h1, h2, fun pos cv hc => ?_⟩
  obtain ⟨c', e1, e2⟩ := h3 pos cv hc
  exact ⟨c', e1, (upd_ne (ne_of e2 hD (by intro z; unfold LamX.CodeO at z; cases z))).trans e2⟩
section
variable {P : Program} {w : World}
theorem DAt.extN {H H' : Hp} {c : Addr} {es : DEs} (D : DAt P w H c es) (e : LamX.ExtN H H') : DAt P w H' c es := ⟨e _ _ D.hd (fun _ z => by cases z), fun x hx => (D.ks x hx).mono fun _ _ z => tup_extN z e⟩
theorem DueH.extN {H H' : Hp} {z : Str} {v : V} (h : DueH P w z H v) (e : LamX.ExtN H H') : DueH P w z H' v := by
  cases h with
  | bad h ht => exact .bad h (tup_extN ht e)
  | told h ht D => exact .told h (tup_extN ht e) (D.extN e)
theorem DueH.same {H H' : Hp} {z : Str} {v : V} (h : DueH P w z H v) (s : Same H H') : DueH P w z H' v := by
  cases h with
  | bad h ht => exact .bad h (s _ _ ht)
  | told h ht D => exact .told h (s _ _ ht) (D.same s)
end
theorem big_heap : heapT 2 [(((7 * 10 ^ 38, 0, 1, 0) : Sh), 1)] = Str.ofString "root 2\n1 7" ++ Txt.mul (Str.ofString "0") 38 ++ Str.ofString " x 1\n" := by decide +kernel
theorem told_few {z : Str} {d : Int} {rs : List (Sh × Int)} (hz : z.length ≤ 5900) (h : HRes z (.told d rs)) : rs.length ≤ 1000 := by
  have l := (told_text h).2.2.2
  cases h with
  | told h g t =>
    rw [l]
    exact few_rows hz (Nat.le_refl _) g
theorem EsT.good {d : Int} {es : DEs} (g : GoodRs d (rowsE es)) : EsT es := fun e he => by
  obtain ⟨⟨c1, c2, c3, c4⟩, c5, _⟩ := g.ok (e.1, e.2.2) (List.mem_map.mpr ⟨e, he, rfl⟩)
  have lt : (10 ^ 20 : Nat) < 10 ^ 64 := by decide
  exact ⟨⟨Nat.lt_trans c1 lt, Nat.lt_trans c2 lt, Nat.lt_trans c3 lt, Nat.lt_trans c4 lt⟩, Nat.lt_trans c5 lt⟩
section
variable {base : Heap} {K : PySem.W.Frag} {mg : Str → Option Value} {w : World}
def spLaw (K : PySem.W.Frag) (P0 : Addr) : Sp := fun vs H Q _ => ∃ (a : Addr) (ns : List Int), vs = [.ref a] ∧ SqL K H a (ns.map V.int) ∧ ns.length ≤ 63 ∧ H P0 = some (.tbl #[]) ∧ ∀ H', Q (.bl true) H'
theorem ok_law {f c P0 : Addr} {oc kV doc pm ct : Value} {od an : Option Addr} {osl : Array (Option Value)} (lk : K.lookup f = some ⟨oc, od, .func (PySem.W.fnOf "law" "law" (defArgs s_law) (defBody s_law) (defScope s_law) .none kV doc pm an (.ref c) ct), osl⟩) (hcd : PySem.W.codeIn K (.ref c) "law" = true)
    (TB : LamX.TabB base mg c P0) (T : Txt K mg) : FnOk PySem.Challenge.pw_grainyard_k65_texts_of_heaps w K mg base CX0 18 f (PySem.W.fnOf "law" "law" (defArgs s_law) (defBody s_law) (defScope s_law) .none kV doc pm an (.ref c) ct) ["_law_script"] (spLaw K P0) := by
  refine fn_of lk hcd sc_law (fun vs H Q E h => ?_) (fun A outer s H vs Q E hr h => ?_)
  · obtain ⟨a, ns, rfl, _⟩ := h
    rfl
  · obtain ⟨a, ns, rfl, hS, hlen, hP, q⟩ := h
    refine ⟨_, PSs.nox (pss_cons (ps_set (i := 1) sc_law.nd rfl (Or.inl rfl) (pe_call (ok_source T) (hr.mono (by decide)) (by rfl) T.g_source T.F_source.kp T.b_source .nil pass0 (pa_cons (pv 0) pa_nil)))
      (pss_cons (ps_set (i := 2) sc_law.nd rfl (Or.inl rfl) (pe_lst (pa_cons (pe_op op_add_str (pe_op op_add_str pe_str (pe_op op_strmul pe_str pe_int)) pe_str) (pa_cons (pe_op op_add_str (pe_op op_add_str pe_str (pe_op op_strmul pe_str pe_int)) pe_str) pa_nil))))
      (pss_cons (ps_expr (pe_bm PySem.F.plainAttrs_list PySem.F.slot_list_append PySem.F.type_list_append mt_append (pv 2) (pa_cons (pe_op op_add_str (pe_op op_add_str pe_str (pe_op op_strmul pe_str pe_int)) pe_str) pa_nil)))
      (pss_cons (ps_expr (pe_bm PySem.F.plainAttrs_list PySem.F.slot_list_append PySem.F.type_list_append mt_append (pv 2) (pa_cons (pe_op op_add_str (pe_op op_add_str pe_str (pe_op op_strmul pe_str pe_int)) pe_str) pa_nil)))
      (Evl.pss_cut (ps_set (i := 2) sc_law.nd rfl (Or.inl rfl) (pe_op op_cat (pv 2) (pe_lst (pa_cons pe_str (pa_cons pe_str (pa_cons pe_str (pa_cons pe_str (pa_cons pe_str (pa_cons pe_str (pa_cons pe_str (pa_cons pe_str (pa_cons pe_str (pa_cons pe_str pa_nil)))))))))))))
      (Evl.pss_cut (ps_for PassesOwn.never rfl (pi_range1 (by rfl) T.n_range (pa_cons pe_int pa_nil)) (pg_name (i := 3) sc_law.nd rfl (Or.inl rfl)) (pss_cons (ps_set (i := 6) sc_law.nd rfl (Or.inl rfl) (pe_call (ok_a_root T) (hr.mono (by decide)) (by rfl) T.g_a_root T.F_a_root.kp T.b_a_root .nil pass0 (pa_cons (pv 1) pa_nil)))
      (pss_cons (ps_set (i := 7) sc_law.nd rfl (Or.inl rfl) (pe_call (ok_stock_of T) (hr.mono (by decide)) (by rfl) T.g_stock_of T.F_stock_of.kp T.b_stock_of .nil pass0 (pa_cons (pe_call (ok_some_rows T) (hr.mono (by decide)) (by rfl) T.g_some_rows T.F_some_rows.kp T.b_some_rows .nil pass0 (pa_cons (pv 1) (pa_cons (pv 6) (pa_cons pe_int pa_nil)))) pa_nil)))
      (pss_cons (ps_asg (pe_tup (pa_cons (pe_call (ok_heap_of T) (hr.mono (by decide)) (by rfl) T.g_heap_of T.F_heap_of.kp T.b_heap_of .nil pass0 (pa_cons (pv 6) (pa_cons (pv 7) pa_nil))) (pa_cons (pe_call (ok_lheap_text T) (hr.mono (by decide)) (by rfl) T.g_lheap_text T.F_lheap_text.kp T.b_lheap_text .nil pass0 (pa_cons (pv 6) (pa_cons (pv 7) pa_nil))) pa_nil))) (pg_tup (by rfl) (pgs_cons (pg_name (i := 9) sc_law.nd rfl (Or.inl rfl)) (pgs_cons (pg_name (i := 4) sc_law.nd rfl (Or.inr rfl)) pgs_nil))))
      (Evl.pss_cut (ps_if (PW.pt (pw_or (pt_cmpR op_ne (pe_call (ok_heap_text T) (hr.mono (by decide)) (by rfl) T.g_heap_text T.F_heap_text.kp T.b_heap_text .nil pass0 (pa_cons (pv 9) pa_nil)) (pv 4) (nomark _)) (pw_or1 (pt_not (pt_val (pe_call (ok_is_heap T) (hr.mono (by decide)) (by rfl) T.g_is_heap T.F_is_heap.kp T.b_is_heap .nil pass0 (pa_cons (pe_call (ok_parse_heap T) (hr.mono (by decide)) (by rfl) T.g_parse_heap T.F_parse_heap.kp T.b_parse_heap .nil pass_never (pa_cons (pv 4) pa_nil)) (pa_cons (pv 6) (pa_cons (pv 7) pa_nil))))))))) (pss_one (ps_ret pe_bl)) pss_nil)
      (pss_cons (ps_set (i := 8) sc_law.nd rfl (Or.inl rfl) (pe_call (ok_bent_lines T) (hr.mono (by decide)) (by rfl) T.g_bent_lines T.F_bent_lines.kp T.b_bent_lines .nil pass0 (pa_cons (pv 1) (pa_cons (pv 4) pa_nil))))
      (pss_one (ps_set (i := 2) sc_law.nd rfl (Or.inl rfl) (pe_op op_cat (pv 2) (pe_lst (pa_cons (pv 8) (pa_cons (pe_call (ok_bent_lines T) (hr.mono (by decide)) (by rfl) T.g_bent_lines T.F_bent_lines.kp T.b_bent_lines .nil pass0 (pa_cons (pv 1) (pa_cons (pv 8) pa_nil))) (pa_cons (pe_kwOnly (ok_heap_text T) (hr.mono (by decide)) (by rfl) T.g_heap_text T.F_heap_text.kp T.kb_heap_text_heap pass0 (pk_cons (pv 9) pk_nil)) pa_nil)))))))))))))
      (Evl.pss_cut (ps_for PassesOwn.never rfl (pi_list (pv 2)) (pg_name (i := 4) sc_law.nd rfl (Or.inr rfl)) (pss_cons (ps_par (i := 10) (j := 11) (by rfl) sc_law.nd rfl rfl (by decide) rfl rfl (pa_cons (pe_call (ok_heap_read T) (hr.mono (by decide)) (by rfl) T.g_heap_read T.F_heap_read.kp T.b_heap_read .nil pass0 (pa_cons (pv 4) pa_nil)) (pa_cons (pe_try (k := 13) T (by rfl) TB rfl (hr.mono (by decide)) (LamX.lamS_by (sc := defScope s_law) (by decide +kernel)) rfl (fun _ _ _ _ _ => rfl) (fun A outer s H E f c' hr2 => (pe_call (ok_parse_heap (w := w) T) (hr2.mono (by decide)) (by rfl) T.g_parse_heap T.F_parse_heap.kp T.b_parse_heap .nil (passes_call (takes_of rfl rfl rfl rfl) (fun _ _ _ _ h => h)) (pa_cons (pv 4) pa_nil)))) pa_nil)) (by rfl))
      (pss_one (ps_if (pt_cmpR op_ne (pe_ix ix_tup (pv 10) pe_int (fun _ _ => rfl)) pe_str (nomark _)) (pss_one (ps_if (pt_cmpR (op_neP hr.units) (pv 11) (pv 10) (nomark _)) (pss_one (ps_ret pe_bl)) pss_nil)) (pss_one (ps_if (PW.pt (pw_or (pt_cmpR op_ne (pe_ix ix_tup (pv 11) pe_int (fun _ _ => rfl)) pe_str (nomark _)) (pw_or (pt_not (pt_val (pe_call (ok_is_heap T) (hr.mono (by decide)) (by rfl) T.g_is_heap T.F_is_heap.kp T.b_is_heap .nil pass0 (pa_cons (pe_ix ix_tup (pv 11) pe_int (fun _ _ => rfl)) (pa_cons (pe_ix ix_tup (pv 10) pe_int (fun _ _ => rfl)) (pa_cons (pe_ix ix_tup (pv 10) pe_int (fun _ _ => rfl)) pa_nil)))))) (pw_or1 (pt_cmpR op_ne (pe_call (ok_heap_text T) (hr.mono (by decide)) (by rfl) T.g_heap_text T.F_heap_text.kp T.b_heap_text .nil pass0 (pa_cons (pe_ix ix_tup (pv 11) pe_int (fun _ _ => rfl)) pa_nil)) (pv 4) (nomark _)))))) (pss_one (ps_ret pe_bl)) pss_nil))))))
      (Evl.pss_cut (ps_set (i := 5) sc_law.nd rfl (Or.inl rfl) (pe_call (ok_scaled T) (hr.mono (by decide)) (by rfl) T.g_scaled T.F_scaled.kp T.b_scaled .nil pass0 (pa_cons (pe_call (ok_scaled T) (hr.mono (by decide)) (by rfl) T.g_scaled T.F_scaled.kp T.b_scaled .nil pass0 (pa_cons (pe_tup (pa_cons pe_int (pa_cons pe_int pa_nil))) (pa_cons (pe_op op_pow pe_int pe_int) pa_nil))) (pa_cons (pe_op op_pow pe_int pe_int) pa_nil))))
      (Evl.pss_cut (ps_if (pt_cmpR op_ne (pe_call (ok_heap_text T) (hr.mono (by decide)) (by rfl) T.g_heap_text T.F_heap_text.kp T.b_heap_text .nil pass0 (pa_cons (ClX.pe_cmeth (pe_glob (v := .ref T.C_Heap) (by rfl) T.g_Heap rfl) T.cr_Heap T.cm_Heap_of (ok_Heap_of (w := w) T) (hr.mono (by decide)) pass_never (pa_cons pe_int (pa_cons (pe_tup (pa_cons (pv 5) (pa_cons (pe_tup (pa_cons pe_int (pa_cons pe_int pa_nil))) pa_nil))) pa_nil))) pa_nil)) (pe_op op_add_str (pe_op op_add_str pe_str (pe_op op_strmul pe_str pe_int)) pe_str) (nomark _)) (pss_one (ps_ret pe_bl)) pss_nil)
      (pss_one (ps_ret (pe_cmpR (op_eqO2 T.m_Heap_eq (ok_Heap_eq T) (hr.mono (by decide)) T.b_Heap_eq pass0) (pe_kwOnly (ok_parse_heap T) (hr.mono (by decide)) (by rfl) T.g_parse_heap T.F_parse_heap.kp T.kb_parse_heap_text pass_never (pk_cons pe_str pk_nil)) (pe_make T.M_Heap (ok_Heap_init T) (hr.mono (by decide)) (by rfl) T.g_Heap T.b0_Heap_init T.v0_Heap_init pass_never (pa_cons pe_int pa_nil)) (nomark _))))))))))))), ?_⟩
    refine ⟨_, rfl, a, ns, rfl, hS, hlen, fun b sb H1 nb s1 B1 => ?_⟩
    have tb1 : LamX.Tabs [(P0, qn)] H1 := fun p hp => by
      rw [List.mem_singleton.mp hp]
      exact LamX.TabS.nil (s1 _ _ hP)
    have mk : ∀ n : Int, n = 20 ∨ n = 21 ∨ n = 5000 → MulOk (Str.ofString "9") n := by
      rintro n (rfl | rfl | rfl) <;> exact ⟨by decide, fun _ _ => by decide +kernel, fun _ _ => by decide +kernel⟩
    have m20 : (Txt.mul (Str.ofString "9") 20).length = 20 := mul_len (n := 20) (by decide) (by decide +kernel)
    have m21 : (Txt.mul (Str.ofString "9") 21).length = 21 := mul_len (n := 21) (by decide) (by decide +kernel)
    have m5 : (Txt.mul (Str.ofString "9") 5000).length = 5000 := mul_len (n := 5000) (by decide) (by decide +kernel)
    have e1 : (Str.ofString "root 2\n").length = 7 := by decide +kernel
    have e2 : (Str.ofString " 1 x 1\n").length = 7 := by decide +kernel
    have e3 : (Str.ofString "root ").length = 5 := by decide +kernel
    have e4 : (Str.ofString "\n").length = 1 := by decide +kernel
    refine ⟨_, _, rfl, rfl, mk 20 (.inl rfl), _, _, rfl, rfl, by rw [e1, m20, sz_eq]; omega, _, _, rfl, rfl, by rw [Str.length_append, e1, e2, m20, sz_eq]; omega, _, _, rfl, rfl, mk 21 (.inr (.inl rfl)), _, _, rfl, rfl, by rw [e1, m21, sz_eq]; omega, _, _, rfl, rfl, by rw [Str.length_append, e1, e2, m21, sz_eq]; omega, by show 2 ≤ sizeLine; decide, fun l nl => ?_⟩
    have nlb := B1.ne nl
    have nls := B1.ne2 nl
    refine ⟨_, rfl, .inl ⟨rfl, _, SqL.of upd_same⟩, _, _, rfl, rfl, mk 5000 (.inr (.inr rfl)), _, _, rfl, rfl, by rw [e1, m5, sz_eq]; omega, _, _, rfl, rfl, by rw [Str.length_append, e1, e2, m5, sz_eq]; omega, l, _, _, rfl, rfl, upd_same, by decide, ?_⟩
    refine ⟨_, rfl, .inl ⟨rfl, _, SqL.of upd_same⟩, _, _, rfl, rfl, mk 5000 (.inr (.inr rfl)), _, _, rfl, rfl, by rw [e3, m5, sz_eq]; omega, _, _, rfl, rfl, by rw [Str.length_append, e3, e4, m5, sz_eq]; omega, l, _, _, rfl, rfl, upd_same, by decide, ?_⟩
    have L4 : LT b sb P0 l ts4 (upd (upd (upd H1 l (.lst ([Str.ofString "root 2\n" ++ Txt.mul (Str.ofString "9") 20 ++ Str.ofString " 1 x 1\n", Str.ofString "root 2\n" ++ Txt.mul (Str.ofString "9") 21 ++ Str.ofString " 1 x 1\n"].map V.str))) l (.lst ([Str.ofString "root 2\n" ++ Txt.mul (Str.ofString "9") 20 ++ Str.ofString " 1 x 1\n", Str.ofString "root 2\n" ++ Txt.mul (Str.ofString "9") 21 ++ Str.ofString " 1 x 1\n", Str.ofString "root 2\n" ++ Txt.mul (Str.ofString "9") 5000 ++ Str.ofString " 1 x 1\n"].map V.str))) l (.lst (ts4.map V.str))) :=
      ⟨((B1.new nl).put nlb nls).put nlb nls, tabs_lst (tabs_lst (tb1.ext (same_new nl)) upd_same) upd_same, upd_same, nlb, fun t ht => by
        unfold ts4 at ht
        simp only [List.mem_cons, List.not_mem_nil, or_false] at ht
        rcases ht with rfl | rfl | rfl | rfl
        · rw [Str.length_append, Str.length_append, e1, e2, m20]; omega
        · rw [Str.length_append, Str.length_append, e1, e2, m21]; omega
        · rw [Str.length_append, Str.length_append, e1, e2, m5]; omega
        · rw [Str.length_append, Str.length_append, e3, e4, m5]; omega, by decide⟩
    show Evl.tCut _ _ _ _ (upd (upd (upd H1 l (.lst ([Str.ofString "root 2\n" ++ Txt.mul (Str.ofString "9") 20 ++ Str.ofString " 1 x 1\n", Str.ofString "root 2\n" ++ Txt.mul (Str.ofString "9") 21 ++ Str.ofString " 1 x 1\n"].map V.str))) l (.lst ([Str.ofString "root 2\n" ++ Txt.mul (Str.ofString "9") 20 ++ Str.ofString " 1 x 1\n", Str.ofString "root 2\n" ++ Txt.mul (Str.ofString "9") 21 ++ Str.ofString " 1 x 1\n", Str.ofString "root 2\n" ++ Txt.mul (Str.ofString "9") 5000 ++ Str.ofString " 1 x 1\n"].map V.str))) l (.lst (ts4.map V.str)))
    generalize upd (upd (upd H1 l (.lst ([Str.ofString "root 2\n" ++ Txt.mul (Str.ofString "9") 20 ++ Str.ofString " 1 x 1\n", Str.ofString "root 2\n" ++ Txt.mul (Str.ofString "9") 21 ++ Str.ofString " 1 x 1\n"].map V.str))) l (.lst ([Str.ofString "root 2\n" ++ Txt.mul (Str.ofString "9") 20 ++ Str.ofString " 1 x 1\n", Str.ofString "root 2\n" ++ Txt.mul (Str.ofString "9") 21 ++ Str.ofString " 1 x 1\n", Str.ofString "root 2\n" ++ Txt.mul (Str.ofString "9") 5000 ++ Str.ofString " 1 x 1\n"].map V.str))) l (.lst (ts4.map V.str)) = G4 at L4 ⊢
    refine ⟨fun σ G => ∃ (l' : Addr) (ts : List Str), σ = [some (.ref a), some (.ref b), some (.ref l'), none, none, none, none, none, none, none, none, none] ∧ LT b sb P0 l' ts G ∧ ts.length = 14, ?_, ?_⟩
    · refine ⟨_, rfl, by show 10 ≤ sizeLine; decide, fun m nm => ?_⟩
      have s5 := same_new (o := .lst (ts10.map V.str)) nm
      have L5 := L4.same s5
      refine ⟨l, m, _, _, rfl, rfl, L5.hl, upd_same, by show 4 + 10 ≤ sizeLine; decide, fun l' nl' => ?_⟩
      have s6 := same_new (o := .lst (ts4.map V.str ++ ts10.map V.str)) nl'
      have L6 := L5.same s6
      refine ⟨l', ts4 ++ ts10, rfl, ⟨L6.bag, L6.tab, by rw [List.map_append]; exact upd_same, L5.bag.ne nl', fun t ht => ?_, by decide⟩, by decide⟩
      rcases List.mem_append.mp ht with h | h
      · exact L4.len t h
      · have := ts10_len t h
        omega
    clear L4 nlb nls nl
    rintro σ G5 ⟨l5, ts5, rfl, L5, n5⟩
    refine ⟨fun σ G => ∃ (l' : Addr) (ts : List Str) (y3 y4 y5 y6 y7 y8 y9 y10 y11 : Option V), σ = [some (.ref a), some (.ref b), some (.ref l'), y3, y4, y5, y6, y7, y8, y9, y10, y11] ∧ LT b sb P0 l' ts G, ?_, ?_⟩
    · refine ⟨4, rfl, by decide, by decide, for_range (lo := 0) (n := 4) (fun i σ G => ∃ (l' : Addr) (ts : List Str) (y3 y4 y5 y6 y7 y8 y9 y10 y11 : Option V), σ = [some (.ref a), some (.ref b), some (.ref l'), y3, y4, y5, y6, y7, y8, y9, y10, y11] ∧ LT b sb P0 l' ts G ∧ ts.length = 14 + 3 * i) ⟨l5, ts5, _, _, _, _, _, _, _, _, _, rfl, L5, n5⟩ ?_ fun σ G ⟨l', ts, y3, y4, y5, y6, y7, y8, y9, y10, y11, e, L, _⟩ => ⟨l', ts, y3, y4, y5, y6, y7, y8, y9, y10, y11, e, L⟩⟩
      rintro i σ H2 hi ⟨l', ts, y3, y4, y5, y6, y7, y8, y9, y10, y11, rfl, L2, nts⟩
      refine ⟨_, rfl, b, sb, rfl, L2.bag, fun d H3 hd B3 k3 => ?_⟩
      have L3 := L2.keep B3 k3
      refine ⟨_, rfl, _, rfl, b, sb, d, 6, rfl, B3, hd, by decide, by decide, fun lr es0 H4 nlr R4 W4 n4 B4 k4 => ⟨lr, es0, rfl, R4, by omega, fun c' H5 hc s5 D5 => ?_⟩⟩
      have L6 := (L3.keep B4 k4).same s5
      have nd := merge_nodup es0
      have ln : (mergeD es0).length ≤ 6 := by
        have := merge_len es0
        omega
      have wi : Within (ShB d) (6 * 10 ^ 6) (mergeD es0) := (merge_within (by decide) W4).up (by
        have : (es0.length : Int) * 10 ^ 6 ≤ 6 * 10 ^ 6 := Int.mul_le_mul_of_nonneg_right (by omega) (by decide)
        exact this)
      generalize mergeD es0 = es at D5 nd ln wi
      clear R4 W4 n4 B4 k4 k3 B3 s5
      have rd := isRB_of hd
      have hd9 : d.natAbs ≤ 99 := by
        obtain ⟨h1, h2, _⟩ := hd
        omega
      have wiS := wi.perm (sortE_perm nd)
      have lnS : (sortE es).length ≤ 6 := by rw [(sortE_perm nd).length_eq]; exact ln
      have b6 : ∀ e ∈ sortE es, (e.1.1.natAbs ≤ 10 ^ 6 ∧ e.1.2.1.natAbs ≤ 10 ^ 6 ∧ e.1.2.2.1.natAbs ≤ 10 ^ 6 ∧ e.1.2.2.2.natAbs ≤ 10 ^ 6) ∧ e.2.2.natAbs ≤ 6 * 10 ^ 6 := fun f hf => by
        obtain ⟨h1, h2, h3⟩ := wiS f hf
        exact ⟨⟨h1.1.2.1, h1.1.2.2, h1.2.2.1, h1.2.2.2⟩, by omega⟩
      have gd : GoodRs d (rowsE (sortE es)) := ⟨by unfold rowsE; rw [List.pairwise_map]; exact sortE_up nd, fun e he => by
        obtain ⟨f, hf, rfl⟩ := List.mem_map.mp he
        obtain ⟨⟨c1, c2, c3, c4⟩, c5⟩ := b6 f hf
        have lt : (10 ^ 6 : Nat) < 10 ^ 20 := by decide
        exact ⟨⟨Nat.lt_of_le_of_lt c1 lt, Nat.lt_of_le_of_lt c2 lt, Nat.lt_of_le_of_lt c3 lt, Nat.lt_of_le_of_lt c4 lt⟩, Nat.lt_of_le_of_lt c5 (by decide), (wiS f hf).2.1, (wiS f hf).1.ok.b.1⟩⟩
      have told := told_of rd (Nat.lt_of_le_of_lt hd9 (by decide)) gd
      have hT : EsT (sortE es) := fun f hf => by
        obtain ⟨⟨c1, c2, c3, c4⟩, c5⟩ := b6 f hf
        have lt : (10 ^ 6 : Nat) < 10 ^ 64 := by decide
        exact ⟨⟨Nat.lt_of_le_of_lt c1 lt, Nat.lt_of_le_of_lt c2 lt, Nat.lt_of_le_of_lt c3 lt, Nat.lt_of_le_of_lt c4 lt⟩, Nat.lt_of_le_of_lt c5 (by decide)⟩
      have hT0 : EsT es := fun f hf => hT f ((sortE_perm nd).mem_iff.mpr hf)
      have l320 : (heapT d (rowsE (sortE es))).length ≤ 320 := heap_len7 (Nat.lt_of_le_of_lt hd9 (by decide)) (fun e he => by
        obtain ⟨f, hf, rfl⟩ := List.mem_map.mp he
        obtain ⟨⟨c1, c2, c3, c4⟩, c5⟩ := b6 f hf
        have lt : (10 ^ 6 : Nat) < 10 ^ 7 := by decide
        exact ⟨⟨Nat.lt_of_le_of_lt c1 lt, Nat.lt_of_le_of_lt c2 lt, Nat.lt_of_le_of_lt c3 lt, Nat.lt_of_le_of_lt c4 lt⟩, Nat.lt_of_le_of_lt c5 (by decide)⟩) (by rw [rowsE_len]; exact lnS)
      have hd20 : d.natAbs < 10 ^ 20 := Nat.lt_of_le_of_lt hd9 (by decide)
      clear b6
      refine ⟨_, rfl, _, rfl, c', d, _, es, rfl, hd, D5, nd, wi, by omega, fun hp H6 nhp s6 hA => ⟨_, rfl, _, rfl, c', d, es, rfl, D5.same s6, nd, hT0, by omega, hd20, fun H7 s7 => ⟨by show 2 ≤ sizeLine; decide, fun t nt => ⟨t, _, rfl, SqT.of upd_same, rfl, .ref hp, _, rfl, .str _, _, rfl, rfl, ?_⟩⟩⟩⟩
      have s8 := s7.trans (same_new (o := .tup [.ref hp, .str (heapT d (rowsE (sortE es)))]) nt)
      have L8 := (L6.same s6).same s8
      have D8 := (D5.same s6).same s8
      have hA8 := hA.same s8
      clear L6 D5 hA s6 s7 nt nhp
      generalize upd H7 t (.tup [.ref hp, .str (heapT d (rowsE (sortE es)))]) = G8 at s8 L8 D8 hA8 ⊢
      refine ⟨fun σ G => σ = [some (.ref a), some (.ref b), some (.ref l'), some (.int (0 + (i : Int))), some (.str (heapT d (rowsE (sortE es)))), y5, some (.int d), some (.ref c'), y8, some (.ref hp), y10, y11] ∧ Same G8 G, ?_, ?_⟩
      · refine ⟨_, rfl, hp, d, sortE es, rfl, hA8, hT, by omega, hd20, fun G9 s9 => ⟨_, rfl, rfl, _, rfl, ?_⟩⟩
        rw [dS, decide_eq_true rfl]
        refine iteF ⟨_, rfl, _, rfl, by omega, fun i2 hi2 => (by cases told.one hi2), fun d2 es2 p2 G10 hd2 s10 hA10 => ?_⟩
        obtain ⟨rfl, er⟩ := HAns.told.inj (told.one hd2)
        exact ⟨_, rfl, _, rfl, p2, c', d, es2, es, rfl, hA10, (D8.same s9).same s10, nd, by omega, er.symm, fun G11 s11 => ⟨true, rfl, iteF ⟨rfl, s9.trans (s10.trans s11)⟩⟩⟩
      rintro σ G12 ⟨rfl, s12⟩
      have L12 := L8.same s12
      have hA12 := hA8.same s12
      clear L8 D8 hA8 s8 s12
      refine ⟨_, rfl, _, rfl, b, sb, _, rfl, L12.bag, by omega, fun z1 H13 l1 B13 k13 => ?_⟩
      have L13 := L12.keep B13 k13
      refine ⟨_, rfl, _, rfl, _, rfl, _, rfl, b, sb, _, rfl, B13, by omega, fun z2 H14 l2 B14 k14 => ?_⟩
      have L14 := L13.keep B14 k14
      have hA14 := hA12.keep L12.bag (k13.trans k14)
      refine ⟨_, rfl, rfl, hp, d, sortE es, rfl, hA14, hT, by omega, hd20, fun H15 s15 => ⟨by show 3 ≤ sizeLine; decide, fun m nm => ?_⟩⟩
      have s16 := same_new (o := .lst [.str z1, .str z2, .str (heapT d (rowsE (sortE es)))]) nm
      have L16 := (L14.same s15).same s16
      refine ⟨l', m, _, _, rfl, rfl, L16.hl, upd_same, by rw [List.length_map, nts, sz_eq]; show _ + 3 ≤ _; omega, fun l2' nl2 => ?_⟩
      have L17 := L16.same (same_new (o := .lst (ts.map V.str ++ [.str z1, .str z2, .str (heapT d (rowsE (sortE es)))])) nl2)
      refine ⟨l2', ts ++ [z1, z2, heapT d (rowsE (sortE es))], _, _, _, _, _, _, _, _, _, rfl, ⟨L17.bag, L17.tab, by rw [List.map_append]; exact upd_same, L16.bag.ne nl2, fun t ht => ?_, by rw [List.length_append, nts]; show _ + 3 ≤ _; omega⟩, by rw [List.length_append, nts]; show _ + 3 = _; omega⟩
      rcases List.mem_append.mp ht with h | h
      · exact L2.len t h
      · simp only [List.mem_cons, List.not_mem_nil, or_false] at h
        rcases h with rfl | rfl | rfl <;> omega
    clear L5 n5
    rintro σ G6 ⟨l6, ts6, y3, y4, y5, y6, y7, y8, y9, y10, y11, rfl, L6⟩
    refine ⟨fun σ G => ∃ (l' : Addr) (ts : List Str) (y3 y4 y5 y6 y7 y8 y9 y10 y11 : Option V), σ = [some (.ref a), some (.ref b), some (.ref l'), y3, y4, y5, y6, y7, y8, y9, y10, y11] ∧ LT b sb P0 l' ts G, ?_, ?_⟩
    · refine ⟨_, rfl, l6, rfl, ⟨_, SqL.of L6.hl⟩, for_list (K := K) (a := l6) (xs := ts6.map V.str) (fun j σ G => (∃ y3 y4 y5 y6 y7 y8 y9 y10 y11 : Option V, σ = [some (.ref a), some (.ref b), some (.ref l6), y3, y4, y5, y6, y7, y8, y9, y10, y11]) ∧ LT b sb P0 l6 ts6 G) ⟨⟨_, _, _, _, _, _, _, _, _, rfl⟩, L6⟩ (fun j σ H' _ z => SqL.of z.2.hl) ?_ ?_⟩
      · rintro j v σ H7 hv ⟨⟨y3, y4, y5, y6, y7, y8, y9, y10, y11, rfl⟩, L7⟩
        obtain ⟨z, rfl, hz⟩ : ∃ t : Str, v = .str t ∧ t.length ≤ 5100 := by
          rw [List.getElem?_map] at hv
          cases e : ts6[j]? with
          | none =>
            rw [e] at hv
            cases hv
          | some t =>
            rw [e] at hv
            cases hv
            exact ⟨t, rfl, L7.len t (List.mem_of_getElem? e)⟩
        refine ⟨_, rfl, z, rfl, by omega, fun dv Ha sa hd => ⟨(L7.same sa).tab, fun Hb eb tb => ⟨_, rfl, ?_⟩⟩⟩
        have Lb := (L7.same sa).extN eb tb
        have hb := hd.extN eb
        unfold tNil
        refine parse_told (Q := ?Q) T ?hE ?hQ (by omega) ?q
        case hE => rfl
        case hQ => rfl
        intro f Hc sc hf
        have Lc := Lb.same sc
        have hc := hb.same sc
        clear hd hb L7 Lb sa eb tb sc
        refine ⟨_, _, rfl, ?_⟩
        cases hc with
        | @bad i1 t1 h1 ht1 =>
          cases hf with
          | told h2 _ _ => cases h1.one h2
          | @bad i2 t2 h2 ht2 =>
            obtain rfl := HAns.bad.inj (h1.one h2)
            refine ⟨_, rfl, t1, _, 0, .str (Str.ofString "BadText"), rfl, rfl, SqT.of ht1, atI_nat (j := 0) rfl, rfl, _, rfl, ?_⟩
            rw [dS, decide_eq_false (by decide +kernel)]
            have dp : ∀ t, Hc t = some (.tup [.str (Str.ofString "BadText"), .int i1]) → Dp K Hc (.ref t) (.tuple [.str (Str.ofString "BadText"), .int i1]) := fun t ht => .tup (SqT.of ht) (.cons (.str _) (.cons (.int _) .nil))
            refine iteT ⟨_, rfl, _, rfl, _, _, dp t2 ht2, dp t1 ht1, by simp [PyData.plain, PyData.plainAll], by simp [PyData.plain, PyData.plainAll], by simp [PyData.depth, PyData.depthAll], _, rfl, ?_⟩
            rw [PySem.SeqAt.eqv_refl_plain _ (by simp [PyData.plain, PyData.plainAll])]
            exact iteF ⟨⟨_, _, _, _, _, _, _, _, _, rfl⟩, Lc⟩
        | @told d1 es1 c1 t1 h1 ht1 D1 =>
          cases hf with
          | bad h2 _ => cases h1.one h2
          | @told d2 es2 p2 t2 h2 ht2 hA2 =>
            obtain ⟨rfl, er⟩ := HAns.told.inj (h1.one h2)
            obtain ⟨tx, g1, rd, _⟩ := told_text h1
            have asc := asc_of g1
            have few1 := told_few (by omega) h1
            have few2 := told_few (by omega) h2
            rw [rowsE_len] at few1 few2
            have g2 := g1
            rw [er] at g2 tx
            refine ⟨_, rfl, t1, _, 0, .str (Str.ofString "told"), rfl, rfl, SqT.of ht1, atI_nat (j := 0) rfl, rfl, _, rfl, ?_⟩
            rw [dS, decide_eq_true rfl]
            refine iteF ⟨_, rfl, t2, _, 0, .str (Str.ofString "told"), rfl, rfl, SqT.of ht2, atI_nat (j := 0) rfl, rfl, _, rfl, ?_⟩
            rw [dS, decide_eq_true rfl]
            refine iteF ⟨_, rfl, t2, _, 1, .ref p2, rfl, rfl, SqT.of ht2, atI_nat (j := 1) rfl, _, rfl, t1, _, 1, .int d1, rfl, rfl, SqT.of ht1, atI_nat (j := 1) rfl, _, rfl, t1, _, 2, .ref c1, rfl, rfl, SqT.of ht1, atI_nat (j := 2) rfl, p2, c1, d1, es2, es1, rfl, hA2, D1, asc.nd, few1, by rw [sort_id asc]; exact er.symm, fun Hd sd => ⟨true, rfl, iteF ?_⟩⟩
            refine ⟨_, rfl, t2, _, 1, .ref p2, rfl, rfl, SqT.of (sd _ _ ht2), atI_nat (j := 1) rfl, p2, d1, es2, rfl, hA2.same sd, EsT.good g2, few2, Nat.lt_of_lt_of_le (isRB_small rd) (by decide), fun He se => ⟨_, rfl, rfl, _, rfl, ?_⟩⟩
            rw [dS, tx, decide_eq_true rfl]
            exact iteF ⟨⟨_, _, _, _, _, _, _, _, _, rfl⟩, (Lc.same sd).same se⟩
      · rintro σ H8 ⟨⟨y3, y4, y5, y6, y7, y8, y9, y10, y11, rfl⟩, L8⟩
        exact ⟨_, _, _, _, _, _, _, _, _, _, _, rfl, L8⟩
    rintro σ G7 ⟨l7, ts7, y3, y4, y5, y6, y7, y8, y9, y10, y11, rfl, L7⟩
    clear L7 L6 B1 tb1 s1 hS hP
    refine ⟨fun σ G => ∃ p : Addr, σ = [some (.ref a), some (.ref b), some (.ref l7), y3, y4, some (.ref p), y6, y7, y8, y9, y10, y11] ∧ G p = some (.tup [.int (7 * 10 ^ 38), .int 0]), ?_, ?_⟩
    · refine ⟨by show 2 ≤ sizeLine; decide, fun t0 n0 => ⟨10, 19, rfl, rfl, ⟨by decide, by decide, by decide⟩, .ref t0, 7, 0, _, rfl, ⟨t0, rfl, SqT.of upd_same⟩, by decide +kernel, by decide +kernel, by decide +kernel, fun t1 Ha n1 s1 h1 => ⟨10, 19, rfl, rfl, ⟨by decide, by decide, by decide⟩, .ref t1, _, _, _, rfl, ⟨t1, rfl, SqT.of h1⟩, by decide +kernel, by decide +kernel, by decide +kernel, fun t2 Hb n2 s2 h2 => ?_⟩⟩⟩
      have e1 : (7 : Int) * 10 ^ (19 : Int).toNat * 10 ^ (19 : Int).toNat = 7 * 10 ^ 38 := by decide +kernel
      have e2 : (0 : Int) * 10 ^ (19 : Int).toNat * 10 ^ (19 : Int).toNat = 0 := by decide +kernel
      rw [e1, e2] at h2
      exact ⟨t2, rfl, h2⟩
    rintro σ G8 ⟨p, rfl, hp⟩
    refine ⟨fun σ G => σ = [some (.ref a), some (.ref b), some (.ref l7), y3, y4, some (.ref p), y6, y7, y8, y9, y10, y11], ?_, ?_⟩
    · refine ⟨rfl, _, rfl, by show 2 ≤ sizeLine; decide, fun u nu => ⟨by show 2 ≤ sizeLine; decide, fun tp ntp => ⟨2, [((7 * 10 ^ 38, 0, 1, 0), tp)], rfl, ?_⟩⟩⟩
      have su := same_new (o := .tup [.int 1, .int 0]) nu
      have st := same_new (o := .tup [.ref p, .ref u]) ntp
      have sh : ShAt (upd (upd G8 u (.tup [.int 1, .int 0])) tp (.tup [.ref p, .ref u])) tp (7 * 10 ^ 38, 0, 1, 0) := ⟨p, u, upd_same, st _ _ (su _ _ hp), st _ _ upd_same⟩
      have hb : rowB 2 (((7 * 10 ^ 38, 0, 1, 0) : Sh), tp, 1) = true := by
        show (decide ((1 : Int) ≤ 1) && shB 2 (7 * 10 ^ 38, 0, 1, 0)) = true
        decide +kernel
      refine ⟨by decide +kernel, fun b hb => ?_, by show 1 ≤ 100; decide, fun _ h0 Hc nh sc hA => ?_, fun i fb => ?_⟩
      · rw [List.mem_singleton.mp hb]
        refine ⟨sh, ?_⟩
        show ((7 * 10 ^ 38 : Int).natAbs < 2 ^ 200 ∧ (0 : Int).natAbs < 2 ^ 200 ∧ (1 : Int).natAbs < 2 ^ 200 ∧ (0 : Int).natAbs < 2 ^ 200)
        decide +kernel
      · have asc : Asc (onesE [(((7 * 10 ^ 38, 0, 1, 0) : Sh), tp)]) := ⟨List.pairwise_singleton _ _, fun e he => by rw [List.mem_singleton.mp he]; exact Int.le_refl 1⟩
        rw [merge_id asc.nd, sort_id asc] at hA
        refine ⟨h0, 2, _, rfl, hA, fun e he => ?_, by show 1 ≤ 1000; decide, by decide, fun Hd sd => ⟨_, _, rfl, rfl, ⟨by decide, fun _ _ => by decide +kernel, fun _ _ => by decide +kernel⟩, _, _, rfl, rfl, by decide +kernel, _, _, rfl, rfl, by decide +kernel, rfl, _, rfl, ?_⟩⟩
        · rw [List.mem_singleton.mp he]
          show ((7 * 10 ^ 38 : Int).natAbs < 10 ^ 64 ∧ (0 : Int).natAbs < 10 ^ 64 ∧ (1 : Int).natAbs < 10 ^ 64 ∧ (0 : Int).natAbs < 10 ^ 64) ∧ (1 : Int).natAbs < 10 ^ 64
          decide +kernel
        · rw [dS]
          show (if (!decide (heapT 2 [(((7 * 10 ^ 38, 0, 1, 0) : Sh), 1)] = _)) = true then _ else _)
          rw [big_heap, decide_eq_true rfl]
          exact iteF rfl
      · obtain ⟨⟨e, he, ez⟩, _⟩ := fb
        rw [List.mem_singleton.mp (List.mem_of_getElem? he)] at ez
        cases hb.symm.trans ez
    rintro σ G9 rfl
    have told3 : HRes (Str.ofString "root 3\n") (.told 3 []) := by
      have := told_of (d := 3) (rs := []) (by decide +kernel) (by decide) ⟨.nil, fun e he => by cases he⟩
      rwa [show heapT 3 [] = Str.ofString "root 3\n" by decide +kernel] at this
    refine ⟨rfl, _, rfl, by decide +kernel, fun i hi => ?_, fun d es p3 Ha hd sa hA => ?_⟩
    · cases told3.one hi
    · obtain ⟨rfl, er⟩ := HAns.told.inj (told3.one hd)
      obtain rfl : es = [] := List.map_eq_nil_iff.mp er.symm
      refine mk_heap (T := T) (w := w) (r := .ref T.r0_Heap_init) (es := []) (by decide +kernel) (.none T.z0_Heap_init.sq) (fun e he => by cases he) (fun e he => by cases he) (Nat.zero_le _) fun x H3 nx s3 hA3 => ?_
      obtain ⟨dx, cx, hpx, Dx⟩ := id hA3
      obtain ⟨dy, cy, hpy, Dy⟩ := id (hA.same s3)
      refine ⟨p3, _, _, x, _, _, rfl, rfl, hpy, hpx, p3, x, 3, 3, [], _, rfl, hA.same s3, hA3, ?_⟩
      have e : (decide ((3 : Int) = 3) && eqD [] (sortE (mergeD []))) = true := by decide +kernel
      rw [e]
      exact q _
end
theorem all_mk {w : World} {K : PySem.W.Frag} {h : Heap} {mg : Str → Option Value} {fa : Addr} (X : K.In h) (G : h.Ns mainGlobals mg) (hfa : mg "law" = some (.ref fa)) {l : PySem.W.OpenLaw} (hprog : l.prog = PySem.Challenge.pw_grainyard_k65_texts_of_heaps) {cL PL : Addr}
    {C_Heap : Addr} (aC_Heap : PySem.W.nsIn K mainGlobals "Heap" = some (some (.ref C_Heap))) (pg_Heap : PySem.W.plainGet K C_Heap Str.empty = true) (hd_Heap : PySem.W.hasDictIn K C_Heap = true) (po_Heap : PySem.W.plainOver K C_Heap = true) (sa_Heap : PySem.W.findIn K (.ref C_Heap) "__setattr__" = some (some (.builtin "object.__setattr__"))) (mk_Heap : PySem.W.makesIn K C_Heap = true) (kc_Heap : PySem.W.keepIn K (.ref C_Heap) = true) (sf_Heap : PySem.W.selfFirst K C_Heap = true) (nq_Heap : PySem.W.noSeq K C_Heap = true) (n_Heap_held_root : PySem.W.findIn K (.ref C_Heap) "held_root" = some none) (n_Heap_copies : PySem.W.findIn K (.ref C_Heap) "copies" = some none)
    (mo_Heap : PySem.W.mroIn K C_Heap (.type "object") = some true) (ne_Heap : PySem.W.findIn K (.ref C_Heap) "__ne__" = some (some (.builtin "object.__ne__"))) (ca_Heap : PySem.W.findIn K (.ref C_Heap) "__class__" = some (some (.builtin "object.__class__"))) (x_Heap_rmul : PySem.W.findIn K (.ref C_Heap) "__rmul__" = some none) (i_mul : PySem.W.findIn K (.type "int") "__mul__" = some (some (.builtin "int.__mul__"))) (i_rmul : PySem.W.findIn K (.type "int") "__rmul__" = some (some (.builtin "int.__rmul__"))) (is_Heap : PySem.W.subIn K (.type "int") (.ref C_Heap) = some false)
    {od0 an0 : Option Addr} {sl0 : Array (Option Value)} {kV0 oc0 dc0 pm0 cd0 ct0 : Value} {f0 : Addr}
    (a0 : PySem.W.nsIn K mainGlobals "decimal_text" = some (some (.ref f0))) (l0 : K.lookup f0 = some ⟨oc0, od0, .func (PySem.W.fnOf "decimal_text" "decimal_text" (defArgs s_decimal_text) (defBody s_decimal_text) (defScope s_decimal_text) .none kV0 dc0 pm0 an0 cd0 ct0), sl0⟩) (c0 : PySem.W.codeIn K cd0 "decimal_text" = true) (k0 : PySem.W.keepIn K (.ref f0) = true)
    {od1 an1 : Option Addr} {sl1 : Array (Option Value)} {kV1 oc1 dc1 pm1 cd1 ct1 : Value} {f1 : Addr}
    (a1 : PySem.W.nsIn K mainGlobals "whole_root" = some (some (.ref f1))) (l1 : K.lookup f1 = some ⟨oc1, od1, .func (PySem.W.fnOf "whole_root" "whole_root" (defArgs s_whole_root) (defBody s_whole_root) (defScope s_whole_root) .none kV1 dc1 pm1 an1 cd1 ct1), sl1⟩) (c1 : PySem.W.codeIn K cd1 "whole_root" = true) (k1 : PySem.W.keepIn K (.ref f1) = true)
    {od2 an2 : Option Addr} {sl2 : Array (Option Value)} {kV2 oc2 dc2 pm2 cd2 ct2 : Value} {f2 : Addr}
    (a2 : PySem.W.nsIn K mainGlobals "is_root" = some (some (.ref f2))) (l2 : K.lookup f2 = some ⟨oc2, od2, .func (PySem.W.fnOf "is_root" "is_root" (defArgs s_is_root) (defBody s_is_root) (defScope s_is_root) .none kV2 dc2 pm2 an2 cd2 ct2), sl2⟩) (c2 : PySem.W.codeIn K cd2 "is_root" = true) (k2 : PySem.W.keepIn K (.ref f2) = true)
    {od3 an3 : Option Addr} {sl3 : Array (Option Value)} {kV3 oc3 dc3 pm3 cd3 ct3 : Value} {f3 : Addr}
    (a3 : PySem.W.nsIn K mainGlobals "check_root" = some (some (.ref f3))) (l3 : K.lookup f3 = some ⟨oc3, od3, .func (PySem.W.fnOf "check_root" "check_root" (defArgs s_check_root) (defBody s_check_root) (defScope s_check_root) .none kV3 dc3 pm3 an3 cd3 ct3), sl3⟩) (c3 : PySem.W.codeIn K cd3 "check_root" = true) (k3 : PySem.W.keepIn K (.ref f3) = true)
    {od4 an4 : Option Addr} {sl4 : Array (Option Value)} {kV4 oc4 dc4 pm4 cd4 ct4 : Value} {f4 : Addr}
    (a4 : PySem.W.nsIn K mainGlobals "sign" = some (some (.ref f4))) (l4 : K.lookup f4 = some ⟨oc4, od4, .func (PySem.W.fnOf "sign" "sign" (defArgs s_sign) (defBody s_sign) (defScope s_sign) .none kV4 dc4 pm4 an4 cd4 ct4), sl4⟩) (c4 : PySem.W.codeIn K cd4 "sign" = true) (k4 : PySem.W.keepIn K (.ref f4) = true)
    {od5 an5 : Option Addr} {sl5 : Array (Option Value)} {kV5 oc5 dc5 pm5 cd5 ct5 : Value} {f5 : Addr}
    (a5 : PySem.W.nsIn K mainGlobals "is_length" = some (some (.ref f5))) (l5 : K.lookup f5 = some ⟨oc5, od5, .func (PySem.W.fnOf "is_length" "is_length" (defArgs s_is_length) (defBody s_is_length) (defScope s_is_length) .none kV5 dc5 pm5 an5 cd5 ct5), sl5⟩) (c5 : PySem.W.codeIn K cd5 "is_length" = true) (k5 : PySem.W.keepIn K (.ref f5) = true)
    {od6 an6 : Option Addr} {sl6 : Array (Option Value)} {kV6 oc6 dc6 pm6 cd6 ct6 : Value} {f6 : Addr}
    (a6 : PySem.W.nsIn K mainGlobals "scaled" = some (some (.ref f6))) (l6 : K.lookup f6 = some ⟨oc6, od6, .func (PySem.W.fnOf "scaled" "scaled" (defArgs s_scaled) (defBody s_scaled) (defScope s_scaled) .none kV6 dc6 pm6 an6 cd6 ct6), sl6⟩) (c6 : PySem.W.codeIn K cd6 "scaled" = true) (k6 : PySem.W.keepIn K (.ref f6) = true)
    {od7 an7 : Option Addr} {sl7 : Array (Option Value)} {kV7 oc7 dc7 pm7 cd7 ct7 : Value} {f7 : Addr}
    (a7 : PySem.W.nsIn K mainGlobals "is_sheet" = some (some (.ref f7))) (l7 : K.lookup f7 = some ⟨oc7, od7, .func (PySem.W.fnOf "is_sheet" "is_sheet" (defArgs s_is_sheet) (defBody s_is_sheet) (defScope s_is_sheet) .none kV7 dc7 pm7 an7 cd7 ct7), sl7⟩) (c7 : PySem.W.codeIn K cd7 "is_sheet" = true) (k7 : PySem.W.keepIn K (.ref f7) = true)
    {od8 an8 : Option Addr} {sl8 : Array (Option Value)} {kV8 oc8 dc8 pm8 cd8 ct8 : Value} {f8 : Addr}
    (a8 : PySem.W.nsIn K mainGlobals "check_rows" = some (some (.ref f8))) (l8 : K.lookup f8 = some ⟨oc8, od8, .func (PySem.W.fnOf "check_rows" "check_rows" (defArgs s_check_rows) (defBody s_check_rows) (defScope s_check_rows) .none kV8 dc8 pm8 an8 cd8 ct8), sl8⟩) (c8 : PySem.W.codeIn K cd8 "check_rows" = true) (k8 : PySem.W.keepIn K (.ref f8) = true)
    {od9 an9 : Option Addr} {sl9 : Array (Option Value)} {kV9 oc9 dc9 pm9 cd9 ct9 : Value} {f9 : Addr}
    (a9 : PySem.W.nsIn K mainGlobals "merged" = some (some (.ref f9))) (l9 : K.lookup f9 = some ⟨oc9, od9, .func (PySem.W.fnOf "merged" "merged" (defArgs s_merged) (defBody s_merged) (defScope s_merged) .none kV9 dc9 pm9 an9 cd9 ct9), sl9⟩) (c9 : PySem.W.codeIn K cd9 "merged" = true) (k9 : PySem.W.keepIn K (.ref f9) = true)
    {od10 an10 : Option Addr} {sl10 : Array (Option Value)} {oc10 dc10 pm10 cd10 ct10 : Value} {f10 : Addr} {T10 r010 : Addr} {tc10 : Value} {td10 : Option Addr} {tn10 : Nat} {ts10 : Array (Option Value)} {kV10 : Value}
    (a10 : PySem.W.findIn K (.ref C_Heap) "__init__" = some (some (.ref f10))) (i10 : PySem.W.isFn K (.ref f10) = true) (l10 : K.lookup f10 = some ⟨oc10, od10, .func (PySem.W.fnOf "__init__" "Heap.__init__" (defArgs s_Heap_init) (defBody s_Heap_init) (defScope s_Heap_init) (.ref T10) kV10 dc10 pm10 an10 cd10 ct10), sl10⟩) (c10 : PySem.W.codeIn K cd10 "Heap.__init__" = true) (k10 : PySem.W.keepIn K (.ref f10) = true)
    (t10 : K.lookup T10 = some ⟨tc10, td10, .seq #[.ref r010] tn10, ts10⟩)
    {y10d : Option Addr} {y10m : Nat} {y10s : Array (Option Value)} (y10a : K.lookup r010 = some ⟨.type "tuple", y10d, .seq #[] y10m, y10s⟩)
    {od11 an11 : Option Addr} {sl11 : Array (Option Value)} {oc11 kV11 dc11 pm11 cd11 ct11 : Value} {f11 p11 : Addr} {q11 : List Value}
    (a11 : PySem.W.findCls K (.ref C_Heap) (.type "type") "of" = some (.get (.builtin "classmethod.__get__") (.ref p11) .none (.ref C_Heap))) (r11 : PySem.W.recIn K p11 "classmethod" = some (.ref f11 :: q11)) (i11 : PySem.W.fnIn K f11 = true) (rd11 : PySem.W.readsIn K C_Heap (.type "type") = true) (gt11 : PySem.W.specialIn K (.ref C_Heap) "__getattribute__" = some (some (.builtin "type.__getattribute__"))) (l11 : K.lookup f11 = some ⟨oc11, od11, .func (PySem.W.fnOf "of" "Heap.of" (defArgs s_Heap_of) (defBody s_Heap_of) (defScope s_Heap_of) .none kV11 dc11 pm11 an11 cd11 ct11), sl11⟩) (c11 : PySem.W.codeIn K cd11 "Heap.of" = true) (k11 : PySem.W.keepIn K (.ref f11) = true)
    {od12 an12 : Option Addr} {sl12 : Array (Option Value)} {oc12 kV12 dc12 pm12 cd12 ct12 : Value} {f12 p12 : Addr} {q12 : List Value}
    (a12 : PySem.W.findIn K (.ref C_Heap) "root" = some (some (.ref p12))) (gp12 : PySem.W.specialIn K (.ref p12) "__get__" = some (some (.builtin "property.__get__"))) (tp12 : PySem.W.takesIn K (.ref p12) = some true) (rp12 : PySem.W.recIn K p12 "property" = some (.ref f12 :: q12)) (l12 : K.lookup f12 = some ⟨oc12, od12, .func (PySem.W.fnOf "root" "Heap.root" (defArgs s_Heap_root) (defBody s_Heap_root) (defScope s_Heap_root) .none kV12 dc12 pm12 an12 cd12 ct12), sl12⟩) (c12 : PySem.W.codeIn K cd12 "Heap.root" = true) (k12 : PySem.W.keepIn K (.ref f12) = true)
    {od13 an13 : Option Addr} {sl13 : Array (Option Value)} {oc13 dc13 pm13 cd13 ct13 : Value} {f13 : Addr} {kV13 : Value}
    (a13 : PySem.W.findIn K (.ref C_Heap) "rows" = some (some (.ref f13))) (i13 : PySem.W.isFn K (.ref f13) = true) (l13 : K.lookup f13 = some ⟨oc13, od13, .func (PySem.W.fnOf "rows" "Heap.rows" (defArgs s_Heap_rows) (defBody s_Heap_rows) (defScope s_Heap_rows) .none kV13 dc13 pm13 an13 cd13 ct13), sl13⟩) (c13 : PySem.W.codeIn K cd13 "Heap.rows" = true) (k13 : PySem.W.keepIn K (.ref f13) = true)
    {od14 an14 : Option Addr} {sl14 : Array (Option Value)} {oc14 dc14 pm14 cd14 ct14 : Value} {f14 : Addr} {kV14 : Value}
    (a14 : PySem.W.findIn K (.ref C_Heap) "__eq__" = some (some (.ref f14))) (i14 : PySem.W.isFn K (.ref f14) = true) (l14 : K.lookup f14 = some ⟨oc14, od14, .func (PySem.W.fnOf "__eq__" "Heap.__eq__" (defArgs s_Heap_eq) (defBody s_Heap_eq) (defScope s_Heap_eq) .none kV14 dc14 pm14 an14 cd14 ct14), sl14⟩) (c14 : PySem.W.codeIn K cd14 "Heap.__eq__" = true) (k14 : PySem.W.keepIn K (.ref f14) = true)
    {od15 an15 : Option Addr} {sl15 : Array (Option Value)} {kV15 oc15 dc15 pm15 cd15 ct15 : Value} {f15 : Addr}
    (a15 : PySem.W.nsIn K mainGlobals "pair_text" = some (some (.ref f15))) (l15 : K.lookup f15 = some ⟨oc15, od15, .func (PySem.W.fnOf "pair_text" "pair_text" (defArgs s_pair_text) (defBody s_pair_text) (defScope s_pair_text) .none kV15 dc15 pm15 an15 cd15 ct15), sl15⟩) (c15 : PySem.W.codeIn K cd15 "pair_text" = true) (k15 : PySem.W.keepIn K (.ref f15) = true)
    {od16 an16 : Option Addr} {sl16 : Array (Option Value)} {kV16 oc16 dc16 pm16 cd16 ct16 : Value} {f16 : Addr}
    (a16 : PySem.W.nsIn K mainGlobals "sheet_text" = some (some (.ref f16))) (l16 : K.lookup f16 = some ⟨oc16, od16, .func (PySem.W.fnOf "sheet_text" "sheet_text" (defArgs s_sheet_text) (defBody s_sheet_text) (defScope s_sheet_text) .none kV16 dc16 pm16 an16 cd16 ct16), sl16⟩) (c16 : PySem.W.codeIn K cd16 "sheet_text" = true) (k16 : PySem.W.keepIn K (.ref f16) = true)
    {od17 an17 : Option Addr} {sl17 : Array (Option Value)} {kV17 oc17 dc17 pm17 cd17 ct17 : Value} {f17 : Addr}
    (a17 : PySem.W.nsIn K mainGlobals "row_text" = some (some (.ref f17))) (l17 : K.lookup f17 = some ⟨oc17, od17, .func (PySem.W.fnOf "row_text" "row_text" (defArgs s_row_text) (defBody s_row_text) (defScope s_row_text) .none kV17 dc17 pm17 an17 cd17 ct17), sl17⟩) (c17 : PySem.W.codeIn K cd17 "row_text" = true) (k17 : PySem.W.keepIn K (.ref f17) = true)
    {od18 an18 : Option Addr} {sl18 : Array (Option Value)} {kV18 oc18 dc18 pm18 cd18 ct18 : Value} {f18 : Addr}
    (a18 : PySem.W.nsIn K mainGlobals "heap_text" = some (some (.ref f18))) (l18 : K.lookup f18 = some ⟨oc18, od18, .func (PySem.W.fnOf "heap_text" "heap_text" (defArgs s_heap_text) (defBody s_heap_text) (defScope s_heap_text) .none kV18 dc18 pm18 an18 cd18 ct18), sl18⟩) (c18 : PySem.W.codeIn K cd18 "heap_text" = true) (k18 : PySem.W.keepIn K (.ref f18) = true)
    {od19 an19 : Option Addr} {sl19 : Array (Option Value)} {kV19 oc19 dc19 pm19 cd19 ct19 : Value} {f19 : Addr}
    (a19 : PySem.W.nsIn K mainGlobals "read_number" = some (some (.ref f19))) (l19 : K.lookup f19 = some ⟨oc19, od19, .func (PySem.W.fnOf "read_number" "read_number" (defArgs s_read_number) (defBody s_read_number) (defScope s_read_number) .none kV19 dc19 pm19 an19 cd19 ct19), sl19⟩) (c19 : PySem.W.codeIn K cd19 "read_number" = true) (k19 : PySem.W.keepIn K (.ref f19) = true)
    {od20 an20 : Option Addr} {sl20 : Array (Option Value)} {kV20 oc20 dc20 pm20 cd20 ct20 : Value} {f20 : Addr}
    (a20 : PySem.W.nsIn K mainGlobals "read_numbers" = some (some (.ref f20))) (l20 : K.lookup f20 = some ⟨oc20, od20, .func (PySem.W.fnOf "read_numbers" "read_numbers" (defArgs s_read_numbers) (defBody s_read_numbers) (defScope s_read_numbers) .none kV20 dc20 pm20 an20 cd20 ct20), sl20⟩) (c20 : PySem.W.codeIn K cd20 "read_numbers" = true) (k20 : PySem.W.keepIn K (.ref f20) = true)
    {od21 an21 : Option Addr} {sl21 : Array (Option Value)} {kV21 oc21 dc21 pm21 cd21 ct21 : Value} {f21 : Addr}
    (a21 : PySem.W.nsIn K mainGlobals "read_pair" = some (some (.ref f21))) (l21 : K.lookup f21 = some ⟨oc21, od21, .func (PySem.W.fnOf "read_pair" "read_pair" (defArgs s_read_pair) (defBody s_read_pair) (defScope s_read_pair) .none kV21 dc21 pm21 an21 cd21 ct21), sl21⟩) (c21 : PySem.W.codeIn K cd21 "read_pair" = true) (k21 : PySem.W.keepIn K (.ref f21) = true)
    {od22 an22 : Option Addr} {sl22 : Array (Option Value)} {kV22 oc22 dc22 pm22 cd22 ct22 : Value} {f22 : Addr}
    (a22 : PySem.W.nsIn K mainGlobals "read_sheet" = some (some (.ref f22))) (l22 : K.lookup f22 = some ⟨oc22, od22, .func (PySem.W.fnOf "read_sheet" "read_sheet" (defArgs s_read_sheet) (defBody s_read_sheet) (defScope s_read_sheet) .none kV22 dc22 pm22 an22 cd22 ct22), sl22⟩) (c22 : PySem.W.codeIn K cd22 "read_sheet" = true) (k22 : PySem.W.keepIn K (.ref f22) = true)
    {od23 an23 : Option Addr} {sl23 : Array (Option Value)} {kV23 oc23 dc23 pm23 cd23 ct23 : Value} {f23 : Addr}
    (a23 : PySem.W.nsIn K mainGlobals "read_root" = some (some (.ref f23))) (l23 : K.lookup f23 = some ⟨oc23, od23, .func (PySem.W.fnOf "read_root" "read_root" (defArgs s_read_root) (defBody s_read_root) (defScope s_read_root) .none kV23 dc23 pm23 an23 cd23 ct23), sl23⟩) (c23 : PySem.W.codeIn K cd23 "read_root" = true) (k23 : PySem.W.keepIn K (.ref f23) = true)
    {od24 an24 : Option Addr} {sl24 : Array (Option Value)} {kV24 oc24 dc24 pm24 cd24 ct24 : Value} {f24 : Addr}
    (a24 : PySem.W.nsIn K mainGlobals "read_row" = some (some (.ref f24))) (l24 : K.lookup f24 = some ⟨oc24, od24, .func (PySem.W.fnOf "read_row" "read_row" (defArgs s_read_row) (defBody s_read_row) (defScope s_read_row) .none kV24 dc24 pm24 an24 cd24 ct24), sl24⟩) (c24 : PySem.W.codeIn K cd24 "read_row" = true) (k24 : PySem.W.keepIn K (.ref f24) = true)
    {od25 an25 : Option Addr} {sl25 : Array (Option Value)} {kV25 oc25 dc25 pm25 cd25 ct25 : Value} {f25 : Addr}
    (a25 : PySem.W.nsIn K mainGlobals "read_rows" = some (some (.ref f25))) (l25 : K.lookup f25 = some ⟨oc25, od25, .func (PySem.W.fnOf "read_rows" "read_rows" (defArgs s_read_rows) (defBody s_read_rows) (defScope s_read_rows) .none kV25 dc25 pm25 an25 cd25 ct25), sl25⟩) (c25 : PySem.W.codeIn K cd25 "read_rows" = true) (k25 : PySem.W.keepIn K (.ref f25) = true)
    {od26 an26 : Option Addr} {sl26 : Array (Option Value)} {kV26 oc26 dc26 pm26 cd26 ct26 : Value} {f26 : Addr}
    (a26 : PySem.W.nsIn K mainGlobals "parse_heap" = some (some (.ref f26))) (l26 : K.lookup f26 = some ⟨oc26, od26, .func (PySem.W.fnOf "parse_heap" "parse_heap" (defArgs s_parse_heap) (defBody s_parse_heap) (defScope s_parse_heap) .none kV26 dc26 pm26 an26 cd26 ct26), sl26⟩) (c26 : PySem.W.codeIn K cd26 "parse_heap" = true) (k26 : PySem.W.keepIn K (.ref f26) = true)
    {od27 an27 : Option Addr} {sl27 : Array (Option Value)} {kV27 oc27 dc27 pm27 cd27 ct27 : Value} {f27 : Addr}
    (a27 : PySem.W.nsIn K mainGlobals "_law_source" = some (some (.ref f27))) (l27 : K.lookup f27 = some ⟨oc27, od27, .func (PySem.W.fnOf "_law_source" "_law_source" (defArgs s_source) (defBody s_source) (defScope s_source) .none kV27 dc27 pm27 an27 cd27 ct27), sl27⟩) (c27 : PySem.W.codeIn K cd27 "_law_source" = true) (k27 : PySem.W.keepIn K (.ref f27) = true)
    {od28 an28 : Option Addr} {sl28 : Array (Option Value)} {kV28 oc28 dc28 pm28 cd28 ct28 : Value} {f28 : Addr}
    (a28 : PySem.W.nsIn K mainGlobals "_law_pull" = some (some (.ref f28))) (l28 : K.lookup f28 = some ⟨oc28, od28, .func (PySem.W.fnOf "_law_pull" "_law_pull" (defArgs s_pull) (defBody s_pull) (defScope s_pull) .none kV28 dc28 pm28 an28 cd28 ct28), sl28⟩) (c28 : PySem.W.codeIn K cd28 "_law_pull" = true) (k28 : PySem.W.keepIn K (.ref f28) = true)
    {od29 an29 : Option Addr} {sl29 : Array (Option Value)} {kV29 oc29 dc29 pm29 cd29 ct29 : Value} {f29 : Addr}
    (a29 : PySem.W.nsIn K mainGlobals "_law_of" = some (some (.ref f29))) (l29 : K.lookup f29 = some ⟨oc29, od29, .func (PySem.W.fnOf "_law_of" "_law_of" (defArgs s_of) (defBody s_of) (defScope s_of) .none kV29 dc29 pm29 an29 cd29 ct29), sl29⟩) (c29 : PySem.W.codeIn K cd29 "_law_of" = true) (k29 : PySem.W.keepIn K (.ref f29) = true)
    {od30 an30 : Option Addr} {sl30 : Array (Option Value)} {kV30 oc30 dc30 pm30 cd30 ct30 : Value} {f30 : Addr}
    (a30 : PySem.W.nsIn K mainGlobals "_law_roots" = some (some (.ref f30))) (l30 : K.lookup f30 = some ⟨oc30, od30, .func (PySem.W.fnOf "_law_roots" "_law_roots" (defArgs s_roots) (defBody s_roots) (defScope s_roots) .none kV30 dc30 pm30 an30 cd30 ct30), sl30⟩) (c30 : PySem.W.codeIn K cd30 "_law_roots" = true) (k30 : PySem.W.keepIn K (.ref f30) = true)
    {od31 an31 : Option Addr} {sl31 : Array (Option Value)} {kV31 oc31 dc31 pm31 cd31 ct31 : Value} {f31 : Addr}
    (a31 : PySem.W.nsIn K mainGlobals "_law_a_root" = some (some (.ref f31))) (l31 : K.lookup f31 = some ⟨oc31, od31, .func (PySem.W.fnOf "_law_a_root" "_law_a_root" (defArgs s_a_root) (defBody s_a_root) (defScope s_a_root) .none kV31 dc31 pm31 an31 cd31 ct31), sl31⟩) (c31 : PySem.W.codeIn K cd31 "_law_a_root" = true) (k31 : PySem.W.keepIn K (.ref f31) = true)
    {od32 an32 : Option Addr} {sl32 : Array (Option Value)} {kV32 oc32 dc32 pm32 cd32 ct32 : Value} {f32 : Addr}
    (a32 : PySem.W.nsIn K mainGlobals "_law_stock_of" = some (some (.ref f32))) (l32 : K.lookup f32 = some ⟨oc32, od32, .func (PySem.W.fnOf "_law_stock_of" "_law_stock_of" (defArgs s_stock_of) (defBody s_stock_of) (defScope s_stock_of) .none kV32 dc32 pm32 an32 cd32 ct32), sl32⟩) (c32 : PySem.W.codeIn K cd32 "_law_stock_of" = true) (k32 : PySem.W.keepIn K (.ref f32) = true)
    {od33 an33 : Option Addr} {sl33 : Array (Option Value)} {kV33 oc33 dc33 pm33 cd33 ct33 : Value} {f33 : Addr}
    (a33 : PySem.W.nsIn K mainGlobals "_law_any_pair" = some (some (.ref f33))) (l33 : K.lookup f33 = some ⟨oc33, od33, .func (PySem.W.fnOf "_law_any_pair" "_law_any_pair" (defArgs s_any_pair) (defBody s_any_pair) (defScope s_any_pair) .none kV33 dc33 pm33 an33 cd33 ct33), sl33⟩) (c33 : PySem.W.codeIn K cd33 "_law_any_pair" = true) (k33 : PySem.W.keepIn K (.ref f33) = true)
    {od34 an34 : Option Addr} {sl34 : Array (Option Value)} {kV34 oc34 dc34 pm34 cd34 ct34 : Value} {f34 : Addr}
    (a34 : PySem.W.nsIn K mainGlobals "_law_sign" = some (some (.ref f34))) (l34 : K.lookup f34 = some ⟨oc34, od34, .func (PySem.W.fnOf "_law_sign" "_law_sign" (defArgs s_lsign) (defBody s_lsign) (defScope s_lsign) .none kV34 dc34 pm34 an34 cd34 ct34), sl34⟩) (c34 : PySem.W.codeIn K cd34 "_law_sign" = true) (k34 : PySem.W.keepIn K (.ref f34) = true)
    {od35 an35 : Option Addr} {sl35 : Array (Option Value)} {kV35 oc35 dc35 pm35 cd35 ct35 : Value} {f35 : Addr}
    (a35 : PySem.W.nsIn K mainGlobals "_law_a_length" = some (some (.ref f35))) (l35 : K.lookup f35 = some ⟨oc35, od35, .func (PySem.W.fnOf "_law_a_length" "_law_a_length" (defArgs s_a_length) (defBody s_a_length) (defScope s_a_length) .none kV35 dc35 pm35 an35 cd35 ct35), sl35⟩) (c35 : PySem.W.codeIn K cd35 "_law_a_length" = true) (k35 : PySem.W.keepIn K (.ref f35) = true)
    {od36 an36 : Option Addr} {sl36 : Array (Option Value)} {kV36 oc36 dc36 pm36 cd36 ct36 : Value} {f36 : Addr}
    (a36 : PySem.W.nsIn K mainGlobals "_law_a_sheet" = some (some (.ref f36))) (l36 : K.lookup f36 = some ⟨oc36, od36, .func (PySem.W.fnOf "_law_a_sheet" "_law_a_sheet" (defArgs s_a_sheet) (defBody s_a_sheet) (defScope s_a_sheet) .none kV36 dc36 pm36 an36 cd36 ct36), sl36⟩) (c36 : PySem.W.codeIn K cd36 "_law_a_sheet" = true) (k36 : PySem.W.keepIn K (.ref f36) = true)
    {od37 an37 : Option Addr} {sl37 : Array (Option Value)} {kV37 oc37 dc37 pm37 cd37 ct37 : Value} {f37 : Addr}
    (a37 : PySem.W.nsIn K mainGlobals "_law_some_count" = some (some (.ref f37))) (l37 : K.lookup f37 = some ⟨oc37, od37, .func (PySem.W.fnOf "_law_some_count" "_law_some_count" (defArgs s_some_count) (defBody s_some_count) (defScope s_some_count) .none kV37 dc37 pm37 an37 cd37 ct37), sl37⟩) (c37 : PySem.W.codeIn K cd37 "_law_some_count" = true) (k37 : PySem.W.keepIn K (.ref f37) = true)
    {od38 an38 : Option Addr} {sl38 : Array (Option Value)} {kV38 oc38 dc38 pm38 cd38 ct38 : Value} {f38 : Addr}
    (a38 : PySem.W.nsIn K mainGlobals "_law_some_rows" = some (some (.ref f38))) (l38 : K.lookup f38 = some ⟨oc38, od38, .func (PySem.W.fnOf "_law_some_rows" "_law_some_rows" (defArgs s_some_rows) (defBody s_some_rows) (defScope s_some_rows) .none kV38 dc38 pm38 an38 cd38 ct38), sl38⟩) (c38 : PySem.W.codeIn K cd38 "_law_some_rows" = true) (k38 : PySem.W.keepIn K (.ref f38) = true)
    {od39 an39 : Option Addr} {sl39 : Array (Option Value)} {kV39 oc39 dc39 pm39 cd39 ct39 : Value} {f39 : Addr}
    (a39 : PySem.W.nsIn K mainGlobals "_law_listed" = some (some (.ref f39))) (l39 : K.lookup f39 = some ⟨oc39, od39, .func (PySem.W.fnOf "_law_listed" "_law_listed" (defArgs s_listed) (defBody s_listed) (defScope s_listed) .none kV39 dc39 pm39 an39 cd39 ct39), sl39⟩) (c39 : PySem.W.codeIn K cd39 "_law_listed" = true) (k39 : PySem.W.keepIn K (.ref f39) = true)
    {od40 an40 : Option Addr} {sl40 : Array (Option Value)} {kV40 oc40 dc40 pm40 cd40 ct40 : Value} {f40 : Addr}
    (a40 : PySem.W.nsIn K mainGlobals "_law_heap_of" = some (some (.ref f40))) (l40 : K.lookup f40 = some ⟨oc40, od40, .func (PySem.W.fnOf "_law_heap_of" "_law_heap_of" (defArgs s_heap_of) (defBody s_heap_of) (defScope s_heap_of) .none kV40 dc40 pm40 an40 cd40 ct40), sl40⟩) (c40 : PySem.W.codeIn K cd40 "_law_heap_of" = true) (k40 : PySem.W.keepIn K (.ref f40) = true)
    {od41 an41 : Option Addr} {sl41 : Array (Option Value)} {kV41 oc41 dc41 pm41 cd41 ct41 : Value} {f41 : Addr}
    (a41 : PySem.W.nsIn K mainGlobals "_law_pair_text" = some (some (.ref f41))) (l41 : K.lookup f41 = some ⟨oc41, od41, .func (PySem.W.fnOf "_law_pair_text" "_law_pair_text" (defArgs s_lpair_text) (defBody s_lpair_text) (defScope s_lpair_text) .none kV41 dc41 pm41 an41 cd41 ct41), sl41⟩) (c41 : PySem.W.codeIn K cd41 "_law_pair_text" = true) (k41 : PySem.W.keepIn K (.ref f41) = true)
    {od42 an42 : Option Addr} {sl42 : Array (Option Value)} {kV42 oc42 dc42 pm42 cd42 ct42 : Value} {f42 : Addr}
    (a42 : PySem.W.nsIn K mainGlobals "_law_sheet_text" = some (some (.ref f42))) (l42 : K.lookup f42 = some ⟨oc42, od42, .func (PySem.W.fnOf "_law_sheet_text" "_law_sheet_text" (defArgs s_lsheet_text) (defBody s_lsheet_text) (defScope s_lsheet_text) .none kV42 dc42 pm42 an42 cd42 ct42), sl42⟩) (c42 : PySem.W.codeIn K cd42 "_law_sheet_text" = true) (k42 : PySem.W.keepIn K (.ref f42) = true)
    {od43 an43 : Option Addr} {sl43 : Array (Option Value)} {kV43 oc43 dc43 pm43 cd43 ct43 : Value} {f43 : Addr}
    (a43 : PySem.W.nsIn K mainGlobals "_law_heap_text" = some (some (.ref f43))) (l43 : K.lookup f43 = some ⟨oc43, od43, .func (PySem.W.fnOf "_law_heap_text" "_law_heap_text" (defArgs s_lheap_text) (defBody s_lheap_text) (defScope s_lheap_text) .none kV43 dc43 pm43 an43 cd43 ct43), sl43⟩) (c43 : PySem.W.codeIn K cd43 "_law_heap_text" = true) (k43 : PySem.W.keepIn K (.ref f43) = true)
    {od44 an44 : Option Addr} {sl44 : Array (Option Value)} {kV44 oc44 dc44 pm44 cd44 ct44 : Value} {f44 : Addr}
    (a44 : PySem.W.nsIn K mainGlobals "_law_like" = some (some (.ref f44))) (l44 : K.lookup f44 = some ⟨oc44, od44, .func (PySem.W.fnOf "_law_like" "_law_like" (defArgs s_like) (defBody s_like) (defScope s_like) .none kV44 dc44 pm44 an44 cd44 ct44), sl44⟩) (c44 : PySem.W.codeIn K cd44 "_law_like" = true) (k44 : PySem.W.keepIn K (.ref f44) = true)
    {od45 an45 : Option Addr} {sl45 : Array (Option Value)} {kV45 oc45 dc45 pm45 cd45 ct45 : Value} {f45 : Addr}
    (a45 : PySem.W.nsIn K mainGlobals "_law_is_heap" = some (some (.ref f45))) (l45 : K.lookup f45 = some ⟨oc45, od45, .func (PySem.W.fnOf "_law_is_heap" "_law_is_heap" (defArgs s_is_heap) (defBody s_is_heap) (defScope s_is_heap) .none kV45 dc45 pm45 an45 cd45 ct45), sl45⟩) (c45 : PySem.W.codeIn K cd45 "_law_is_heap" = true) (k45 : PySem.W.keepIn K (.ref f45) = true)
    {od46 an46 : Option Addr} {sl46 : Array (Option Value)} {kV46 oc46 dc46 pm46 cd46 ct46 : Value} {f46 : Addr}
    (a46 : PySem.W.nsIn K mainGlobals "_law_bent_text" = some (some (.ref f46))) (l46 : K.lookup f46 = some ⟨oc46, od46, .func (PySem.W.fnOf "_law_bent_text" "_law_bent_text" (defArgs s_bent_text) (defBody s_bent_text) (defScope s_bent_text) .none kV46 dc46 pm46 an46 cd46 ct46), sl46⟩) (c46 : PySem.W.codeIn K cd46 "_law_bent_text" = true) (k46 : PySem.W.keepIn K (.ref f46) = true)
    {od47 an47 : Option Addr} {sl47 : Array (Option Value)} {kV47 oc47 dc47 pm47 cd47 ct47 : Value} {f47 : Addr}
    (a47 : PySem.W.nsIn K mainGlobals "_law_bent_lines" = some (some (.ref f47))) (l47 : K.lookup f47 = some ⟨oc47, od47, .func (PySem.W.fnOf "_law_bent_lines" "_law_bent_lines" (defArgs s_bent_lines) (defBody s_bent_lines) (defScope s_bent_lines) .none kV47 dc47 pm47 an47 cd47 ct47), sl47⟩) (c47 : PySem.W.codeIn K cd47 "_law_bent_lines" = true) (k47 : PySem.W.keepIn K (.ref f47) = true)
    {od48 an48 : Option Addr} {sl48 : Array (Option Value)} {kV48 oc48 dc48 pm48 cd48 ct48 : Value} {f48 : Addr}
    (a48 : PySem.W.nsIn K mainGlobals "_law_number_read" = some (some (.ref f48))) (l48 : K.lookup f48 = some ⟨oc48, od48, .func (PySem.W.fnOf "_law_number_read" "_law_number_read" (defArgs s_number_read) (defBody s_number_read) (defScope s_number_read) .none kV48 dc48 pm48 an48 cd48 ct48), sl48⟩) (c48 : PySem.W.codeIn K cd48 "_law_number_read" = true) (k48 : PySem.W.keepIn K (.ref f48) = true)
    {od49 an49 : Option Addr} {sl49 : Array (Option Value)} {kV49 oc49 dc49 pm49 cd49 ct49 : Value} {f49 : Addr}
    (a49 : PySem.W.nsIn K mainGlobals "_law_pair_read" = some (some (.ref f49))) (l49 : K.lookup f49 = some ⟨oc49, od49, .func (PySem.W.fnOf "_law_pair_read" "_law_pair_read" (defArgs s_pair_read) (defBody s_pair_read) (defScope s_pair_read) .none kV49 dc49 pm49 an49 cd49 ct49), sl49⟩) (c49 : PySem.W.codeIn K cd49 "_law_pair_read" = true) (k49 : PySem.W.keepIn K (.ref f49) = true)
    {od50 an50 : Option Addr} {sl50 : Array (Option Value)} {kV50 oc50 dc50 pm50 cd50 ct50 : Value} {f50 : Addr}
    (a50 : PySem.W.nsIn K mainGlobals "_law_sheet_read" = some (some (.ref f50))) (l50 : K.lookup f50 = some ⟨oc50, od50, .func (PySem.W.fnOf "_law_sheet_read" "_law_sheet_read" (defArgs s_sheet_read) (defBody s_sheet_read) (defScope s_sheet_read) .none kV50 dc50 pm50 an50 cd50 ct50), sl50⟩) (c50 : PySem.W.codeIn K cd50 "_law_sheet_read" = true) (k50 : PySem.W.keepIn K (.ref f50) = true)
    {od51 an51 : Option Addr} {sl51 : Array (Option Value)} {kV51 oc51 dc51 pm51 cd51 ct51 : Value} {f51 : Addr}
    (a51 : PySem.W.nsIn K mainGlobals "_law_row_flaw" = some (some (.ref f51))) (l51 : K.lookup f51 = some ⟨oc51, od51, .func (PySem.W.fnOf "_law_row_flaw" "_law_row_flaw" (defArgs s_row_flaw) (defBody s_row_flaw) (defScope s_row_flaw) .none kV51 dc51 pm51 an51 cd51 ct51), sl51⟩) (c51 : PySem.W.codeIn K cd51 "_law_row_flaw" = true) (k51 : PySem.W.keepIn K (.ref f51) = true)
    {od52 an52 : Option Addr} {sl52 : Array (Option Value)} {kV52 oc52 dc52 pm52 cd52 ct52 : Value} {f52 : Addr}
    (a52 : PySem.W.nsIn K mainGlobals "_law_heap_read" = some (some (.ref f52))) (l52 : K.lookup f52 = some ⟨oc52, od52, .func (PySem.W.fnOf "_law_heap_read" "_law_heap_read" (defArgs s_heap_read) (defBody s_heap_read) (defScope s_heap_read) .none kV52 dc52 pm52 an52 cd52 ct52), sl52⟩) (c52 : PySem.W.codeIn K cd52 "_law_heap_read" = true) (k52 : PySem.W.keepIn K (.ref f52) = true)
    {od53 an53 : Option Addr} {sl53 : Array (Option Value)} {kV53 oc53 dc53 pm53 cd53 ct53 : Value} {f53 : Addr}
    (a53 : PySem.W.nsIn K mainGlobals "_law_field_of" = some (some (.ref f53))) (l53 : K.lookup f53 = some ⟨oc53, od53, .func (PySem.W.fnOf "_law_field_of" "_law_field_of" (defArgs s_field_of) (defBody s_field_of) (defScope s_field_of) .none kV53 dc53 pm53 an53 cd53 ct53), sl53⟩) (c53 : PySem.W.codeIn K cd53 "_law_field_of" = true) (k53 : PySem.W.keepIn K (.ref f53) = true)
    {od54 an54 : Option Addr} {sl54 : Array (Option Value)} {kV54 oc54 dc54 pm54 cd54 ct54 : Value} {f54 : Addr}
    (a54 : PySem.W.nsIn K mainGlobals "_law_try" = some (some (.ref f54))) (l54 : K.lookup f54 = some ⟨oc54, od54, .func (PySem.W.fnOf "_law_try" "_law_try" (defArgs s_try) (defBody s_try) (defScope s_try) .none kV54 dc54 pm54 an54 cd54 ct54), sl54⟩) (c54 : PySem.W.codeIn K cd54 "_law_try" = true) (k54 : PySem.W.keepIn K (.ref f54) = true)
    {od55 an55 : Option Addr} {sl55 : Array (Option Value)} {kV55 oc55 dc55 pm55 ct55 : Value} {f55 : Addr}
    (a55 : PySem.W.nsIn K mainGlobals "law" = some (some (.ref f55))) (l55 : K.lookup f55 = some ⟨oc55, od55, .func (PySem.W.fnOf "law" "law" (defArgs s_law) (defBody s_law) (defScope s_law) .none kV55 dc55 pm55 an55 (.ref cL) ct55), sl55⟩) (c55 : PySem.W.codeIn K (.ref cL) "law" = true) (k55 : PySem.W.keepIn K (.ref f55) = true)
    (z0 : PySem.W.nsIn K mainGlobals "ValueError" = some none)
    (z1 : PySem.W.nsIn K mainGlobals "LookupError" = some none)
    (z2 : PySem.W.nsIn K mainGlobals "IndexError" = some none)
    (z3 : PySem.W.nsIn K mainGlobals "enumerate" = some none)
    (z4 : PySem.W.nsIn K mainGlobals "int" = some none)
    (z5 : PySem.W.nsIn K mainGlobals "tuple" = some none)
    (z6 : PySem.W.nsIn K mainGlobals "max" = some none)
    (z7 : PySem.W.nsIn K mainGlobals "range" = some none)
    (z8 : PySem.W.nsIn K mainGlobals "isinstance" = some none)
    (z9 : PySem.W.nsIn K mainGlobals "str" = some none)
    (z10 : PySem.W.nsIn K mainGlobals "sum" = some none)
    (z11 : PySem.W.nsIn K mainGlobals "list" = some none)
    (z12 : PySem.W.nsIn K mainGlobals "bool" = some none)
    (z13 : PySem.W.nsIn K mainGlobals "len" = some none)
    (z14 : PySem.W.nsIn K mainGlobals "abs" = some none)
    (z15 : PySem.W.nsIn K mainGlobals "sorted" = some none)
    (z16 : PySem.W.nsIn K mainGlobals "all" = some none)
    {t_GROUP : Tok} (a_GROUP : PySem.W.nsIn K mainGlobals "GROUP" = some (some (.int (10 ^ 64) t_GROUP)))
    {t_MOST_DIGITS : Tok} (a_MOST_DIGITS : PySem.W.nsIn K mainGlobals "MOST_DIGITS" = some (some (.int (20) t_MOST_DIGITS)))
    (hn : PySem.W.specialIn K (.builtin "object.__class__") "__get__" = some (some (.builtin "getset_descriptor.__get__"))) (ht : PySem.W.takesIn K (.builtin "object.__class__") = some true)
    {CGrainError : Addr} {DGrainError : ClassData} (aGrainError : PySem.W.nsIn K mainGlobals "GrainError" = some (some (.ref CGrainError))) (cGrainError : PySem.W.clsIn K CGrainError = some DGrainError) (nGrainError : DGrainError.name = "GrainError") (tGrainError : PySem.W.typeIn K (.ref CGrainError) = some (.type "type")) (sbGrainError : PySem.W.subIn K (.ref CGrainError) (.type "BaseException") = some true)
    {CGrainMissing : Addr} {DGrainMissing : ClassData} (aGrainMissing : PySem.W.nsIn K mainGlobals "GrainMissing" = some (some (.ref CGrainMissing))) (cGrainMissing : PySem.W.clsIn K CGrainMissing = some DGrainMissing) (nGrainMissing : DGrainMissing.name = "GrainMissing") (tGrainMissing : PySem.W.typeIn K (.ref CGrainMissing) = some (.type "type")) (sbGrainMissing : PySem.W.subIn K (.ref CGrainMissing) (.type "BaseException") = some true)
    (E_BadRoot : ErW PySem.Challenge.pw_grainyard_k65_texts_of_heaps K mg "ValueError" "ValueError.__new__" "ValueError.__init__" [.type "ValueError", .type "Exception", .type "BaseException", .type "object"] [.ref CGrainError] i_BadRoot "BadRoot" "BadRoot.__init__" ["word", "number"])
    (E_BadCount : ErW PySem.Challenge.pw_grainyard_k65_texts_of_heaps K mg "ValueError" "ValueError.__new__" "ValueError.__init__" [.type "ValueError", .type "Exception", .type "BaseException", .type "object"] [.ref CGrainError] i_BadCount "BadCount" "BadCount.__init__" ["word", "number"])
    (E_BadRow : ErW PySem.Challenge.pw_grainyard_k65_texts_of_heaps K mg "ValueError" "ValueError.__new__" "ValueError.__init__" [.type "ValueError", .type "Exception", .type "BaseException", .type "object"] [.ref CGrainError] i_BadRow "BadRow" "BadRow.__init__" ["word", "at"])
    (E_OtherRoot : ErW PySem.Challenge.pw_grainyard_k65_texts_of_heaps K mg "ValueError" "ValueError.__new__" "ValueError.__init__" [.type "ValueError", .type "Exception", .type "BaseException", .type "object"] [.ref CGrainError] i_OtherRoot "OtherRoot" "OtherRoot.__init__" ["word"])
    (E_BadText : ErW PySem.Challenge.pw_grainyard_k65_texts_of_heaps K mg "ValueError" "ValueError.__new__" "ValueError.__init__" [.type "ValueError", .type "Exception", .type "BaseException", .type "object"] [.ref CGrainError] i_BadText "BadText" "BadText.__init__" ["word", "at"])
    (E_NoSheet : ErW PySem.Challenge.pw_grainyard_k65_texts_of_heaps K mg "LookupError" "LookupError.__new__" "LookupError.__init__" [.type "LookupError", .type "Exception", .type "BaseException", .type "object"] [.ref CGrainMissing] i_NoSheet "NoSheet" "NoSheet.__init__" ["word", "sheet"])
    (E_NothingLeft : ErW PySem.Challenge.pw_grainyard_k65_texts_of_heaps K mg "IndexError" "IndexError.__new__" "IndexError.__init__" [.type "IndexError", .type "LookupError", .type "Exception", .type "BaseException", .type "object"] [] i_NothingLeft "NothingLeft" "NothingLeft.__init__" ["word"])
    (tabL : h.get? PL = some { cls := .none, data := .fields #[] }) (noL : K.lookup PL = none) (hdL : PySem.W.codeHdIn K cL PL = true) : LamX.LawAtS l w K CX0 18 63 "_law_script" mg fa h := by
  have e := hfa.symm.trans (PySem.W.mg_of X G a55)
  cases e
  have F0 := fun_mk (st := s_decimal_text) l0 c0 k0
  have b0 := F0.binds (ps := ["number"]) fun _ _ _ _ _ _ us hl => match us, hl with | [_], _ => rfl
  have F1 := fun_mk (st := s_whole_root) l1 c1 k1
  have b1 := F1.binds (ps := ["number"]) fun _ _ _ _ _ _ us hl => match us, hl with | [_], _ => rfl
  have F2 := fun_mk (st := s_is_root) l2 c2 k2
  have b2 := F2.binds (ps := ["number"]) fun _ _ _ _ _ _ us hl => match us, hl with | [_], _ => rfl
  have F3 := fun_mk (st := s_check_root) l3 c3 k3
  have b3 := F3.binds (ps := ["root"]) fun _ _ _ _ _ _ us hl => match us, hl with | [_], _ => rfl
  have F4 := fun_mk (st := s_sign) l4 c4 k4
  have b4 := F4.binds (ps := ["pair", "root"]) fun _ _ _ _ _ _ us hl => match us, hl with | [_, _], _ => rfl
  have F5 := fun_mk (st := s_is_length) l5 c5 k5
  have b5 := F5.binds (ps := ["pair", "root"]) fun _ _ _ _ _ _ us hl => match us, hl with | [_, _], _ => rfl
  have F6 := fun_mk (st := s_scaled) l6 c6 k6
  have b6 := F6.binds (ps := ["pair", "number"]) fun _ _ _ _ _ _ us hl => match us, hl with | [_, _], _ => rfl
  have F7 := fun_mk (st := s_is_sheet) l7 c7 k7
  have b7 := F7.binds (ps := ["sheet", "root"]) fun _ _ _ _ _ _ us hl => match us, hl with | [_, _], _ => rfl
  have F8 := fun_mk (st := s_check_rows) l8 c8 k8
  have b8 := F8.binds (ps := ["rows", "root"]) fun _ _ _ _ _ _ us hl => match us, hl with | [_, _], _ => rfl
  have F9 := fun_mk (st := s_merged) l9 c9 k9
  have b9 := F9.binds (ps := ["rows"]) fun _ _ _ _ _ _ us hl => match us, hl with | [_], _ => rfl
  have F10 : FunD K "__init__" "Heap.__init__" (defArgs s_Heap_init) (defBody s_Heap_init) (defScope s_Heap_init) [.ref r010] [] f10 _ := ⟨⟨_, _, _, _, _, _, _, _, _, _, rfl, l10, c10, .inr ⟨by simp, T10, _, [.ref r010], _, rfl, t10, rfl, .cons rfl .nil⟩, .inl rfl⟩, k10⟩
  have b10 := bd_given l10 t10 (ps := ["self", "root", "rows"]) (fun us hl => match us, hl with | [_, _, _], _ => ⟨_, rfl, rfl⟩)
  have e10 := bd_dflt l10 t10 (ps := ["self", "root", "rows"]) (fun us hl => match us, hl with | [_, _], _ => ⟨_, rfl, rfl⟩)
  have F11 := fun_mk (st := s_Heap_of) l11 c11 k11
  have F12 := fun_mk (st := s_Heap_root) l12 c12 k12
  have b12 := F12.binds (ps := ["self"]) fun _ _ _ _ _ _ us hl => match us, hl with | [_], _ => rfl
  have F13 := fun_mk (st := s_Heap_rows) l13 c13 k13
  have b13 := F13.binds (ps := ["self"]) fun _ _ _ _ _ _ us hl => match us, hl with | [_], _ => rfl
  have F14 := fun_mk (st := s_Heap_eq) l14 c14 k14
  have b14 := F14.binds (ps := ["self", "other"]) fun _ _ _ _ _ _ us hl => match us, hl with | [_, _], _ => rfl
  have F15 := fun_mk (st := s_pair_text) l15 c15 k15
  have b15 := F15.binds (ps := ["pair"]) fun _ _ _ _ _ _ us hl => match us, hl with | [_], _ => rfl
  have F16 := fun_mk (st := s_sheet_text) l16 c16 k16
  have b16 := F16.binds (ps := ["sheet"]) fun _ _ _ _ _ _ us hl => match us, hl with | [_], _ => rfl
  have F17 := fun_mk (st := s_row_text) l17 c17 k17
  have b17 := F17.binds (ps := ["row"]) fun _ _ _ _ _ _ us hl => match us, hl with | [_], _ => rfl
  have F18 := fun_mk (st := s_heap_text) l18 c18 k18
  have b18 := F18.binds (ps := ["heap"]) fun _ _ _ _ _ _ us hl => match us, hl with | [_], _ => rfl
  have F19 := fun_mk (st := s_read_number) l19 c19 k19
  have b19 := F19.binds (ps := ["text"]) fun _ _ _ _ _ _ us hl => match us, hl with | [_], _ => rfl
  have F20 := fun_mk (st := s_read_numbers) l20 c20 k20
  have b20 := F20.binds (ps := ["texts"]) fun _ _ _ _ _ _ us hl => match us, hl with | [_], _ => rfl
  have F21 := fun_mk (st := s_read_pair) l21 c21 k21
  have b21 := F21.binds (ps := ["text"]) fun _ _ _ _ _ _ us hl => match us, hl with | [_], _ => rfl
  have F22 := fun_mk (st := s_read_sheet) l22 c22 k22
  have b22 := F22.binds (ps := ["text"]) fun _ _ _ _ _ _ us hl => match us, hl with | [_], _ => rfl
  have F23 := fun_mk (st := s_read_root) l23 c23 k23
  have b23 := F23.binds (ps := ["line"]) fun _ _ _ _ _ _ us hl => match us, hl with | [_], _ => rfl
  have F24 := fun_mk (st := s_read_row) l24 c24 k24
  have b24 := F24.binds (ps := ["line", "root"]) fun _ _ _ _ _ _ us hl => match us, hl with | [_, _], _ => rfl
  have F25 := fun_mk (st := s_read_rows) l25 c25 k25
  have b25 := F25.binds (ps := ["lines", "root"]) fun _ _ _ _ _ _ us hl => match us, hl with | [_, _], _ => rfl
  have F26 := fun_mk (st := s_parse_heap) l26 c26 k26
  have b26 := F26.binds (ps := ["text"]) fun _ _ _ _ _ _ us hl => match us, hl with | [_], _ => rfl
  have F27 := fun_mk (st := s_source) l27 c27 k27
  have b27 := F27.binds (ps := ["_law_script"]) fun _ _ _ _ _ _ us hl => match us, hl with | [_], _ => rfl
  have F28 := fun_mk (st := s_pull) l28 c28 k28
  have b28 := F28.binds (ps := ["_law_bag", "_law_size"]) fun _ _ _ _ _ _ us hl => match us, hl with | [_, _], _ => rfl
  have F29 := fun_mk (st := s_of) l29 c29 k29
  have b29 := F29.binds (ps := ["_law_bag", "_law_some"]) fun _ _ _ _ _ _ us hl => match us, hl with | [_, _], _ => rfl
  have F30 := fun_mk (st := s_roots) l30 c30 k30
  have b30 := F30.binds (ps := []) fun _ _ _ _ _ _ us hl => match us, hl with | [], _ => rfl
  have F31 := fun_mk (st := s_a_root) l31 c31 k31
  have b31 := F31.binds (ps := ["_law_bag"]) fun _ _ _ _ _ _ us hl => match us, hl with | [_], _ => rfl
  have F32 := fun_mk (st := s_stock_of) l32 c32 k32
  have b32 := F32.binds (ps := ["_law_rows"]) fun _ _ _ _ _ _ us hl => match us, hl with | [_], _ => rfl
  have F33 := fun_mk (st := s_any_pair) l33 c33 k33
  have b33 := F33.binds (ps := ["_law_bag"]) fun _ _ _ _ _ _ us hl => match us, hl with | [_], _ => rfl
  have F34 := fun_mk (st := s_lsign) l34 c34 k34
  have b34 := F34.binds (ps := ["_law_pair", "_law_root"]) fun _ _ _ _ _ _ us hl => match us, hl with | [_, _], _ => rfl
  have F35 := fun_mk (st := s_a_length) l35 c35 k35
  have b35 := F35.binds (ps := ["_law_bag", "_law_root"]) fun _ _ _ _ _ _ us hl => match us, hl with | [_, _], _ => rfl
  have F36 := fun_mk (st := s_a_sheet) l36 c36 k36
  have b36 := F36.binds (ps := ["_law_bag", "_law_root"]) fun _ _ _ _ _ _ us hl => match us, hl with | [_, _], _ => rfl
  have F37 := fun_mk (st := s_some_count) l37 c37 k37
  have b37 := F37.binds (ps := ["_law_bag"]) fun _ _ _ _ _ _ us hl => match us, hl with | [_], _ => rfl
  have F38 := fun_mk (st := s_some_rows) l38 c38 k38
  have b38 := F38.binds (ps := ["_law_bag", "_law_root", "_law_most"]) fun _ _ _ _ _ _ us hl => match us, hl with | [_, _, _], _ => rfl
  have F39 := fun_mk (st := s_listed) l39 c39 k39
  have b39 := F39.binds (ps := ["_law_stock"]) fun _ _ _ _ _ _ us hl => match us, hl with | [_], _ => rfl
  have F40 := fun_mk (st := s_heap_of) l40 c40 k40
  have b40 := F40.binds (ps := ["_law_root", "_law_stock"]) fun _ _ _ _ _ _ us hl => match us, hl with | [_, _], _ => rfl
  have F41 := fun_mk (st := s_lpair_text) l41 c41 k41
  have b41 := F41.binds (ps := ["_law_pair"]) fun _ _ _ _ _ _ us hl => match us, hl with | [_], _ => rfl
  have F42 := fun_mk (st := s_lsheet_text) l42 c42 k42
  have b42 := F42.binds (ps := ["_law_sheet"]) fun _ _ _ _ _ _ us hl => match us, hl with | [_], _ => rfl
  have F43 := fun_mk (st := s_lheap_text) l43 c43 k43
  have b43 := F43.binds (ps := ["_law_root", "_law_stock"]) fun _ _ _ _ _ _ us hl => match us, hl with | [_, _], _ => rfl
  have F44 := fun_mk (st := s_like) l44 c44 k44
  have b44 := F44.binds (ps := ["_law_found", "_law_due"]) fun _ _ _ _ _ _ us hl => match us, hl with | [_, _], _ => rfl
  have F45 := fun_mk (st := s_is_heap) l45 c45 k45
  have b45 := F45.binds (ps := ["_law_heap_z", "_law_root", "_law_stock"]) fun _ _ _ _ _ _ us hl => match us, hl with | [_, _, _], _ => rfl
  have F46 := fun_mk (st := s_bent_text) l46 c46 k46
  have b46 := F46.binds (ps := ["_law_bag", "_law_text_z", "_law_signs"]) fun _ _ _ _ _ _ us hl => match us, hl with | [_, _, _], _ => rfl
  have F47 := fun_mk (st := s_bent_lines) l47 c47 k47
  have b47 := F47.binds (ps := ["_law_bag", "_law_text_z"]) fun _ _ _ _ _ _ us hl => match us, hl with | [_, _], _ => rfl
  have F48 := fun_mk (st := s_number_read) l48 c48 k48
  have b48 := F48.binds (ps := ["_law_word"]) fun _ _ _ _ _ _ us hl => match us, hl with | [_], _ => rfl
  have F49 := fun_mk (st := s_pair_read) l49 c49 k49
  have b49 := F49.binds (ps := ["_law_text_z"]) fun _ _ _ _ _ _ us hl => match us, hl with | [_], _ => rfl
  have F50 := fun_mk (st := s_sheet_read) l50 c50 k50
  have b50 := F50.binds (ps := ["_law_text_z"]) fun _ _ _ _ _ _ us hl => match us, hl with | [_], _ => rfl
  have F51 := fun_mk (st := s_row_flaw) l51 c51 k51
  have b51 := F51.binds (ps := ["_law_sheet", "_law_copies", "_law_root"]) fun _ _ _ _ _ _ us hl => match us, hl with | [_, _, _], _ => rfl
  have F52 := fun_mk (st := s_heap_read) l52 c52 k52
  have b52 := F52.binds (ps := ["_law_text_z"]) fun _ _ _ _ _ _ us hl => match us, hl with | [_], _ => rfl
  have F53 := fun_mk (st := s_field_of) l53 c53 k53
  have b53 := F53.binds (ps := ["_law_e"]) fun _ _ _ _ _ _ us hl => match us, hl with | [_], _ => rfl
  have F54 := fun_mk (st := s_try) l54 c54 k54
  have b54 := F54.binds (ps := ["_law_ask"]) fun _ _ _ _ _ _ us hl => match us, hl with | [_], _ => rfl
  have F55 := fun_mk (st := s_law) l55 c55 k55
  have T : Txt K mg := {
    f_decimal_text := f0
    d_decimal_text := _
    F_decimal_text := F0
    g_decimal_text := PySem.W.mg_of X G a0
    b_decimal_text := b0
    f_whole_root := f1
    d_whole_root := _
    F_whole_root := F1
    g_whole_root := PySem.W.mg_of X G a1
    b_whole_root := b1
    f_is_root := f2
    d_is_root := _
    F_is_root := F2
    g_is_root := PySem.W.mg_of X G a2
    b_is_root := b2
    f_check_root := f3
    d_check_root := _
    F_check_root := F3
    g_check_root := PySem.W.mg_of X G a3
    b_check_root := b3
    f_sign := f4
    d_sign := _
    F_sign := F4
    g_sign := PySem.W.mg_of X G a4
    b_sign := b4
    f_is_length := f5
    d_is_length := _
    F_is_length := F5
    g_is_length := PySem.W.mg_of X G a5
    b_is_length := b5
    f_scaled := f6
    d_scaled := _
    F_scaled := F6
    g_scaled := PySem.W.mg_of X G a6
    b_scaled := b6
    f_is_sheet := f7
    d_is_sheet := _
    F_is_sheet := F7
    g_is_sheet := PySem.W.mg_of X G a7
    b_is_sheet := b7
    f_check_rows := f8
    d_check_rows := _
    F_check_rows := F8
    g_check_rows := PySem.W.mg_of X G a8
    b_check_rows := b8
    f_merged := f9
    d_merged := _
    F_merged := F9
    g_merged := PySem.W.mg_of X G a9
    b_merged := b9
    C_Heap := C_Heap
    cl_Heap := .mk pg_Heap hd_Heap po_Heap sa_Heap
    g_Heap := PySem.W.mg_of X G aC_Heap
    sf_Heap := sf_Heap
    nq_Heap := nq_Heap
    n_Heap_held_root := n_Heap_held_root
    n_Heap_copies := n_Heap_copies
    M_Heap := .mk mk_Heap a10 i10 kc_Heap
    mo_Heap := mo_Heap
    ne_Heap := ne_Heap
    ca_Heap := ca_Heap
    x_Heap_rmul := x_Heap_rmul
    i_mul := i_mul
    i_rmul := i_rmul
    is_Heap := is_Heap
    f_Heap_init := f10
    d_Heap_init := _
    r0_Heap_init := r010
    F_Heap_init := F10
    b_Heap_init := b10
    b0_Heap_init := e10
    v0_Heap_init := .cons rfl .nil
    z0_Heap_init := .mk y10a
    f_Heap_of := f11
    d_Heap_of := _
    F_Heap_of := F11
    p_Heap_of := p11
    cr_Heap := .mk rd11 gt11
    cm_Heap_of := .mk a11 (.intro _ r11) i11
    p_Heap_root := p12
    pr_Heap_root := PropOf.mk a12 gp12 tp12 (.intro _ rp12)
    f_Heap_root := f12
    d_Heap_root := _
    F_Heap_root := F12
    b_Heap_root := b12
    m_Heap_rows := .mk a13 i13 k13
    f_Heap_rows := f13
    d_Heap_rows := _
    F_Heap_rows := F13
    b_Heap_rows := b13
    m_Heap_eq := .mk a14 i14 k14
    f_Heap_eq := f14
    d_Heap_eq := _
    F_Heap_eq := F14
    b_Heap_eq := b14
    f_pair_text := f15
    d_pair_text := _
    F_pair_text := F15
    g_pair_text := PySem.W.mg_of X G a15
    b_pair_text := b15
    f_sheet_text := f16
    d_sheet_text := _
    F_sheet_text := F16
    g_sheet_text := PySem.W.mg_of X G a16
    b_sheet_text := b16
    f_row_text := f17
    d_row_text := _
    F_row_text := F17
    g_row_text := PySem.W.mg_of X G a17
    b_row_text := b17
    f_heap_text := f18
    d_heap_text := _
    F_heap_text := F18
    g_heap_text := PySem.W.mg_of X G a18
    b_heap_text := b18
    f_read_number := f19
    d_read_number := _
    F_read_number := F19
    g_read_number := PySem.W.mg_of X G a19
    b_read_number := b19
    f_read_numbers := f20
    d_read_numbers := _
    F_read_numbers := F20
    g_read_numbers := PySem.W.mg_of X G a20
    b_read_numbers := b20
    f_read_pair := f21
    d_read_pair := _
    F_read_pair := F21
    g_read_pair := PySem.W.mg_of X G a21
    b_read_pair := b21
    f_read_sheet := f22
    d_read_sheet := _
    F_read_sheet := F22
    g_read_sheet := PySem.W.mg_of X G a22
    b_read_sheet := b22
    f_read_root := f23
    d_read_root := _
    F_read_root := F23
    g_read_root := PySem.W.mg_of X G a23
    b_read_root := b23
    f_read_row := f24
    d_read_row := _
    F_read_row := F24
    g_read_row := PySem.W.mg_of X G a24
    b_read_row := b24
    f_read_rows := f25
    d_read_rows := _
    F_read_rows := F25
    g_read_rows := PySem.W.mg_of X G a25
    b_read_rows := b25
    f_parse_heap := f26
    d_parse_heap := _
    F_parse_heap := F26
    g_parse_heap := PySem.W.mg_of X G a26
    b_parse_heap := b26
    f_source := f27
    d_source := _
    F_source := F27
    g_source := PySem.W.mg_of X G a27
    b_source := b27
    f_pull := f28
    d_pull := _
    F_pull := F28
    g_pull := PySem.W.mg_of X G a28
    b_pull := b28
    f_of := f29
    d_of := _
    F_of := F29
    g_of := PySem.W.mg_of X G a29
    b_of := b29
    f_roots := f30
    d_roots := _
    F_roots := F30
    g_roots := PySem.W.mg_of X G a30
    b_roots := b30
    f_a_root := f31
    d_a_root := _
    F_a_root := F31
    g_a_root := PySem.W.mg_of X G a31
    b_a_root := b31
    f_stock_of := f32
    d_stock_of := _
    F_stock_of := F32
    g_stock_of := PySem.W.mg_of X G a32
    b_stock_of := b32
    f_any_pair := f33
    d_any_pair := _
    F_any_pair := F33
    g_any_pair := PySem.W.mg_of X G a33
    b_any_pair := b33
    f_lsign := f34
    d_lsign := _
    F_lsign := F34
    g_lsign := PySem.W.mg_of X G a34
    b_lsign := b34
    f_a_length := f35
    d_a_length := _
    F_a_length := F35
    g_a_length := PySem.W.mg_of X G a35
    b_a_length := b35
    f_a_sheet := f36
    d_a_sheet := _
    F_a_sheet := F36
    g_a_sheet := PySem.W.mg_of X G a36
    b_a_sheet := b36
    f_some_count := f37
    d_some_count := _
    F_some_count := F37
    g_some_count := PySem.W.mg_of X G a37
    b_some_count := b37
    f_some_rows := f38
    d_some_rows := _
    F_some_rows := F38
    g_some_rows := PySem.W.mg_of X G a38
    b_some_rows := b38
    f_listed := f39
    d_listed := _
    F_listed := F39
    g_listed := PySem.W.mg_of X G a39
    b_listed := b39
    f_heap_of := f40
    d_heap_of := _
    F_heap_of := F40
    g_heap_of := PySem.W.mg_of X G a40
    b_heap_of := b40
    f_lpair_text := f41
    d_lpair_text := _
    F_lpair_text := F41
    g_lpair_text := PySem.W.mg_of X G a41
    b_lpair_text := b41
    f_lsheet_text := f42
    d_lsheet_text := _
    F_lsheet_text := F42
    g_lsheet_text := PySem.W.mg_of X G a42
    b_lsheet_text := b42
    f_lheap_text := f43
    d_lheap_text := _
    F_lheap_text := F43
    g_lheap_text := PySem.W.mg_of X G a43
    b_lheap_text := b43
    f_like := f44
    d_like := _
    F_like := F44
    g_like := PySem.W.mg_of X G a44
    b_like := b44
    f_is_heap := f45
    d_is_heap := _
    F_is_heap := F45
    g_is_heap := PySem.W.mg_of X G a45
    b_is_heap := b45
    f_bent_text := f46
    d_bent_text := _
    F_bent_text := F46
    g_bent_text := PySem.W.mg_of X G a46
    b_bent_text := b46
    f_bent_lines := f47
    d_bent_lines := _
    F_bent_lines := F47
    g_bent_lines := PySem.W.mg_of X G a47
    b_bent_lines := b47
    f_number_read := f48
    d_number_read := _
    F_number_read := F48
    g_number_read := PySem.W.mg_of X G a48
    b_number_read := b48
    f_pair_read := f49
    d_pair_read := _
    F_pair_read := F49
    g_pair_read := PySem.W.mg_of X G a49
    b_pair_read := b49
    f_sheet_read := f50
    d_sheet_read := _
    F_sheet_read := F50
    g_sheet_read := PySem.W.mg_of X G a50
    b_sheet_read := b50
    f_row_flaw := f51
    d_row_flaw := _
    F_row_flaw := F51
    g_row_flaw := PySem.W.mg_of X G a51
    b_row_flaw := b51
    f_heap_read := f52
    d_heap_read := _
    F_heap_read := F52
    g_heap_read := PySem.W.mg_of X G a52
    b_heap_read := b52
    f_field_of := f53
    d_field_of := _
    F_field_of := F53
    g_field_of := PySem.W.mg_of X G a53
    b_field_of := b53
    f_try := f54
    d_try := _
    F_try := F54
    g_try := PySem.W.mg_of X G a54
    b_try := b54
    n_ValueError := PySem.W.mg_none_of X G z0
    n_LookupError := PySem.W.mg_none_of X G z1
    n_IndexError := PySem.W.mg_none_of X G z2
    n_enumerate := PySem.W.mg_none_of X G z3
    n_int := PySem.W.mg_none_of X G z4
    n_tuple := PySem.W.mg_none_of X G z5
    n_max := PySem.W.mg_none_of X G z6
    n_range := PySem.W.mg_none_of X G z7
    n_isinstance := PySem.W.mg_none_of X G z8
    n_str := PySem.W.mg_none_of X G z9
    n_sum := PySem.W.mg_none_of X G z10
    n_list := PySem.W.mg_none_of X G z11
    n_bool := PySem.W.mg_none_of X G z12
    n_len := PySem.W.mg_none_of X G z13
    n_abs := PySem.W.mg_none_of X G z14
    n_sorted := PySem.W.mg_none_of X G z15
    n_all := PySem.W.mg_none_of X G z16
    kb_parse_heap_text := kbn_parse_heap_text F26
    kb_heap_text_heap := kbn_heap_text_heap F18
    r_GrainError := CGrainError
    g_GrainError := PySem.W.mg_of X G aGrainError
    c_GrainError := .intro _ ⟨cGrainError,nGrainError⟩
    t_GrainError := tGrainError
    sb_GrainError := sbGrainError
    r_GrainMissing := CGrainMissing
    g_GrainMissing := PySem.W.mg_of X G aGrainMissing
    c_GrainMissing := .intro _ ⟨cGrainMissing,nGrainMissing⟩
    t_GrainMissing := tGrainMissing
    sb_GrainMissing := sbGrainMissing
    e_BadRoot := E_BadRoot.e
    x_BadRoot_word := E_BadRoot.no _ (by simp)
    x_BadRoot_number := E_BadRoot.no _ (by simp)
    e_BadCount := E_BadCount.e
    x_BadCount_word := E_BadCount.no _ (by simp)
    x_BadCount_number := E_BadCount.no _ (by simp)
    e_BadRow := E_BadRow.e
    x_BadRow_word := E_BadRow.no _ (by simp)
    x_BadRow_at := E_BadRow.no _ (by simp)
    e_OtherRoot := E_OtherRoot.e
    x_OtherRoot_word := E_OtherRoot.no _ (by simp)
    e_BadText := E_BadText.e
    x_BadText_word := E_BadText.no _ (by simp)
    x_BadText_at := E_BadText.no _ (by simp)
    e_NoSheet := E_NoSheet.e
    x_NoSheet_word := E_NoSheet.no _ (by simp)
    x_NoSheet_sheet := E_NoSheet.no _ (by simp)
    e_NothingLeft := E_NothingLeft.e
    x_NothingLeft_word := E_NothingLeft.no _ (by simp)
    hn := hn
    ht := ht
    u_GROUP := _
    g_GROUP := PySem.W.mg_of X G a_GROUP
    rv_GROUP := ⟨t_GROUP, rfl⟩
    u_MOST_DIGITS := _
    g_MOST_DIGITS := PySem.W.mg_of X G a_MOST_DIGITS
    rv_MOST_DIGITS := ⟨t_MOST_DIGITS, rfl⟩ }
  refine ⟨PySem.W.fnOf "law" "law" (defArgs s_law) (defBody s_law) (defScope s_law) .none kV55 dc55 pm55 an55 (.ref cL) ct55, [(cL, PL)], spLaw K PL, fun p hp => ?_, fun p hp => ?_, fun p hp => ?_, fun s v => .of_eq rfl, fun H a ns hl _ hP hS => ⟨a, ns, rfl, hS, hl, hP _ (List.mem_singleton.mpr rfl), fun _ => rfl⟩, fun base _ _ TB => ?_⟩
  · rw [List.mem_singleton.mp hp]
    exact tabL
  · rw [List.mem_singleton.mp hp]
    exact noL
  · rw [List.mem_singleton.mp hp]
    exact PySem.W.codeHd_of_K X hdL
  · rw [hprog]
    exact ok_law l55 c55 (TB _ (List.mem_singleton.mpr rfl)) T
end Gy
open PySem PySem.W PyProof.Rows
set_option maxRecDepth 100000 in
set_option maxHeartbeats 0 in
theorem PySem.Challenge.cw_grainyard_k65_texts_of_heaps_holds : PySem.Challenge.rw_grainyard_k65_texts_of_heaps.Holds := by
  w_on; o_law; k_head; (case hw => w_witness2)
  k_fill
  refine LamX.walk_ofTs (l := PySem.Challenge.rw_grainyard_k65_texts_of_heaps) (n := 63) (k := 18) (x := "_law_script") (CX := fun _ => L2.CX0) rfl (by decide) rfl ⟨rfl, by decide, by decide⟩ (fun w h Y => PySem.W.km_in_of Y) ?F (fun _ _ _ _ _ h => h)
  case F =>
    intro w mg fa h Y KX G hmg
    have hT := PySem.W.km_tabs_of Y
    refine' Gy.all_mk KX G hmg rfl ?aC_Heap ?pg_Heap ?hd_Heap ?po_Heap ?sa_Heap ?mk_Heap ?kc_Heap ?sf_Heap ?nq_Heap ?n_Heap_held_root ?n_Heap_copies ?mo_Heap ?ne_Heap ?ca_Heap ?x_Heap_rmul ?i_mul ?i_rmul ?is_Heap ?a0 ?l0 ?c0 ?k0 ?a1 ?l1 ?c1 ?k1 ?a2 ?l2 ?c2 ?k2 ?a3 ?l3 ?c3 ?k3 ?a4 ?l4 ?c4 ?k4 ?a5 ?l5 ?c5 ?k5 ?a6 ?l6 ?c6 ?k6 ?a7 ?l7 ?c7 ?k7 ?a8 ?l8 ?c8 ?k8 ?a9 ?l9 ?c9 ?k9 ?a10 ?i10 ?l10 ?c10 ?k10 ?t10 ?y10a ?a11 ?r11 ?i11 ?rd11 ?gt11 ?l11 ?c11 ?k11 ?a12 ?gp12 ?tp12 ?rp12 ?l12 ?c12 ?k12 ?a13 ?i13 ?l13 ?c13 ?k13 ?a14 ?i14 ?l14 ?c14 ?k14 ?a15 ?l15 ?c15 ?k15 ?a16 ?l16 ?c16 ?k16 ?a17 ?l17 ?c17 ?k17 ?a18 ?l18 ?c18 ?k18 ?a19 ?l19 ?c19 ?k19 ?a20 ?l20 ?c20 ?k20 ?a21 ?l21 ?c21 ?k21 ?a22 ?l22 ?c22 ?k22 ?a23 ?l23 ?c23 ?k23 ?a24 ?l24 ?c24 ?k24 ?a25 ?l25 ?c25 ?k25 ?a26 ?l26 ?c26 ?k26 ?a27 ?l27 ?c27 ?k27 ?a28 ?l28 ?c28 ?k28 ?a29 ?l29 ?c29 ?k29 ?a30 ?l30 ?c30 ?k30 ?a31 ?l31 ?c31 ?k31 ?a32 ?l32 ?c32 ?k32 ?a33 ?l33 ?c33 ?k33 ?a34 ?l34 ?c34 ?k34 ?a35 ?l35 ?c35 ?k35 ?a36 ?l36 ?c36 ?k36 ?a37 ?l37 ?c37 ?k37 ?a38 ?l38 ?c38 ?k38 ?a39 ?l39 ?c39 ?k39 ?a40 ?l40 ?c40 ?k40 ?a41 ?l41 ?c41 ?k41 ?a42 ?l42 ?c42 ?k42 ?a43 ?l43 ?c43 ?k43 ?a44 ?l44 ?c44 ?k44 ?a45 ?l45 ?c45 ?k45 ?a46 ?l46 ?c46 ?k46 ?a47 ?l47 ?c47 ?k47 ?a48 ?l48 ?c48 ?k48 ?a49 ?l49 ?c49 ?k49 ?a50 ?l50 ?c50 ?k50 ?a51 ?l51 ?c51 ?k51 ?a52 ?l52 ?c52 ?k52 ?a53 ?l53 ?c53 ?k53 ?a54 ?l54 ?c54 ?k54 ?a55 ?l55 ?c55 ?k55 ?z0 ?z1 ?z2 ?z3 ?z4 ?z5 ?z6 ?z7 ?z8 ?z9 ?z10 ?z11 ?z12 ?z13 ?z14 ?z15 ?z16 ?a_GROUP ?a_MOST_DIGITS ?hn ?ht ?aGrainError ?cGrainError ?nGrainError ?tGrainError ?sbGrainError ?aGrainMissing ?cGrainMissing ?nGrainMissing ?tGrainMissing ?sbGrainMissing ?E_BadRoot ?E_BadCount ?E_BadRow ?E_OtherRoot ?E_BadText ?E_NoSheet ?E_NothingLeft ?tabL ?noL ?hdL
    (case aC_Heap => k_is); (case pg_Heap => k_is); (case hd_Heap => k_is); (case po_Heap => k_is); (case sa_Heap => k_is); (case mk_Heap => k_is); (case kc_Heap => k_is); (case sf_Heap => k_is); (case nq_Heap => k_is); (case n_Heap_held_root => k_is); (case n_Heap_copies => k_is); (case mo_Heap => k_is); (case ne_Heap => k_is); (case ca_Heap => k_is); (case x_Heap_rmul => k_is); (case i_mul => k_is); (case i_rmul => k_is); (case is_Heap => k_is); (case a0 => k_is); (case l0 => k_is); (case c0 => k_is); (case k0 => k_is); (case a1 => k_is); (case l1 => k_is); (case c1 => k_is); (case k1 => k_is); (case a2 => k_is); (case l2 => k_is); (case c2 => k_is); (case k2 => k_is); (case a3 => k_is); (case l3 => k_is); (case c3 => k_is); (case k3 => k_is); (case a4 => k_is); (case l4 => k_is); (case c4 => k_is); (case k4 => k_is); (case a5 => k_is); (case l5 => k_is); (case c5 => k_is); (case k5 => k_is); (case a6 => k_is); (case l6 => k_is); (case c6 => k_is); (case k6 => k_is); (case a7 => k_is); (case l7 => k_is); (case c7 => k_is); (case k7 => k_is); (case a8 => k_is); (case l8 => k_is); (case c8 => k_is); (case k8 => k_is); (case a9 => k_is); (case l9 => k_is); (case c9 => k_is); (case k9 => k_is); (case a10 => k_is); (case i10 => k_is); (case l10 => k_is); (case c10 => k_is); (case k10 => k_is); (case t10 => k_is); (case y10a => k_is); (case a11 => k_is); (case r11 => k_is); (case i11 => k_is); (case rd11 => k_is); (case gt11 => k_is); (case l11 => k_is); (case c11 => k_is); (case k11 => k_is); (case a12 => k_is); (case gp12 => k_is); (case tp12 => k_is); (case rp12 => k_is); (case l12 => k_is); (case c12 => k_is); (case k12 => k_is); (case a13 => k_is); (case i13 => k_is); (case l13 => k_is); (case c13 => k_is); (case k13 => k_is); (case a14 => k_is); (case i14 => k_is); (case l14 => k_is); (case c14 => k_is); (case k14 => k_is); (case a15 => k_is); (case l15 => k_is); (case c15 => k_is); (case k15 => k_is); (case a16 => k_is); (case l16 => k_is); (case c16 => k_is); (case k16 => k_is); (case a17 => k_is); (case l17 => k_is); (case c17 => k_is); (case k17 => k_is); (case a18 => k_is); (case l18 => k_is); (case c18 => k_is); (case k18 => k_is); (case a19 => k_is); (case l19 => k_is); (case c19 => k_is); (case k19 => k_is); (case a20 => k_is); (case l20 => k_is); (case c20 => k_is); (case k20 => k_is); (case a21 => k_is); (case l21 => k_is); (case c21 => k_is); (case k21 => k_is); (case a22 => k_is); (case l22 => k_is); (case c22 => k_is); (case k22 => k_is); (case a23 => k_is); (case l23 => k_is); (case c23 => k_is); (case k23 => k_is); (case a24 => k_is); (case l24 => k_is); (case c24 => k_is); (case k24 => k_is); (case a25 => k_is); (case l25 => k_is); (case c25 => k_is); (case k25 => k_is); (case a26 => k_is); (case l26 => k_is); (case c26 => k_is); (case k26 => k_is); (case a27 => k_is); (case l27 => k_is); (case c27 => k_is); (case k27 => k_is); (case a28 => k_is); (case l28 => k_is); (case c28 => k_is); (case k28 => k_is); (case a29 => k_is); (case l29 => k_is); (case c29 => k_is); (case k29 => k_is); (case a30 => k_is); (case l30 => k_is); (case c30 => k_is); (case k30 => k_is); (case a31 => k_is); (case l31 => k_is); (case c31 => k_is); (case k31 => k_is); (case a32 => k_is); (case l32 => k_is); (case c32 => k_is); (case k32 => k_is); (case a33 => k_is); (case l33 => k_is); (case c33 => k_is); (case k33 => k_is); (case a34 => k_is); (case l34 => k_is); (case c34 => k_is); (case k34 => k_is); (case a35 => k_is); (case l35 => k_is); (case c35 => k_is); (case k35 => k_is); (case a36 => k_is); (case l36 => k_is); (case c36 => k_is); (case k36 => k_is); (case a37 => k_is); (case l37 => k_is); (case c37 => k_is); (case k37 => k_is); (case a38 => k_is); (case l38 => k_is); (case c38 => k_is); (case k38 => k_is); (case a39 => k_is); (case l39 => k_is); (case c39 => k_is); (case k39 => k_is); (case a40 => k_is); (case l40 => k_is); (case c40 => k_is); (case k40 => k_is); (case a41 => k_is); (case l41 => k_is); (case c41 => k_is); (case k41 => k_is); (case a42 => k_is); (case l42 => k_is); (case c42 => k_is); (case k42 => k_is); (case a43 => k_is); (case l43 => k_is); (case c43 => k_is); (case k43 => k_is); (case a44 => k_is); (case l44 => k_is); (case c44 => k_is); (case k44 => k_is); (case a45 => k_is); (case l45 => k_is); (case c45 => k_is); (case k45 => k_is); (case a46 => k_is); (case l46 => k_is); (case c46 => k_is); (case k46 => k_is); (case a47 => k_is); (case l47 => k_is); (case c47 => k_is); (case k47 => k_is); (case a48 => k_is); (case l48 => k_is); (case c48 => k_is); (case k48 => k_is); (case a49 => k_is); (case l49 => k_is); (case c49 => k_is); (case k49 => k_is); (case a50 => k_is); (case l50 => k_is); (case c50 => k_is); (case k50 => k_is); (case a51 => k_is); (case l51 => k_is); (case c51 => k_is); (case k51 => k_is); (case a52 => k_is); (case l52 => k_is); (case c52 => k_is); (case k52 => k_is); (case a53 => k_is); (case l53 => k_is); (case c53 => k_is); (case k53 => k_is); (case a54 => k_is); (case l54 => k_is); (case c54 => k_is); (case k54 => k_is); (case a55 => k_is); (case l55 => k_is); (case c55 => k_is); (case k55 => k_is); (case z0 => k_is); (case z1 => k_is); (case z2 => k_is); (case z3 => k_is); (case z4 => k_is); (case z5 => k_is); (case z6 => k_is); (case z7 => k_is); (case z8 => k_is); (case z9 => k_is); (case z10 => k_is); (case z11 => k_is); (case z12 => k_is); (case z13 => k_is); (case z14 => k_is); (case z15 => k_is); (case z16 => k_is); (case a_GROUP => k_is); (case a_MOST_DIGITS => k_is); (case hn => k_is); (case ht => k_is); (case aGrainError => k_is); (case cGrainError => k_is); (case nGrainError => rfl); (case tGrainError => k_is); (case sbGrainError => k_is); (case aGrainMissing => k_is); (case cGrainMissing => k_is); (case nGrainMissing => rfl); (case tGrainMissing => k_is); (case sbGrainMissing => k_is); (case E_BadRoot => refine' Gy.erw2 (P := PySem.Challenge.pw_grainyard_k65_texts_of_heaps) KX G ?op ?nsu (by decide +kernel) (by decide +kernel) (by decide +kernel) ?ht rfl rfl (by decide +kernel) (by decide +kernel) (by decide +kernel) (by decide +kernel) ?aC ?lC ?aI ?lI ?cI ?lc ?lco ?sa ?ga ?gt ?kp ?cl ?su ?hvs ?hfi ?x0 ?x1; (case op => k_is); (case nsu => k_is); (case aC => k_is); (case lC => k_is); (case ht => decide +kernel); (case aI => k_is); (case lI => k_is); (case cI => k_is); (case lc => k_is); (case lco => k_is); (case sa => k_is); (case ga => k_is); (case gt => k_is); (case kp => k_is); (case cl => k_is); (case su => first | k_is | ks_is); (case hvs => rfl); (case hfi => decide +kernel); (case x0 => k_is); (case x1 => k_is)); (case E_BadCount => refine' Gy.erw2 (P := PySem.Challenge.pw_grainyard_k65_texts_of_heaps) KX G ?op ?nsu (by decide +kernel) (by decide +kernel) (by decide +kernel) ?ht rfl rfl (by decide +kernel) (by decide +kernel) (by decide +kernel) (by decide +kernel) ?aC ?lC ?aI ?lI ?cI ?lc ?lco ?sa ?ga ?gt ?kp ?cl ?su ?hvs ?hfi ?x0 ?x1; (case op => k_is); (case nsu => k_is); (case aC => k_is); (case lC => k_is); (case ht => decide +kernel); (case aI => k_is); (case lI => k_is); (case cI => k_is); (case lc => k_is); (case lco => k_is); (case sa => k_is); (case ga => k_is); (case gt => k_is); (case kp => k_is); (case cl => k_is); (case su => first | k_is | ks_is); (case hvs => rfl); (case hfi => decide +kernel); (case x0 => k_is); (case x1 => k_is)); (case E_BadRow => refine' Gy.erw2 (P := PySem.Challenge.pw_grainyard_k65_texts_of_heaps) KX G ?op ?nsu (by decide +kernel) (by decide +kernel) (by decide +kernel) ?ht rfl rfl (by decide +kernel) (by decide +kernel) (by decide +kernel) (by decide +kernel) ?aC ?lC ?aI ?lI ?cI ?lc ?lco ?sa ?ga ?gt ?kp ?cl ?su ?hvs ?hfi ?x0 ?x1; (case op => k_is); (case nsu => k_is); (case aC => k_is); (case lC => k_is); (case ht => decide +kernel); (case aI => k_is); (case lI => k_is); (case cI => k_is); (case lc => k_is); (case lco => k_is); (case sa => k_is); (case ga => k_is); (case gt => k_is); (case kp => k_is); (case cl => k_is); (case su => first | k_is | ks_is); (case hvs => rfl); (case hfi => decide +kernel); (case x0 => k_is); (case x1 => k_is)); (case E_OtherRoot => refine' Gy.erw1 (P := PySem.Challenge.pw_grainyard_k65_texts_of_heaps) KX G ?op ?nsu (by decide +kernel) (by decide +kernel) (by decide +kernel) ?ht rfl rfl (by decide +kernel) (by decide +kernel) (by decide +kernel) (by decide +kernel) ?aC ?lC ?aI ?lI ?cI ?lc ?lco ?sa ?ga ?gt ?kp ?cl ?su ?hvs ?hfi ?x0; (case op => k_is); (case nsu => k_is); (case aC => k_is); (case lC => k_is); (case ht => decide +kernel); (case aI => k_is); (case lI => k_is); (case cI => k_is); (case lc => k_is); (case lco => k_is); (case sa => k_is); (case ga => k_is); (case gt => k_is); (case kp => k_is); (case cl => k_is); (case su => first | k_is | ks_is); (case hvs => rfl); (case hfi => decide +kernel); (case x0 => k_is)); (case E_BadText => refine' Gy.erw2 (P := PySem.Challenge.pw_grainyard_k65_texts_of_heaps) KX G ?op ?nsu (by decide +kernel) (by decide +kernel) (by decide +kernel) ?ht rfl rfl (by decide +kernel) (by decide +kernel) (by decide +kernel) (by decide +kernel) ?aC ?lC ?aI ?lI ?cI ?lc ?lco ?sa ?ga ?gt ?kp ?cl ?su ?hvs ?hfi ?x0 ?x1; (case op => k_is); (case nsu => k_is); (case aC => k_is); (case lC => k_is); (case ht => decide +kernel); (case aI => k_is); (case lI => k_is); (case cI => k_is); (case lc => k_is); (case lco => k_is); (case sa => k_is); (case ga => k_is); (case gt => k_is); (case kp => k_is); (case cl => k_is); (case su => first | k_is | ks_is); (case hvs => rfl); (case hfi => decide +kernel); (case x0 => k_is); (case x1 => k_is)); (case E_NoSheet => refine' Gy.erw2 (P := PySem.Challenge.pw_grainyard_k65_texts_of_heaps) KX G ?op ?nsu (by decide +kernel) (by decide +kernel) (by decide +kernel) ?ht rfl rfl (by decide +kernel) (by decide +kernel) (by decide +kernel) (by decide +kernel) ?aC ?lC ?aI ?lI ?cI ?lc ?lco ?sa ?ga ?gt ?kp ?cl ?su ?hvs ?hfi ?x0 ?x1; (case op => k_is); (case nsu => k_is); (case aC => k_is); (case lC => k_is); (case ht => decide +kernel); (case aI => k_is); (case lI => k_is); (case cI => k_is); (case lc => k_is); (case lco => k_is); (case sa => k_is); (case ga => k_is); (case gt => k_is); (case kp => k_is); (case cl => k_is); (case su => first | k_is | ks_is); (case hvs => rfl); (case hfi => decide +kernel); (case x0 => k_is); (case x1 => k_is)); (case E_NothingLeft => refine' Gy.erw1 (P := PySem.Challenge.pw_grainyard_k65_texts_of_heaps) KX G ?op ?nsu (by decide +kernel) (by decide +kernel) (by decide +kernel) ?ht rfl rfl (by decide +kernel) (by decide +kernel) (by decide +kernel) (by decide +kernel) ?aC ?lC ?aI ?lI ?cI ?lc ?lco ?sa ?ga ?gt ?kp ?cl ?su ?hvs ?hfi ?x0; (case op => k_is); (case nsu => k_is); (case aC => k_is); (case lC => k_is); (case ht => decide +kernel); (case aI => k_is); (case lI => k_is); (case cI => k_is); (case lc => k_is); (case lco => k_is); (case sa => k_is); (case ga => k_is); (case gt => k_is); (case kp => k_is); (case cl => k_is); (case su => first | k_is | ks_is); (case hvs => rfl); (case hfi => decide +kernel); (case x0 => k_is)); (case tabL => exact hT _ List.mem_cons_self); (case noL => kernel_rfl); (case hdL => kernel_rfl)

