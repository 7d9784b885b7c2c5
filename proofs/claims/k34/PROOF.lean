import PyProof.Rows.All
import Wide.All
import OpenK.AllK
import Wide.FinOn
import HandS.ForMost
import HandS.Wide
import HandS.WideBits
import HandS.IsInst
import HandS.Defaults
import HandS.Star
import HandS.Evl
import HandS.NoneIn
import HandS.Style
import HandS.SlotsOwn
import HandS.MakeKwOnly
import HandS.ForExc
import HandS.ExcInit
import HandS.MapJoin
import HandS.NestedK
import HandS.Lambda
import HandS.EndTab
import HandS.TryMany
import HandS.HotCalls
import HandS.ExcField
import HandS.ClsMeth
import KE.KExcSuper
import KE.KExcIs
import KE.KOpsOwn
import KE.KNestM
import HandS.Property
import KE.DataEq
import HandS.Deep
import HandS.TupAny
import HandS.Zip
import HandS.Dict
import HandS.More
import HandS.FStr
import HandS.Text
import HandS.RaiseMore
import HandS.DictComp
import HandS.DictTup
import HandS.Conv
import HandS.Comp
import KE.KDictKeyed
import KE.KeyNested
import KE.SortData
import KE.KDictItemsList
import KE.GoesMore
import HandS.Walk
import HandS.StrMore
import HandS.GenList
import HandS.RepeatKit
import KE.DatumOrd
import HandS.GenOver
import PySem.Challenge.RW_grainyard_k34_heaps_with_a_table
set_option Elab.async false
set_option linter.all false
set_option maxRecDepth 100000
set_option maxHeartbeats 4000000
namespace Gy
open PySem PySem.Spec PyProof.Rows L2
/-! ### an error's fields, wherever its object is pinned -/
section
variable {X : Cx} {a : Addr} {oe : Obj} {cls : Value} {d : Option Addr} {e : Expr} {te : TE} {pos : Pos} {n : Str}
/-- a.f of the error at a whose class is cls and whose dict stands at d -/
def tXfA (K : PySem.W.Frag) (a : Addr) (cls : Value) (d : Option Addr) (f : Str) (te : TE) : TE := fun σ H Q => te σ H fun x H1 => x = .ref a ∧
  ∃ (C dd : Addr) (fs : List (Str × V)) (v : V), cls = .ref C ∧ d = some dd ∧ XfC K C ∧ PySem.W.findIn K (.ref C) f = some none ∧ H1 dd = some (.xd fs) ∧ fs.lookup f = some v ∧ Q v H1
theorem pe_xfG (hp : (a, oe) ∈ X.pn) (hz : Zc cls d oe) (hf : ∃ vs, oe.data = .fields vs) (he : PE X e te) (hb : attributeBase e n X.env (eval e X.env) = eval e X.env := by rfl) : PE X (.Attribute e n pos) (tXfA X.K a cls d n te) := by
  constructor
  intro pins s σ H Q I h
  apply attr_of hb
  refine thn (he.run pins s σ H _ I h) ?_
  rintro u s1 ⟨x, H1, I1, rx, rfl, C, dd, fs, v, rfl, rfl, XC, no, hd, hl, q⟩
  cases (show u = Value.ref a from rx)
  have at_a := (I1.pin (a, oe) (List.mem_append_left _ hp)).1
  obtain ⟨ws, dat⟩ := hf
  obtain ⟨mA, nsA, rel⟩ := (show ObjOk X.prog X.w H1 s1.heap dd (.xd fs) from I1.hok dd _ hd)
  obtain ⟨od, at_d, look⟩ := lookIn_ns nsA
  have rn := rel n
  rw [hl] at rn
  obtain ⟨u', hu', ru'⟩ := RelO.some_of rn
  have inst : PySem.W.InstAt s1.heap a oe C (some od) := by
    refine ⟨at_a, hz.1, ?_, ?_⟩
    · unfold PySem.W.notCls
      rw [dat] <;> rfl
    · rw [hz.2]
      exact at_d
  have found : PySem.W.lookIn n od = some (some u') := by rw [look, hu']
  exact HandSPX.exc_get I1.kIn inst XC.ga XC.gg XC.exC (PySem.W.findObj_own XC.hdC no rfl found) (handed_of ru') ⟨v, H1, I1.tok _, ru', q⟩
end
/-! ### try: .. except x as n: .., several clauses, one of which takes -/
/-- behind a suite its name is gone -/
def Dn (D : Ends) (i : Nat) : Ends := { nx := fun σ H => D.nx (σ.set i none) H, rt := D.rt, bk := fun σ H => D.bk (σ.set i none) H, ct := fun σ H => D.ct (σ.set i none) H }
def wAll (K : PySem.W.Frag) (D : Ends) (i : Nat) : List (Value × (Addr → Value → Option Addr → TS)) → WX
  | [] => fun _ _ _ _ => False
  | (c, ts) :: r => fun cls d σ H => ∃ b, PySem.W.exmOne K cls c = some b ∧ (b = true → ∀ a, H a = none → i < σ.length → ts a cls d (Dn D i) (σ.set i (some (.ref a))) H) ∧ (b = false → wAll K D i r cls d σ H)
inductive AsOk (X : Cx) (n : Str) : List ExceptHandler → List (Value × (Addr → Value → Option Addr → TS)) → Prop
  | nil : AsOk X n [] []
  | cons {x : Str} {c : Value} {ts : Addr → Value → Option Addr → TS} {b0 : Stmt} {su : List Stmt} {np p' : Pos} {hds : List ExceptHandler} {l : List (Value × (Addr → Value → Option Addr → TS))} (nm : Names X x c)
      (ok : ∀ (a : Addr) (oe : Obj) (cls : Value) (d : Option Addr) (pn : List (Addr × Obj)), Zc cls d oe → (∃ vs, oe.data = .fields vs) → PSs (X.suite a ((a, oe) :: pn)) (b0 :: su) (ts a cls d)) (r : AsOk X n hds l) :
      AsOk X n (.ExceptHandler (some (.Name x np)) (some n) (b0 :: su) p' :: hds) ((c, ts) :: l)
theorem not_frame {B h : Heap} {l : List Env} {a : Addr} {o : Obj} {vs : Array Value} (F : h.FunFrames B l) (at_a : h.get? a = some o) (dat : o.data = .fields vs) : a ∉ frs l := by
  intro m
  obtain ⟨_, o2, at2, nf⟩ := F.mem m
  cases at_a.symm.trans at2
  exact nf _ dat
section
variable {X : Cx} {n : Str} {i : Nat} {body : List Stmt} {h0 : ExceptHandler} {hds : List ExceptHandler} {l : List (Value × (Addr → Value → Option Addr → TS))} {pos : Pos} {tb : WX → TS}
theorem ps_tryAs (hs : X.stack = X.env :: X.outer) (hf : X.env.frame = some X.env.locals) (hN : X.N.Nodup) (hi : X.N[i]? = some n) (hln : X.env.kindOf n = some .local)
    (hb : ∀ (W : WX) (pn : List (Addr × Obj)) (xe : Value → Shared → Prop), Takes (X.tr pn xe) W → PassesOwn (model X.prog X.w) X.A X.env xe → PSs (X.tr pn xe) body (tb W))
    (hh : AsOk X n (h0 :: hds) l) : PS X (.Try body (h0 :: hds) [] [] pos) (fun D σ H => tb (wAll X.K D i l) D σ H) := by
  constructor
  intro pins s σ H D I h
  have ok := I.ok
  have frs_ : X.A.frames = some (X.env :: X.outer) := hs ▸ ok.frames
  have run := hb (wAll X.K D i l) (X.pn ++ pins) (fun e t1 => wpAny (model X.prog X.w) X.A (noteFrame e X.env) (fun _ t2 => wpAny (model X.prog X.w) X.A (setFlight e none) (fun _ t3 =>
    wpAny (model X.prog X.w) X.A (handleBy e X.env (h0 :: hds)) (SP X pins D) X.xe t3) X.xe t2) X.xe t1) ?air PassesOwn.looking
  case air =>
    rintro u t ⟨a, B, t0, pins0, σ1, H1, cls, d, rfl, I0, gr, up, sky, na, hos, bare, wish⟩
    have I1 : Inv X pins σ1 H1 t0 := I0.ofTry ok
    rw [show (X.tr (X.pn ++ pins) _).stack = X.env :: X.outer from hs] at sky
    show wpAny (model X.prog X.w) X.A (noteFrame (.ref a) X.env) _ _ _
    apply Sky.land Zc.steady frs_ hf sky
    intro g fly upg
    have Ig : Inv X pins σ1 H1 { t with heap := g } := I1.landed gr fly.1 (up.trans upg) hos bare
    obtain ⟨og, vg, at_g, zg, dg⟩ := fly.there
    have away := not_frame fly.2.2.1 at_g dg
    have awL : a ≠ X.env.locals := by
      intro z
      exact away (List.mem_filterMap.mpr ⟨X.env, List.mem_cons_self, by rw [hf, z]⟩)
    have awF : a ∉ X.fs := by
      intro m
      obtain ⟨en, men, q⟩ := List.mem_filterMap.mp m
      exact away (List.mem_filterMap.mpr ⟨en, List.mem_cons_of_mem _ men, q⟩)
    have Sg := Ig.suite at_g dg na awL awF
    have types : PySem.W.Looks (model X.prog X.w) g (typeOf (.ref a)) cls := by
      intro A' Q' E' t' k q
      apply wpAny_typeOf_ref (k _ _ at_g)
      rw [zg.1]
      exact q
    clear h
    have inside : i < σ1.length := by
      rw [I1.len]
      exact (List.getElem?_eq_some_iff.mp hi).1
    have clauses : ∀ {hs' : List ExceptHandler} {l' : List (Value × (Addr → Value → Option Addr → TS))}, AsOk X n hs' l' → wAll X.K D i l' cls d σ1 H1 → wpAny (model X.prog X.w) X.A (handleBy (.ref a) X.env hs') (SP X pins D) X.xe { t with heap := g } := by
      intro hs' l' A
      induction A with
      | nil => exact fun z => z.elim
      | @cons x c ts b0 su np p' hs2 l2 nm okS rest ih =>
        rintro ⟨b, mt, yes, no⟩
        refine wpAny_handleBy_cons (codeAny_handlers_test ?_) (by intro z; cases z)
        have meets := PySem.W.exm_one (M := model X.prog X.w) Ig.kIn types mt
        have name_ : ∀ {Q' : Value → Shared → Prop} {E' : Value → Shared → Prop}, Q' c { t with heap := g } → wpAny (model X.prog X.w) (X.A.mark (some (.ref a))) (eval (.Name x np) X.env) Q' E' { t with heap := g } := by
          intro Q' E' q
          rcases nm with ⟨gl, ndb, hm | ⟨hm, hv, nn⟩⟩
          · exact ld_glob (X := X.suite a ((a, og) :: (X.pn ++ pins))) Sg gl hm q ndb
          · exact ld_blt (X := X.suite a ((a, og) :: (X.pn ++ pins))) Sg gl hm hv q nn ndb
        apply name_
        apply meets.here
        cases b with
        | false => exact ih (no rfl)
        | true =>
          apply codeAny_handlers_suite_as
          apply HandSPX.lands_againZ fly
          intro k flk upk
          have Ik : Inv X pins σ1 H1 { t with heap := k } := I1.landed gr flk.1 ((up.trans upg).trans upk) hos bare
          obtain ⟨ok_, vk, at_k, zk, dk⟩ := flk.there
          have Sk := Ik.suite at_k dk na awL awF
          apply store_ok (X := X.suite a ((a, ok_) :: (X.pn ++ pins))) (v := .ref a) Sk hN hi (.inl hln) rfl _ (.inr hln)
          intro t5 S5
          have suite := (okS a ok_ cls d (X.pn ++ pins) zk ⟨_, dk⟩).run [] t5 _ H1 _ S5 (yes rfl a na inside)
          refine wpAny_mono suite (fun f t6 out => ?_) (fun _ _ z => z.elim)
          have away_ : ∀ {σ6 : L2.St} {H6 : Hp} {Q' : Shared → Prop}, Inv (X.suite a ((a, ok_) :: (X.pn ++ pins))) [] σ6 H6 t6 → (∀ t7, Inv X pins (σ6.set i none) H6 t7 → Q' t7) →
              wpAny (model X.prog X.w) X.A (do bindName X.env n .none; unbindBehindTheSuite X.env n p') (fun _ t7 => Q' t7) X.xe t6 := by
            intro σ6 H6 Q' S6 q
            exact gone_ok (S6.unsuite ok) hN hi hln q
          cases f with
          | next => obtain ⟨_, _, S6, q6⟩ := out; exact away_ S6 fun _ I7 => ⟨_, _, I7, q6⟩
          | brk => obtain ⟨_, _, S6, q6⟩ := out; exact away_ S6 fun _ I7 => ⟨_, _, I7, q6⟩
          | cont => obtain ⟨_, _, S6, q6⟩ := out; exact away_ S6 fun _ I7 => ⟨_, _, I7, q6⟩
          | ret u => obtain ⟨_, _, _, S6, r6, q6⟩ := out; exact away_ S6 fun _ I7 => ⟨_, _, _, I7, r6, q6⟩
    exact clauses hh wish
  apply wpAny_Try_except
  refine wpAny_mono (run.run [] s σ H D (I.toTry _) h) (fun f t1 out => ?_) (fun _ _ z => z)
  cases f with
  | next => obtain ⟨_, _, I1, q⟩ := out; exact wpAny_execs_nil ⟨_, _, I1.ofTry ok, q⟩
  | brk => obtain ⟨_, _, I1, q⟩ := out; exact ⟨_, _, I1.ofTry ok, q⟩
  | cont => obtain ⟨_, _, I1, q⟩ := out; exact ⟨_, _, I1.ofTry ok, q⟩
  | ret u => obtain ⟨_, _, _, I1, r, q⟩ := out; exact ⟨_, _, _, I1.ofTry ok, r, q⟩
end
/-! ### a def that is called while an error is handled: it raises nothing -/
structure FnP (P : Program) (w : World) (K : PySem.W.Frag) (mg : Str → Option Value) (base : Heap) (k : Nat) (f : Addr) (fd : FuncData) (ps : List Str) (sp : Addr → Value → Option Addr → Sp) : Prop where
  len : ∀ a cls d vs H Q E, sp a cls d vs H Q E → vs.length = ps.length
  run : ∀ (A : Around) (outer : List Env) (s : Shared) (H : Hp) (args : Args) (us : List Value) (vs : List V) (Q : VK) (E : XK) (p : Addr × Obj) (cls : Value) (d : Option Addr), L2H.RoomH k A → L2H.PinOk outer H s p → Zc cls d p.2 → (∃ vs, p.2.data = .fields vs) →
    Env0 P w K mg base A outer s H → BindsTo s fd args (ps.zip us) → Vals vs us → sp p.1 cls d vs H Q E → codeAny (model P w) A (.call (.ref f) args) (CR CX0 outer P w H s Q E) s
theorem fn_ofP {P : Program} {w : World} {K : PySem.W.Frag} {mg : Str → Option Value} {base : Heap} {k : Nat} {f : Addr} {x qual : Str} {st : Stmt} {fd : FuncData} {N ps : List Str} {sp : Addr → Value → Option Addr → Sp} (F : Fun K x qual st f fd) (S : FnScope N ps (defScope st))
    (len : ∀ a cls d vs H Q E, sp a cls d vs H Q E → vs.length = ps.length)
    (body : ∀ (cdv : Value) (A : Around) (outer : List Env) (s : Shared) (H : Hp) (vs : List V) (Q : VK) (E : XK) (p : Addr × Obj) (cls : Value) (d : Option Addr), Zc cls d p.2 → (∃ vs, p.2.data = .fields vs) → L2H.RoomH k (A.deeper (envOfC qual (defScope st) s.heap.objs.size f cdv)) → sp p.1 cls d vs H Q E →
      ∃ t, PSs (L2H.cxH CX0 P w K mg base N qual (defScope st) f cdv A outer s H E p) (defBody st) t ∧ t { nx := fun _ H' => Q .non H', rt := Q } (L2.start N vs) H) : FnP P w K mg base (k + 1) f fd ps sp := by
  obtain ⟨oc, od, kV, doc, pm, an, cdv, ct, osl, rfl, lk, hcd⟩ := F.ex
  constructor
  · exact len
  intro A outer s H args us vs Q E p cls d room pin zc dat e0 bd rv hsp
  have inK : K.In s.heap := e0.mod.kin.keeps fun b o z => (e0.bs b o z).1
  have free_ : s.heap.NoLimit := e0.mod.nolimit.keeps fun b o z => (e0.bs b o z).1
  have kinds : ∀ y ∈ ps.zip us, (defScope st).names.lookup y.1 = some .local ∨ ((defScope st).names.lookup y.1 = some .cell ∧ ((cellsFrom (s.heap.objs.size + 1) (defScope st).names []).lookup y.1).isSome = true) := by
    rintro ⟨y, v⟩ hy
    rcases S.par y (List.of_mem_zip hy).1 with z | z
    · exact .inl z
    · exact .inr ⟨z, PySem.W.cellsFrom_some _ _ _ (.inl z)⟩
  apply codeAny_call_function room.depth (inK _ _ lk) rfl S.co S.gen rfl (PySem.W.codeRec_of inK hcd)
  apply bd
  apply wpAny_newFunctionEnv_cells S.kind kinds
  rintro env rfl s1 inside
  refine ⟨free_.keeps inside.toInCall.keep, codeAny_func ?_⟩
  obtain ⟨t, term, reading⟩ := body cdv A outer s H vs Q E p cls d zc dat (room.deeper _) hsp
  have I := L2H.inv_startH (CX := CX0) (E := E) S pin e0 (len _ _ _ _ _ _ _ hsp) rv inside
  refine wpAny_mono (term.run [] s1 (L2.start N vs) H _ I reading) (fun fl s' out => ?_) fun _ _ z => z
  cases fl with
  | ret u => obtain ⟨v, _, H', J, r, q⟩ := out; exact ⟨v, H', J.os, J.bare, J.base, J.hok, r, q⟩
  | next => obtain ⟨_, H', J, q⟩ := out; exact ⟨.non, H', J.os, J.bare, J.base, J.hok, rfl, q⟩
  | brk => obtain ⟨_, _, _, q⟩ := out; exact q.elim
  | cont => obtain ⟨_, _, _, q⟩ := out; exact q.elim
section
variable {X : Cx} {k : Nat} {f a : Addr} {oe : Obj} {cls : Value} {d : Option Addr} {fd : FuncData} {ps : List Str} {sp : Addr → Value → Option Addr → Sp} {x : Str} {q pos : Pos} {e : Expr} {es : List Expr} {t : TA}
theorem pe_callP (hp : (a, oe) ∈ X.pn) (hz : Zc cls d oe) (hf : ∃ vs, oe.data = .fields vs) (F : FnP X.prog X.w X.K X.mg X.base k f fd ps sp) (hr : L2H.RoomH k X.A) (hg : Gl X x) (hm : X.mg x = some (.ref f)) (hk : PySem.W.keepIn X.K (.ref f) = true) (hb : Binds X.K fd ps [])
    (ha : PA X (e :: es) t) (hdb : (x == ("__debug__" : Str)) = false := by decide) (he : starEach (e :: es) X.env = (false, eval e X.env) :: starEach es X.env := by rfl) (hpl : (backTo pos (starEach es X.env)).any (·.1) = false := by rfl) :
    PE X (.Call (.Name x q) (e :: es) [] pos) (fun σ H Q => t σ H fun vs H1 => sp a cls d vs H1 Q E0) := by
  constructor
  intro pins s σ H Q I h
  apply wpAny_Call_Name_kw
  refine ld_glob I hg hm ?_ hdb
  refine PySem.W.callWith_K (h₀ := X.base) I.ok.mod.kin hk (thn (ha.run pos pins s σ H _ I h) ?_) he hpl
  rintro us s1 ⟨vs, H1, I1, r1, q1⟩
  refine ⟨I1.kIn, ?_⟩
  have ln : (us ++ ([] : List Value)).length = ps.length := by
    rw [List.append_nil, ← r1.length]
    exact F.len _ _ _ _ _ _ _ q1
  have bd := hb s1 us I1.kIn ln
  rw [List.append_nil] at bd
  have P1 := I1.pin (a, oe) (List.mem_append_left _ hp)
  have pin : L2H.PinOk X.stack H1 s1 (a, oe) := by
    refine ⟨P1.1, P1.2.1, fun m => ?_, P1.2.2.2.2⟩
    rcases List.mem_cons.mp (I1.stkSub a m) with z | z
    · exact P1.2.2.1 z
    · exact P1.2.2.2.1 z
  refine wpAny_call (codeAny_mono (F.run X.A X.stack s1 H1 ⟨us, []⟩ us vs Q E0 (a, oe) cls d hr pin hz hf I1.env0 bd r1 q1) fun r s' out => ?_)
  cases r with
  | error z => exact (show False from out).elim
  | ok fl =>
    cases fl with
    | ret u => exact I1.after out
    | next => exact False.elim out
    | brk => exact False.elim out
    | cont => exact False.elim out
end
open NdefX
/-! ### own error classes over a built-in one -/
/-- the built-in base B, its __new__, its __init__, its mro -/
structure ErB (B newId initId : String) (bmB : List Value) : Prop where
  fb : ExcBaseFacts B newId initId bmB
  kx : PySem.W.KxsFacts B initId
  sf : StoreFacts B bmB "object.__setattr__" "object"
theorem erb_VE : ErB "ValueError" "ValueError.__new__" "ValueError.__init__" [.type "ValueError", .type "Exception", .type "BaseException", .type "object"] := ⟨PySem.F.excBase_ValueError, PySem.W.kxs_ValueError, PySem.F.store_ValueError⟩
theorem erb_LE : ErB "LookupError" "LookupError.__new__" "LookupError.__init__" [.type "LookupError", .type "Exception", .type "BaseException", .type "object"] := ⟨PySem.F.excBase_LookupError, PySem.W.kxs_LookupError, PySem.F.store_LookupError⟩
theorem erb_IE : ErB "IndexError" "IndexError.__new__" "IndexError.__init__" [.type "IndexError", .type "LookupError", .type "Exception", .type "BaseException", .type "object"] := ⟨PySem.F.excBase_IndexError, PySem.W.kxs_IndexError, PySem.F.store_IndexError⟩
/-- what stands written of an own error class at C -/
structure ErC (K : PySem.W.Frag) (C : Addr) (newId : String) (bmB : List Value) : Prop where
  cls : ∃ nm q N bs bm sn sub ab col dd k0 k1 k2 k3 k5, K.lookup C = some (excClassObj nm q C N bs bm true sn sub ab col dd k0 k1 k2 k3 k5 newId) ∧ PySem.W.excTail bmB bm = true
  ov : PySem.W.excOver K C bmB = true
  sa : PySem.W.findIn K (.ref C) "__setattr__" = some (some (.builtin "object.__setattr__"))
  ga : PySem.W.findIn K (.ref C) "__getattribute__" = some (some (.builtin "BaseException.__getattribute__"))
  gt : PySem.W.findIn K (.ref C) "__getattr__" = some none
  ex : PySem.W.subIn K (.ref C) (.type "BaseException") = some true
  ty : PySem.W.typeIn K (.ref C) = some (.type "type")
  kp : PySem.W.keepIn K (.ref C) = true
  cl : PySem.W.findIn K (.ref C) "__class__" = some (some (.builtin "object.__class__"))
  ob : PySem.W.mroIn K C (.type "object") = some true
section
variable {pr : Program} {wo : World} {A : Around} {Ex : Value → Shared → Prop} {hh : Heap} {gg : Array GenState} {dr : Drawn} {tt : Nat} {oo : OsState}
variable {nm qn : Str} {C N : Addr} {bs bm bmB : List Value} {hdct : Bool} {sn : List Str} {sub : List Value} {ab : Bool} {col : Option Bool} {dd : Option Addr} {k0 k1 k2 k3 k5 : Option Value} {B newId initId : String}
theorem mw_call (FB : ExcBaseFacts B newId initId bmB) {u e t0 : Addr} {rest : List Value} {Qv : Value → Shared → Prop}
    (hC : hh.get? C = some (excClassObj nm qn C N bs bm hdct sn sub ab col dd k0 k1 k2 k3 k5 newId)) (he : hh.get? e = some (PySem.HandSPX.excO C t0)) (hu : hh.get? u = some (PySem.W.kxs_mw initId e)) (hrest : rest.length ≤ sizeLine)
    (hq : ∀ h' t1, (∀ b o, b ≠ e → hh.get? b = some o → h'.get? b = some o) → h'.get? e = some (PySem.HandSPX.excO C t1) → Qv .none ⟨h', gg, dr, tt, oo⟩) :
    wpAny (model pr wo) A (call (.ref u) rest) Qv Ex ⟨hh, gg, dr, tt, oo⟩ := by
  refine wpAny_call (codeAny_of_tree ?_)
  show wpAny _ A.in1 (callAny (.ref u) ⟨rest, []⟩) _ _ _
  simp only [callAny]
  refine wpAny_bind (wpAny_load hu ?_)
  refine PySem.W.KFB.if_so (show ((Value.type "method-wrapper" == .type "method") || (Value.type "method-wrapper" == .type "builtin_function_or_method") || (Value.type "method-wrapper" == .type "method-wrapper")) = true by decide) ?_
  refine wpAny_bind (PySem.W.check_bound_init FB.toExcCallFacts hC he rfl ?_)
  refine wpAny_bind (wpAny_pure (wpAny_pure ⟨plainId_quiet FB.init.plain _, codeAny_builtin FB.initEntry ?_⟩))
  refine PySem.W.exc_init_tree (cls := .ref C) (t0 := t0) (dv := none) (c2 := .none) (c3 := .none) (b4 := .bool false) he hrest fun h' k e' _ => hq h' _ k e'
end
section
variable {X : Cx} {pins : List (Addr × Obj)} {σ : L2.St} {H : Hp} {s : Shared} {B newId initId : String} {bmB : List Value}
/-! ### self.f = y -/
theorem taker0 {K : PySem.W.Frag} {C : Addr} {f : Str} (h : PySem.W.findIn K (.ref C) f = some none) : PySem.W.takerIn K C f = some none := by
  unfold PySem.W.takerIn
  rw [h]
  rfl
theorem gst_new {a C : Addr} {f : Str} {y : V} {u : Value} {Qu : Unit → Shared → Prop} {Ex : Value → Shared → Prop} {A : Around} (E : ErB B newId initId bmB) (T : ErC X.K C newId bmB) (I : Inv X pins σ H s) (e : H a = some (exo a C none)) (hno : PySem.W.findIn X.K (.ref C) f = some none) (ry : RelV y u)
    (h : ∀ dx s', H dx = none → dx ≠ a → Inv X pins σ (upd (upd H dx (exd dx [(f, y)])) a (exo a C (some dx))) s' → Qu () s') : wpAny (model X.prog X.w) A (setAttr (.ref a) f u) Qu Ex s := by
  obtain ⟨nm, q, N, bs, bm, sn, sub, ab, col, dd, k0, k1, k2, k3, k5, hC, hbm⟩ := T.cls
  have hcl : PySem.W.clsIn X.K C = some { name := nm, bases := bs, mro := .ref C :: bm, ns := N, qualname := q, hasDict := true, slotNames := sn, subclasses := sub, abstract := ab, collection := col, hasDel := false } := by unfold PySem.W.clsIn; rw [hC] <;> rfl
  obtain ⟨t1, ho⟩ := exo_at I.hok e
  obtain ⟨hp, g, d, t, os⟩ := s
  have IA : PySem.W.InstAt hp a (PySem.HandSPX.excO C t1) C none := ⟨ho, rfl, rfl, trivial⟩
  refine PySem.W.set_plain I.kIn IA T.sa ?_
  refine PySem.W.osa_openX E.sf (s := ⟨hp, g, d, _, os⟩) I.kIn IA T.ov (taker0 hno) fun b => ?_
  have hcls : PySem.W.Looks (model X.prog X.w) hp (classData C) _ := PySem.W.looks_clsIn I.kIn hcl
  have hxs : a ≠ hp.objs.size := Nat.ne_of_lt (Heap.lt_size ho)
  show wpAny _ _ (Builtin.ObjectAttr.storeInOwnDict (.ref a) (.ref C) (.str f _) f u b) _ _ _
  unfold Builtin.ObjectAttr.storeInOwnDict Builtin.ObjectAttr.ownDictForStores
  repeat (first | with_reducible refine PySem.HandSPX.store_in_new ?_ ?_ | with_reducible refine wpAny_loadPart_at ho ?_ | with_reducible refine hcls.at ?_ | wp_step)
  · exact ⟨_, #[], _, (Heap.get?_update_ne _ _ _ _ hxs.symm).trans (Heap.get?_push_at rfl rfl), rfl, fun e he => absurd he (by simp), fun _ => rfl⟩
  · intro h' tk' hn' hs
    have hx1 : (hp.push { cls := .type "dict", data := .dict #[] }).get? a = some (PySem.HandSPX.excO C t1) := Heap.get?_push_of_some _ ho
    have k : ∀ b o, b ≠ a → hp.get? b = some o → h'.get? b = some o := fun b o hb ho' => (hs.2 b (Nat.ne_of_lt (Heap.lt_size ho'))).trans ((Heap.get?_update_ne _ _ _ _ hb).trans (Heap.get?_push_of_some _ ho'))
    have hx := (hs.2 a hxs).trans (Heap.get?_update_self _ hx1 rfl)
    have dn := Nat.le_refl hp.objs.size
    have hnd : H hp.objs.size = none := I.hok.fresh dn
    have nd : ∀ {b : Addr} {o : Obj}, hp.get? b = some o → b ≠ hp.objs.size := fun q => Nat.ne_of_lt (Heap.lt_size q)
    have na : ∀ {b : Addr}, H b = none → b ≠ a := fun {b} n z => by
      rw [z, e] at n
      cases n
    have U1 : Un X.fs [] H (upd (upd H hp.objs.size (exd hp.objs.size [(f, y)])) a (exo a C (some hp.objs.size))) hp h' := {
      keep := fun b o q n _ _ => k b o (na n) q
      slot := fun b o q n _ _ => ⟨o.slots, k b o (na n) q⟩
      free := fun b o q n _ => (upd_ne (na n)).trans ((upd_ne (nd q)).trans n)
      there := fun b o q _ => by
        by_cases hb : b = a
        · exact ⟨_, hb ▸ hx⟩
        · exact ⟨o, k b o hb q⟩
      tups := fun b xs q => (upd_ne (at_ne e q exo_tup)).trans ((upd_ne (ne_of_none q hnd)).trans q)
      frzs := fun b o v q => (upd_ne (at_ne e q exo_frz)).trans ((upd_ne (ne_of_none q hnd)).trans q)
      tbls := fun b ps q => ⟨#[], by rw [upd_ne (at_ne e q exo_tbl), upd_ne (ne_of_none q hnd), q]; simp⟩ }
    refine h hp.objs.size _ hnd hxs.symm (I.un (t' := tk') U1 fun b o q => ?_)
    by_cases hb : b = a
    · subst hb
      rw [upd_same] at q
      cases q
      exact exo_ok hx
    · rw [upd_ne hb] at q
      by_cases hd : b = hp.objs.size
      · subst hd
        rw [upd_same] at q
        cases q
        exact exd_ok hn' (relO_put (fs := []) ry fun g => True.intro)
      · rw [upd_ne hd] at q
        refine (I.hok b o q).stay (fun c v hc z => k c v ?_ z) (fun c hc => (upd_ne (at_ne e hc exo_own)).trans ((upd_ne (ne_of_none hc hnd)).trans hc)) fun c xs hc => (upd_ne (at_ne e hc exo_tup)).trans ((upd_ne (ne_of_none hc hnd)).trans hc)
        rcases hc with hc | hc
        · rw [hc]
          exact hb
        · exact at_ne e hc exo_own
theorem gst_old {a C dx : Addr} {f : Str} {y : V} {u : Value} {fs : List (Str × V)} {Qu : Unit → Shared → Prop} {Ex : Value → Shared → Prop} {A : Around} (E : ErB B newId initId bmB) (T : ErC X.K C newId bmB) (I : Inv X pins σ H s) (e : H a = some (exo a C (some dx))) (ed : H dx = some (exd dx fs)) (hl : fs.length ≤ 900)
    (hno : PySem.W.findIn X.K (.ref C) f = some none) (ry : RelV y u) (h : ∀ s', Inv X pins σ (upd H dx (exd dx ((f, y) :: fs))) s' → Qu () s') : wpAny (model X.prog X.w) A (setAttr (.ref a) f u) Qu Ex s := by
  obtain ⟨nm, q, N, bs, bm, sn, sub, ab, col, dd, k0, k1, k2, k3, k5, hC, hbm⟩ := T.cls
  have hcl : PySem.W.clsIn X.K C = some { name := nm, bases := bs, mro := .ref C :: bm, ns := N, qualname := q, hasDict := true, slotNames := sn, subclasses := sub, abstract := ab, collection := col, hasDel := false } := by unfold PySem.W.clsIn; rw [hC] <;> rfl
  obtain ⟨t1, ho⟩ := exo_at I.hok e
  obtain ⟨mA, hns, rel⟩ := exd_at I.hok ed
  have hw := within_of rel
  obtain ⟨hp, g, d, t, os⟩ := s
  obtain ⟨oD, _, _, hoD, _, _⟩ := hns.count hw
  have IA : PySem.W.InstAt hp a { cls := .ref C, dict := some dx, data := .fields #[.ref t1, .none, .none, .none, .bool false, .none] } C (some oD) := ⟨ho, rfl, rfl, hoD⟩
  refine PySem.W.set_plain I.kIn IA T.sa ?_
  refine PySem.W.osa_openX E.sf (s := ⟨hp, g, d, _, os⟩) I.kIn IA T.ov (taker0 hno) fun b => ?_
  have hcls : PySem.W.Looks (model X.prog X.w) hp (classData C) _ := PySem.W.looks_clsIn I.kIn hcl
  show wpAny _ _ (Builtin.ObjectAttr.storeInOwnDict (.ref a) (.ref C) (.str f _) f u b) _ _ _
  unfold Builtin.ObjectAttr.storeInOwnDict Builtin.ObjectAttr.ownDictForStores
  repeat (first | with_reducible refine PySem.OEX.store_in_old hns hw (by rw [List.length_map]; omega) ?_ | with_reducible refine wpAny_loadPart_at ho ?_ | with_reducible refine hcls.at ?_ | wp_step)
  intro h' tk' hn hs
  have k : ∀ b o, b ≠ dx → hp.get? b = some o → h'.get? b = some o := fun b o hb ho' => (hs.2 b hb).trans ho'
  have hd : ∃ o, h'.get? dx = some o := by
    obtain ⟨o, _, _, e', _⟩ := hn
    exact ⟨o, e'⟩
  exact h _ (I.write (t' := tk') (x := dx) (e := dx) (o := exd dx ((f, y) :: fs)) (by rw [ed]; exact True.intro) (.inl rfl) k hd (exd_ok hn (relO_put ry rel)))
def tGst (K : PySem.W.Frag) (newId : String) (bmB : List Value) (f : Str) (to te : TE) : TS := fun D σ H => te σ H fun y H1 => to σ H1 fun x H2 => ∃ a C : Addr, x = .ref a ∧ ErC K C newId bmB ∧ PySem.W.findIn K (.ref C) f = some none ∧
  ((H2 a = some (exo a C none) ∧ ∀ dx, H2 dx = none → dx ≠ a → D.nx σ (upd (upd H2 dx (exd dx [(f, y)])) a (exo a C (some dx)))) ∨
    ∃ (dx : Addr) (fs : List (Str × V)), H2 a = some (exo a C (some dx)) ∧ H2 dx = some (exd dx fs) ∧ fs.length ≤ 900 ∧ D.nx σ (upd H2 dx (exd dx ((f, y) :: fs))))
theorem ps_gst {o e : Expr} {to te : TE} {f : Str} {p' pos : Pos} (E : ErB B newId initId bmB) (ho : PE X o to) (he : PE X e te) (hs : swapsWith e (some (.Attribute o f p')) pos.line X.env = pure false := by rfl) : PS X (.Assign [.Attribute o f p'] e pos) (tGst X.K newId bmB f to te) := by
  refine ⟨fun pins s σ H D I h => ?_⟩
  refine plainObj_wpAny_Assign_Attribute (thn (he.run pins s σ H _ I h) fun v s1 ⟨y, H1, I1, r1, q1⟩ => thn (ho.run pins s1 σ H1 _ I1 q1) fun u s2 ⟨x, H2, I2, r2, a, C, ex, T, hno, q⟩ => ?_) hs
  subst ex
  obtain rfl : u = Value.ref a := r2
  rcases q with ⟨ea, q⟩ | ⟨dx, fs, ea, ed, hl, q⟩
  · exact gst_new E T I2 ea hno r1 fun dx s' n ne J => ⟨σ, _, J, q dx n ne⟩
  · exact gst_old E T I2 ea ed hl hno r1 fun s' J => ⟨σ, _, J, q⟩
end
section
variable {X : Cx} {pins : List (Addr × Obj)} {σ : L2.St} {H : Hp} {s : Shared} {B newId initId : String} {bmB : List Value}
/-! ### super().__init__(text), the first statement of an own error's __init__ -/
/-- a method with super(): its def at f, its code object at c -/
structure SupM (X : Cx) (f c : Addr) (ar : Arg) : Prop where
  fu : X.env.func = some f
  co : X.env.code = .ref c
  fd : ∃ (o : Obj) (fd : FuncData), X.K.lookup f = some o ∧ o.data = .func fd ∧ (fd.params.posonlyargs ++ fd.params.args).head? = some ar
  cd : ∃ (o : Obj) (vs : Array Value) (file : Str) (tk : Tok), X.K.lookup c = some o ∧ o.data = .fields vs ∧ vs[2]? = some (.str file tk) ∧ ((X.prog.main.file : Str) == file) = true
  ks : X.env.kindOf "super" = some .globalImplicit
  kc : X.env.kindOf "__class__" = some .free
  ka : X.env.kindOf ar.arg = some .local
  top : (X.prog.main.scope.names.lookup ("super" : Str)).isSome = false
  no : X.mg "super" = none
  op : PySem.W.nsIn X.K cStatics "thirdparty.any" = some none
theorem sup_stmt {f c a C : Addr} {ar : Arg} {i j : Nat} {body : List Stmt} {m : Str} {n : Nat} {pl : Sem Bool} {p0 p1 p2 p3 p4 p5 : Pos} (E : ErB B newId initId bmB) (T : SupM X f c ar) (O : ErC X.K C newId bmB) (I : Inv X pins σ H s)
    (hi : X.N[i]? = some ar.arg) (hs : σ[i]? = some (some (.ref a))) (hj : X.N[j]? = some ("__class__" : Str)) (hsj : σ[j]? = some (some (.ref C))) (ha : H a = some (exo a C none))
    (hsup : PySem.W.ks_superIn X.K C C "__init__" = some (some (.builtin initId))) (hB : PySem.W.subIn X.K (.ref C) (.type B) = some true) (hDD : PySem.W.mroIn X.K C (.ref C) = some true)
    (he : eval (.Call (.Attribute (.Call (.Name "super" p0) [] [] p1) "__init__" p2) [.Constant (.str m) n p3] [] p4) X.env = (do
      let ov ← attributeBase (.Call (.Name "super" p0) [] [] p1) "__init__" X.env (eval (.Call (.Name "super" p0) [] [] p1) X.env)
      standAt p2.atName
      let (g, first) ← holding [ov] (getMethod ov "__init__" pl)
      callWith p4 g first (backTo p4 (starEach [.Constant (.str m) n p3] X.env)) []))
    (hint : interactive X.env = false) (hsw : swapsWith (.Call (.Attribute (.Call (.Name "super" p0) [] [] p1) "__init__" p2) [.Constant (.str m) n p3] [] p4) none p5.line X.env = pure false) :
    _root_.PySem.wpAt (model X.prog X.w) X.A (.func body X.env) (exec (.Expr (.Call (.Attribute (.Call (.Name "super" p0) [] [] p1) "__init__" p2) [.Constant (.str m) n p3] [] p4) p5) X.env) (fun fl s' => fl = .next ∧ Inv X pins σ H s') X.xe s := by
  refine ks_wpAt_Expr_any ?_ hint hsw
  refine ks_wpAt_MethodCall (pl := pl) ?_ he
  have KX : X.K.In s.heap := I.kIn
  obtain ⟨of, fd, hf, hfd, hp⟩ := T.fd
  obtain ⟨oc, vs, file, tk, hc, hoc, hvs, hfile⟩ := T.cd
  obtain ⟨nm, q, N, bs, bm, sn, sub, ab, col, dd, k0, k1, k2, k3, k5, hC, hbm⟩ := O.cls
  have hcl : PySem.W.clsIn X.K C = some { name := nm, bases := bs, mro := .ref C :: bm, ns := N, qualname := q, hasDict := true, slotNames := sn, subclasses := sub, abstract := ab, collection := col, hasDel := false } := by unfold PySem.W.clsIn; rw [hC] <;> rfl
  obtain ⟨t1, ho⟩ := exo_at I.hok ha
  refine ks_wpAt_super_base (env := X.env) T.ks T.kc (by decide) T.fu (KX _ _ hf) hfd hp T.co (KX _ _ hc) hoc hvs hfile T.top ?_
  obtain ⟨mb, h1, h2⟩ := I.mod.blt
  refine PySem.W.ks_loadName_global I.ok.kind T.ks (Calls.loadGlobal_builtin (by rw [I.ok.glob]; exact I.mod.glob.keeps I.bk) T.no (by rw [I.ok.blt]; exact h1.keeps I.bk) ((h2 "super" (by decide)).trans (by decide +kernel)) ⟨rfl, ?_⟩)
  obtain ⟨mm, hn, hl⟩ := I.loc
  obtain ⟨uc, rc, lc⟩ := hl j _ _ hj hsj (.inr (.inr T.kc))
  obtain ⟨ua, ra, la⟩ := hl i _ _ hi hs (.inl T.ka)
  obtain rfl : uc = Value.ref C := rc
  obtain rfl : ua = Value.ref a := ra
  obtain ⟨cc, hcc, hcell⟩ : ∃ cc, X.env.cells.lookup ("__class__" : Str) = some cc ∧ s.heap.IsCell cc (some (Value.ref C)) := by
    rcases lc with ⟨z, _⟩ | ⟨_, z⟩
    · rw [T.kc] at z
      cases z
    · exact z
  have hma : mm ar.arg = some (Value.ref a) := by
    rcases la with ⟨_, z⟩ | ⟨z, _⟩
    · exact z
    · rw [T.ka] at z
      rcases z with z | z <;> cases z
  refine wpAny_loadName_free I.ok.kind T.kc hcc hcell ?_
  refine wpAny_loadName_local I.ok.kind T.ka hn hma ?_
  have hCh := KX _ _ hC
  refine ks_wpAny_isType_cls hCh rfl ⟨rfl, ?_⟩
  obtain ⟨hp', g, d, t, os⟩ := s
  refine ks_wpAny_call_super hCh rfl ho rfl (fun z e => by cases e) (PySem.W.looks_mroIn KX hDD) fun h1 so kk => ?_
  have I1 : Inv X pins σ H ⟨h1, g, d, t, os⟩ := I.kept (t' := t) kk
  have hin : PySem.W.Looks (model X.prog X.w) h1 (isInstance (.ref a) (.type B)) true := (show PySem.W.InstAt h1 a (PySem.HandSPX.excO C t1) C none from ⟨kk _ _ ho, rfl, rfl, trivial⟩).type.andThen (PySem.W.looks_subIn I1.kIn hB)
  have hsup' := hsup
  unfold PySem.W.ks_superIn at hsup'
  rw [hcl] at hsup'
  refine PySem.W.kxs_getMethod E.kx so (PySem.W.looks_opaque I1.kIn T.op) (l₀ := .ref C :: bm) (fun A Q E s k q => wpAny_bind ((PySem.W.looks_clsIn I1.kIn hcl) A _ E s k (wpAny_pure q))) rfl I1.kIn hsup' hin (fun z => ?_) (by decide) ?_
  · subst z
    rw [show hp'.get? a = _ from hCh] at ho
    cases ho
  have kk2 : ∀ b o, h1.get? b = some o → (h1.push (PySem.W.kxs_mw initId a)).get? b = some o := fun b o e => Heap.get?_push_of_some _ e
  have I2 : Inv X pins σ H ⟨h1.push (PySem.W.kxs_mw initId a), g, d, t + 1, os⟩ := I1.kept (t' := t + 1) kk2
  have hmw : (h1.push (PySem.W.kxs_mw initId a)).get? h1.objs.size = some (PySem.W.kxs_mw initId a) := Heap.get?_push_at rfl rfl
  show wpAny _ _ (callWith p4 (.ref h1.objs.size) [] ((false, eval (.Constant (.str m) n p3) X.env) :: backTo p4 (starEach [] X.env)) []) _ _ _
  refine PySem.W.kxs_callWith (i := initId) (x := a) rfl (PySem.Calls.evalArgs_plain (PySem.Calls.spliced_cons (PySem.Calls.Constant_str (PySem.Calls.spliced_nil ⟨hmw, ?_⟩))))
  show wpAny _ _ (call (.ref h1.objs.size) [.str m (t + 1)]) _ _ _
  refine mw_call E.fb (kk2 _ _ (kk _ _ hCh)) (kk2 _ _ (kk _ _ ho)) hmw (by show 1 ≤ sizeLine; decide) fun h3 t3 k3 e3 => ⟨rfl, ?_⟩
  have J := (I2.tok (t + 1 + 1)).write (h' := h3) (t' := t + 1 + 1) (x := a) (e := a) (o := exo a C none) (by rw [ha]; exact True.intro) (.inl rfl) k3 ⟨_, e3⟩ (exo_ok e3)
  rw [show upd H a (exo a C none) = H from funext fun z => by
    by_cases hz : z = a
    · rw [hz, upd_same, ha]
    · rw [upd_ne hz]] at J
  exact J
end
section
variable {P : Program} {w : World} {K : PySem.W.Frag} {mg : Str → Option Value} {base : Heap} {B newId initId : String} {bmB : List Value}
/-- what stands written of an own error's __init__: its words F, the def at f, its class at C -/
structure IniM (P : Program) (K : PySem.W.Frag) (mg : Str → Option Value) (B newId initId : String) (bmB : List Value) (f C : Addr) (F : NF) (ar : Arg) (doc pm ctv : Value) : Prop where
  lk : ∃ (od : Option Addr) (sl : Array (Option Value)), K.lookup f = some ⟨.type "function", od, .func (F.fd doc pm ctv), sl⟩
  cd : PySem.W.codeIn K (.ref F.c) F.qual = true
  cl : ∃ (cc : Addr) (o : Obj), F.cl = [(("__class__" : Str), cc)] ∧ K.lookup cc = some o ∧ o.data = .cell (some (.ref C))
  hd : (F.params.posonlyargs ++ F.params.args).head? = some ar
  fl : ∃ (o : Obj) (vs : Array Value) (file : Str) (tk : Tok), K.lookup F.c = some o ∧ o.data = .fields vs ∧ vs[2]? = some (.str file tk) ∧ ((P.main.file : Str) == file) = true
  ks : F.scope.names.lookup ("super" : Str) = some .globalImplicit
  kc : F.scope.names.lookup ("__class__" : Str) = some .free
  ka : F.scope.names.lookup ar.arg = some .local
  top : (P.main.scope.names.lookup ("super" : Str)).isSome = false
  no : mg "super" = none
  op : PySem.W.nsIn K cStatics "thirdparty.any" = some none
  ox : ErC K C newId bmB
  su : PySem.W.ks_superIn K C C "__init__" = some (some (.builtin initId))
  sb : PySem.W.subIn K (.ref C) (.type B) = some true
  mr : PySem.W.mroIn K C (.ref C) = some true
theorem init_fn {f C : Addr} {F : NF} {ar : Arg} {doc pm ctv : Value} {N ps : List Str} {k i j n : Nat} {sp : Sp} {m : Str} {p0 p1 p2 p3 p4 p5 : Pos} {rest : List Stmt} {pl : Addr → Sem Bool} (EB : ErB B newId initId bmB) (T : IniM P K mg B newId initId bmB f C F ar doc pm ctv)
    (S : NScope N ps ["__class__"] F.scope) (len : ∀ vs H Q E, sp vs H Q E → vs.length = ps.length) (hi : N[i]? = some ar.arg) (hj : N[j]? = some ("__class__" : Str))
    (hbd : F.body = .Expr (.Call (.Attribute (.Call (.Name "super" p0) [] [] p1) "__init__" p2) [.Constant (.str m) n p3] [] p4) p5 :: rest)
    (hst : ∀ vs H Q E, sp vs H Q E → ∃ a, (startF N vs [some (.ref C)])[i]? = some (some (.ref a)) ∧ (startF N vs [some (.ref C)])[j]? = some (some (.ref C)) ∧ H a = some (exo a C none))
    (hbody : ∀ (A : Around) (outer : List Env) (s : Shared) (H : Hp) (vs : List V) (Q : VK) (E : XK), Room k (A.deeper (envF F f s.heap.objs.size)) → sp vs H Q E →
      ∃ t, PSs (ncx CX0 P w K mg base N F f A outer s H E) rest t ∧ t { nx := fun _ H' => Q .non H', rt := Q } (startF N vs [some (.ref C)]) H)
    (he : ∀ L, eval (.Call (.Attribute (.Call (.Name "super" p0) [] [] p1) "__init__" p2) [.Constant (.str m) n p3] [] p4) (envF F f L) = (do
      let ov ← attributeBase (.Call (.Name "super" p0) [] [] p1) "__init__" (envF F f L) (eval (.Call (.Name "super" p0) [] [] p1) (envF F f L))
      standAt p2.atName
      let (g, first) ← holding [ov] (getMethod ov "__init__" (pl L))
      callWith p4 g first (backTo p4 (starEach [.Constant (.str m) n p3] (envF F f L))) []) := by intro _; rfl)
    (hint : ∀ L, interactive (envF F f L) = false := by intro _; rfl)
    (hsw : ∀ L, swapsWith (.Call (.Attribute (.Call (.Name "super" p0) [] [] p1) "__init__" p2) [.Constant (.str m) n p3] [] p4) none p5.line (envF F f L) = pure false := by intro _; rfl) :
    FnOk P w K mg base CX0 (k + 1) f (F.fd doc pm ctv) ps sp := by
  refine ⟨len, fun A outer s H args us vs Q E hr e0 hb r hsp => ?_⟩
  have KX : K.In s.heap := e0.mod.kin.keeps fun b o e => (e0.bs b o e).1
  have hl := len _ _ _ _ hsp
  have lim : s.heap.NoLimit := e0.mod.nolimit.keeps fun b o e => (e0.bs b o e).1
  obtain ⟨od, sl, lk⟩ := T.lk
  obtain ⟨cc, oc, ecl, lcc, dcc⟩ := T.cl
  refine codeAny_call_function hr.depth (KX _ _ lk) rfl S.co S.gen rfl (PySem.W.codeRec_of KX T.cd) (hb _ _ _ _ ?_)
  refine wpAny_newFunctionEnv S.nocell (fun ⟨x, _⟩ hy => S.par x (List.of_mem_zip hy).1) (fun h1 hns hsb => ⟨lim.fresh _ hsb, ?_⟩) S.kind
  have kp : ∀ b o, s.heap.get? b = some o → h1.get? b = some o := fun b o e => hsb.extBut b o (Nat.ne_of_lt (Heap.lt_size e)) (Heap.get?_push_of_some _ e)
  have CA : CellsAt F.cl ["__class__"] [some (.ref C)] s.heap H := by
    rw [ecl]
    have hc : ∀ (y : Str) (c : Addr), ([(("__class__" : Str), cc)] : List (Str × Addr)).lookup y = some c → c = cc ∧ y = "__class__" := fun y c e => by
      rw [List.lookup_cons] at e
      split at e
      · rename_i z
        exact ⟨(Option.some.inj e).symm, eq_of_beq z⟩
      · cases e
    refine ⟨rfl, fun y c e => ?_, fun x y c e1 e2 => (hc x c e1).2.trans (hc y c e2).2.symm, fun i y e => ?_⟩
    · rw [(hc y c e).1]
      exact ⟨(e0.bs _ _ (e0.mod.kin _ _ lcc)).2, _, oc, KX _ _ lcc, dcc⟩
    · match i, e with
      | 0, e =>
        cases e
        exact ⟨cc, by simp, fun v e => by cases e; exact ⟨_, rfl, oc, KX _ _ lcc, dcc⟩⟩
  have I : Inv (ncx CX0 P w K mg base N F f A outer s H E) [] (startF N vs [some (.ref C)]) H { s with heap := h1, toks := s.toks + (ps.zip us).length } := inv_startN S hr.hd e0 hl r CA hns kp
  obtain ⟨a, s1, s2, ha⟩ := hst _ _ _ _ hsp
  have TM : SupM (ncx CX0 P w K mg base N F f A outer s H E) f F.c ar := ⟨rfl, rfl, ⟨_, _, lk, rfl, T.hd⟩, T.fl, T.ks, T.kc, T.ka, T.top, T.no, T.op⟩
  have fin : ∀ {τ : L2.St} {G : Hp} {v : V} {u : Value} {z : Shared}, Inv (ncx CX0 P w K mg base N F f A outer s H E) [] τ G z → L2.RelV v u → Q v G → CE outer P w H s Q u z :=
    fun J rv q => ⟨_, _, J.os, J.bare, J.base, J.hok, rv, q⟩
  obtain ⟨t, ht, hq⟩ := hbody A outer s H vs Q E (hr.deeper _) hsp
  refine ks_codeAny_funcAt (body := F.body) (env := envF F f s.heap.objs.size) ?_
  rw [hbd]
  refine ks_wpAt_execs_cons (ks_wpAt_mono (sup_stmt (X := ncx CX0 P w K mg base N F f A outer s H E) (i := i) (j := j) EB TM T.ox I hi s1 hj s2 ha T.su T.sb T.mr (he _) (hint _) (hsw _)) (fun fl s' hs => ?_) fun e s' hx => hx)
  obtain ⟨rfl, J⟩ := hs
  refine _root_.PySem.wpAt_of_wpAny (wpAny_mono (ht.run [] s' _ H _ J hq) (fun fl z hz => ?_) fun e s' hx => hx)
  cases fl with
  | ret u =>
    obtain ⟨v5, τ5, G5, J5, r5, q5⟩ := hz
    exact fin J5 r5 q5
  | next =>
    obtain ⟨τ5, G5, J5, q5⟩ := hz
    exact fin (v := V.non) (u := Value.none) J5 rfl q5
  | brk =>
    obtain ⟨_, _, _, q5⟩ := hz
    exact q5.elim
  | cont =>
    obtain ⟨_, _, _, q5⟩ := hz
    exact q5.elim
end
section
variable {X : Cx} {B newId initId : String} {bmB : List Value}
theorem ErC.has {K : PySem.W.Frag} {C : Addr} (T : ErC K C newId bmB) : PySem.W.hasDictIn K C = true ∧ (PySem.W.clsIn K C).isSome = true := by
  obtain ⟨nm, q, N, bs, bm, sn, sub, ab, col, dd, k0, k1, k2, k3, k5, hC, hbm⟩ := T.cls
  have hcl : PySem.W.clsIn K C = some { name := nm, bases := bs, mro := .ref C :: bm, ns := N, qualname := q, hasDict := true, slotNames := sn, subclasses := sub, abstract := ab, collection := col, hasDel := false } := by unfold PySem.W.clsIn; rw [hC] <;> rfl
  exact ⟨by unfold PySem.W.hasDictIn; rw [hcl] <;> rfl, by rw [hcl] <;> rfl⟩
/-! ### C(..): an own error as a value -/
def tMkV (C : Addr) (sp : Sp) (dvs : List V) (ta : TA) : TE := fun σ H Q => ta σ H fun vs H1 => vs.length ≤ 1000 ∧ ∀ a, H1 a = none → sp (.ref a :: (vs ++ dvs)) (upd H1 a (exo a C none)) (fun v H2 => v = .non ∧ Q (.ref a) H2) (fun _ _ _ => False)
theorem run_mkE {CX : CXT} {C fI : Addr} {k : Nat} {fd : FuncData} {ps : List Str} {sp : Sp} {ds : List Value} {dvs vs : List V} {us : List Value} {pins : List (Addr × Obj)} {σ : L2.St} {H1 : Hp} {s1 : Shared} {Q : VK} (E : ErB B newId initId bmB) (T : ErC X.K C newId bmB)
    (iC : PySem.W.findIn X.K (.ref C) "__init__" = some (some (.ref fI))) (tI : PySem.W.typeIn X.K (.ref fI) = some (.type "function")) (F1 : FnOk X.prog X.w X.K X.mg X.base CX k fI fd ps sp) (hr : Room (k + 1) X.A) (hb : Binds X.K fd ps ds) (hd : Vals dvs ds)
    (hx : Passes CX X (fun _ _ _ => False)) (I1 : Inv X pins σ H1 s1) (r1 : Vals vs us) (hz : vs.length ≤ 1000) (q1 : ∀ a, H1 a = none → sp (.ref a :: (vs ++ dvs)) (upd H1 a (exo a C none)) (fun v H2 => v = .non ∧ Q (.ref a) H2) (fun _ _ _ => False)) :
    wpAny (model X.prog X.w) X.A (call (.ref C) us) (EP X pins σ Q) X.xe s1 := by
  obtain ⟨nm, q, N, bs, bm, sn, sub, ab, col, dd, k0, k1, k2, k3, k5, hC, hbm⟩ := T.cls
  obtain ⟨hp, g, dr, tk, os⟩ := s1
  have hsz : hp.objs.size ≤ hp.objs.size + 1 := Nat.le_succ _
  have hq := q1 (hp.objs.size + 1) (I1.hok.fresh hsz)
  have kk : ∀ b o, hp.get? b = some o → ((hp.push (PySem.W.kdv_tup us)).push (PySem.HandSPX.excO C hp.objs.size)).get? b = some o := fun b o e => Heap.get?_push_of_some _ (Heap.get?_push_of_some _ e)
  have hget : ((hp.push (PySem.W.kdv_tup us)).push (PySem.HandSPX.excO C hp.objs.size)).get? (hp.objs.size + 1) = some (PySem.HandSPX.excO C hp.objs.size) := by heap_get
  have I2 : Inv X pins σ (upd H1 (hp.objs.size + 1) (exo (hp.objs.size + 1) C none)) ⟨(hp.push (PySem.W.kdv_tup us)).push (PySem.HandSPX.excO C hp.objs.size), g, dr, tk, os⟩ :=
    I1.laid (t' := tk) kk hsz (exo_ok hget)
  have r2 : Vals (V.ref (hp.objs.size + 1) :: (vs ++ dvs)) (Value.ref (hp.objs.size + 1) :: (us ++ ds)) := .cons rfl (r1.append hd)
  have hl : (Value.ref (hp.objs.size + 1) :: us ++ ds).length = ps.length := r2.length.symm.trans (F1.len _ _ _ _ hq)
  have hus : us.length ≤ sizeLine := by
    rw [← Paired.length r1, sizeLine_eq]
    omega
  refine wpAny_call (PySem.HandSPX.call_own E.fb (fun Y => PySem.W.excTail_contains Y bm hbm) (I1.kIn _ _ hC) (PySem.W.looks_findIn I1.kIn iC) (fun self => PySem.W.bind_fn I1.kIn self tI) hus
    (codeAny_mono (F1.run _ X.stack _ _ ⟨Value.ref (hp.objs.size + 1) :: us, []⟩ (Value.ref (hp.objs.size + 1) :: (us ++ ds)) _ _ (fun _ _ _ => False) (hr.make C us []) (I2.env0.make C us []) (hb _ (Value.ref (hp.objs.size + 1) :: us) I2.kIn hl) r2 hq) fun r s' hq' => ?_))
  match r, hq' with
  | .error er, hq' => exact hx pins σ _ _ er s' I2 hq'
  | .ok (.ret u), hq' =>
    obtain ⟨v, H2, J, rv, ev, q2⟩ := I2.after hq'
    subst ev
    exact ⟨rv, .ref (hp.objs.size + 1), H2, J, rfl, q2⟩
  | .ok .next, hq' => exact False.elim hq'
  | .ok .brk, hq' => exact False.elim hq'
  | .ok .cont, hq' => exact False.elim hq'
variable {CX : CXT} {x : Str} {C fI : Addr} {k : Nat} {fd : FuncData} {ps : List Str} {sp : Sp} {ds : List Value} {dvs : List V} {e : Expr} {es : List Expr} {ta : TA} {te : TE} {p pos : Pos}
theorem pe_mkE (E : ErB B newId initId bmB) (T : ErC X.K C newId bmB) (iC : PySem.W.findIn X.K (.ref C) "__init__" = some (some (.ref fI))) (tI : PySem.W.typeIn X.K (.ref fI) = some (.type "function"))
    (F1 : FnOk X.prog X.w X.K X.mg X.base CX k fI fd ps sp) (hr : Room (k + 1) X.A) (hb : Binds X.K fd ps ds) (hd : Vals dvs ds) (hx : Passes CX X (fun _ _ _ => False)) (hg : Gl X x) (hm : X.mg x = some (.ref C)) (ha : PA X (e :: es) ta)
    (hdb : (x == ("__debug__" : Str)) = false := by decide) (he : starEach (e :: es) X.env = (false, eval e X.env) :: starEach es X.env := by rfl) (hpl : (backTo pos (starEach es X.env)).any (·.1) = false := by rfl) :
    PE X (.Call (.Name x p) (e :: es) [] pos) (tMkV C sp dvs ta) := by
  refine ⟨fun pins s σ H Q I h => ?_⟩
  refine wpAny_Call_Name_kw (ld_glob I hg hm ?_ hdb)
  refine PySem.W.callWith_K (h₀ := X.base) I.ok.mod.kin T.kp (thn (ha.run pos pins s σ H _ I h) fun us s1 ⟨vs, H1, I1, r1, hz, q1⟩ => ⟨I1.kIn, ?_⟩) he hpl
  exact run_mkE E T iC tI F1 hr hb hd hx I1 r1 hz q1
theorem pe_mkE0 (E : ErB B newId initId bmB) (T : ErC X.K C newId bmB) (iC : PySem.W.findIn X.K (.ref C) "__init__" = some (some (.ref fI))) (tI : PySem.W.typeIn X.K (.ref fI) = some (.type "function"))
    (F1 : FnOk X.prog X.w X.K X.mg X.base CX k fI fd ps sp) (hr : Room (k + 1) X.A) (hb : Binds X.K fd ps ds) (hd : Vals dvs ds) (hx : Passes CX X (fun _ _ _ => False)) (hg : Gl X x) (hm : X.mg x = some (.ref C))
    (hdb : (x == ("__debug__" : Str)) = false := by decide) : PE X (.Call (.Name x p) [] [] pos) (tMkV C sp dvs tNil) := by
  refine ⟨fun pins s σ H Q I h => ?_⟩
  refine wpAny_Call_Name_kw (ld_glob I hg hm ?_ hdb)
  exact PySem.W.callWith_K0 I.kIn T.kp (run_mkE (us := []) E T iC tI F1 hr hb hd hx I .nil h.1 h.2)
/-! ### e.f of such a value -/
def tXo (K : PySem.W.Frag) (f : Str) (te : TE) : TE := fun σ H Q => te σ H fun x H1 => ∃ (a C d : Addr) (nw : String) (bm : List Value) (fs : List (Str × V)) (v : V), x = .ref a ∧ H1 a = some (exo a C (some d)) ∧ H1 d = some (exd d fs) ∧ fs.lookup f = some v ∧
  PySem.W.findIn K (.ref C) f = some none ∧ ErC K C nw bm ∧ Q v H1
theorem inst_exo {pins : List (Addr × Obj)} {σ : L2.St} {H : Hp} {s : Shared} {a C d : Addr} {fs : List (Str × V)} (I : Inv X pins σ H s) (ea : H a = some (exo a C (some d))) (ed : H d = some (exd d fs)) :
    ∃ (ox od : Obj) (mA : Str → Option Value), PySem.W.InstAt s.heap a ox C (some od) ∧ (∀ n, PySem.W.lookIn n od = some (mA n)) ∧ ∀ f, RelO (fs.lookup f) (mA f) := by
  obtain ⟨t1, ho⟩ := exo_at I.hok ea
  obtain ⟨mA, hns, rel⟩ := exd_at I.hok ed
  obtain ⟨od, hod, hl⟩ := lookIn_ns hns
  exact ⟨_, od, mA, ⟨ho, rfl, rfl, hod⟩, hl, rel⟩
theorem pe_xo {n : Str} (he : PE X e te) (hb : attributeBase e n X.env (eval e X.env) = eval e X.env := by rfl) : PE X (.Attribute e n pos) (tXo X.K n te) := by
  refine ⟨fun pins s σ H Q I h => ?_⟩
  refine attr_of hb (thn (he.run pins s σ H _ I h) fun u s1 hh => ?_)
  obtain ⟨x, H1, I1, rx, a, C, d, nw, bm, fs, v, ex, ea, ed, l, hno, T, q⟩ := hh
  subst ex
  obtain rfl : u = Value.ref a := rx
  obtain ⟨ox, od, mA, J, hl, rel⟩ := inst_exo I1 ea ed
  obtain ⟨u, hu, ru⟩ := RelO.some_of (v := v) (o := mA n) (l ▸ rel n)
  exact HandSPX.exc_get I1.kIn J T.ga T.gt T.ex (PySem.W.findObj_own T.has.1 hno rfl ((hl n).trans (congrArg some hu))) (handed_of ru) ⟨v, H1, I1.tok _, ru, q⟩
/-! ### isinstance of such a value -/
def rIsO (K : PySem.W.Frag) : List V → Hp → VK → Prop := fun xs H Q => ∃ (a C d : Addr) (nw : String) (bm : List Value) (fs : List (Str × V)) (c : V) (cv : Value) (b : Bool), xs = [.ref a, c] ∧ H a = some (exo a C (some d)) ∧ H d = some (exd d fs) ∧ ErC K C nw bm ∧ ClsV c cv ∧
  PySem.W.kitOne K (.ref C) cv = some b ∧ Q (.bl b) H
theorem call_isO (hn : PySem.W.specialIn X.K (.builtin "object.__class__") "__get__" = some (some (.builtin "getset_descriptor.__get__"))) (ht : PySem.W.takesIn X.K (.builtin "object.__class__") = some true) : CallR X (.builtin "isinstance") (rIsO X.K) := by
  intro pins s σ H xs us Q I r h
  obtain ⟨a, C, d, nw, bm, fs, c, cv, b, rfl, ea, ed, T, hc, e, q⟩ := h
  obtain ⟨u1, u2, rfl, r1, r2⟩ := vals2 r
  have e2 := hc.eq r2
  subst e2
  cases (show u1 = Value.ref a from r1)
  obtain ⟨ox, od, mA, J, _, _⟩ := inst_exo I ea ed
  exact PySem.W.kia_one (PySem.W.kitx_exc T.has.2 T.ga T.gt T.ex T.cl hn ht T.ob) I.kIn J e (fun z => nomatch z) fun tk => ⟨.bl b, H, I.tok tk, rfl, q⟩
end
/-! ### an own error made -/
/-- what __init__ leaves: the object at a with its dict at d -/
def Made (H H' : Hp) (a C d : Addr) (fs : List (Str × V)) : Prop := H d = none ∧ d ≠ a ∧ H' a = some (exo a C (some d)) ∧ H' d = some (exd d fs) ∧ ∀ b o, b ≠ a → H b = some o → H' b = some o
def spIni (C : Addr) (n : Nat) (fs : List V → List (Str × V)) : Sp := fun vs H Q _ => ∃ (a : Addr) (ws : List V), vs = .ref a :: ws ∧ ws.length = n ∧ H a = some (exo a C none) ∧ ∀ d H', Made H H' a C d (fs ws) → Q .non H'
abbrev NFI (st : Stmt) (qual : Str) (cc c : Addr) : NF := ⟨"__init__", qual, defArgs st, defBody st, defScope st, [(("__class__" : Str), cc)], c⟩
theorem made1 {H : Hp} {a C d : Addr} {f : Str} {y : V} (ha : H a = some (exo a C none)) (hd : H d = none) (ne : d ≠ a) : Made H (upd (upd H d (exd d [(f, y)])) a (exo a C (some d))) a C d [(f, y)] :=
  ⟨hd, ne, upd_same, (upd_ne ne).trans upd_same, fun b o hb e => (upd_ne hb).trans ((upd_ne (ne_of_none e hd)).trans e)⟩
theorem made2 {H H' : Hp} {a C d : Addr} {f : Str} {y : V} {fs : List (Str × V)} (m : Made H H' a C d fs) : Made H (upd H' d (exd d ((f, y) :: fs))) a C d ((f, y) :: fs) :=
  ⟨m.1, m.2.1, (upd_ne m.2.1.symm).trans m.2.2.1, upd_same, fun b o hb e => (upd_ne (ne_of_none e m.1)).trans (m.2.2.2.2 b o hb e)⟩
/-- the value x is an error of the class at C with the fields fs -/
def IsE (H : Hp) (C : Addr) (fs : List (Str × V)) (x : V) : Prop := ∃ a d : Addr, x = .ref a ∧ H a = some (exo a C (some d)) ∧ H d = some (exd d fs)
theorem IsE.same {H H' : Hp} {C : Addr} {fs : List (Str × V)} {x : V} (h : IsE H C fs x) (s : Same H H') : IsE H' C fs x := by
  obtain ⟨a, d, rfl, ea, ed⟩ := h
  exact ⟨a, d, rfl, s _ _ ea, s _ _ ed⟩
theorem mkv_use {H1 : Hp} {Q : VK} {C : Addr} {n : Nat} {fs : List V → List (Str × V)} {vs : List V} (hn : vs.length = n) (h0 : n ≤ 1000) (h : ∀ x H', Same H1 H' → IsE H' C (fs vs) x → Q x H') :
    vs.length ≤ 1000 ∧ ∀ a, H1 a = none → spIni C n fs (.ref a :: (vs ++ [])) (upd H1 a (exo a C none)) (fun v H2 => v = .non ∧ Q (.ref a) H2) (fun _ _ _ => False) := by
  refine ⟨by omega, fun a ha => ?_⟩
  rw [List.append_nil]
  refine ⟨a, vs, rfl, hn, upd_same, fun d H2 m => ⟨rfl, h _ _ (fun b o e => ?_) ⟨a, d, rfl, m.2.2.1, m.2.2.2.1⟩⟩⟩
  exact m.2.2.2.2 b o (ne_of_none e ha) ((upd_ne (ne_of_none e ha)).trans e)
/-- the class nm, an own error over B: its mro behind itself is pre and then bmB -/
structure Er (P : Program) (K : PySem.W.Frag) (mg : Str → Option Value) (B newId initId : String) (bmB pre : List Value) (st : Stmt) (nm qual : Str) where
  C : Addr
  f : Addr
  cc : Addr
  c : Addr
  ar : Arg
  doc : Value
  pm : Value
  ctv : Value
  T : IniM P K mg B newId initId bmB f C (NFI st qual cc c) ar doc pm ctv
  iC : PySem.W.findIn K (.ref C) "__init__" = some (some (.ref f))
  tI : PySem.W.typeIn K (.ref f) = some (.type "function")
  g : mg nm = some (.ref C)
  har : ar.arg = "self"
  lk : ∃ q N bs sn sub ab col dd k0 k1 k2 k3 k5, K.lookup C = some (excClassObj nm q C N bs (pre ++ bmB) true sn sub ab col dd k0 k1 k2 k3 k5 newId)
section
variable {base : Heap} {K : PySem.W.Frag} {mg : Str → Option Value} {P : Program} {w : World} {B newId initId : String} {bmB pre : List Value} {st : Stmt} {nm qual : Str}
theorem ok_ini1 {fl pn wd m : Str} {p0 p1 p2 p3 p4 p5 q0 q1 q2 q3 r0 r1 r2 r3 : Pos} {n1 n2 : Nat} {pl : Addr → Sem Bool} (EB : ErB B newId initId bmB) (T : Er P K mg B newId initId bmB pre st nm qual) (S : NScope ["self", pn, "__class__"] ["self", pn] ["__class__"] (defScope st))
    (hbd : defBody st = [.Expr (.Call (.Attribute (.Call (.Name "super" p0) [] [] p1) "__init__" p2) [.Constant (.str m) n1 p3] [] p4) p5, .Assign [.Attribute (.Name "self" q0) "word" q1] (.Constant (.str wd) n2 q2) q3, .Assign [.Attribute (.Name "self" r0) fl r1] (.Name pn r2) r3])
    (e1 : PySem.W.findIn K (.ref T.C) "word" = some none) (e2 : PySem.W.findIn K (.ref T.C) fl = some none) (hn1 : (pn == ("__debug__" : Str)) = false := by decide) (hn2 : (pn == ("__classdict__" : Str)) = false := by decide)
    (he : ∀ L, eval (.Call (.Attribute (.Call (.Name "super" p0) [] [] p1) "__init__" p2) [.Constant (.str m) n1 p3] [] p4) (envF (NFI st qual T.cc T.c) T.f L) = (do
      let ov ← attributeBase (.Call (.Name "super" p0) [] [] p1) "__init__" (envF (NFI st qual T.cc T.c) T.f L) (eval (.Call (.Name "super" p0) [] [] p1) (envF (NFI st qual T.cc T.c) T.f L))
      standAt p2.atName
      let (g, first) ← holding [ov] (getMethod ov "__init__" (pl L))
      callWith p4 g first (backTo p4 (starEach [.Constant (.str m) n1 p3] (envF (NFI st qual T.cc T.c) T.f L))) []) := by intro _; rfl)
    (hint : ∀ L, interactive (envF (NFI st qual T.cc T.c) T.f L) = false := by intro _; rfl)
    (hsw : ∀ L, swapsWith (.Call (.Attribute (.Call (.Name "super" p0) [] [] p1) "__init__" p2) [.Constant (.str m) n1 p3] [] p4) none p5.line (envF (NFI st qual T.cc T.c) T.f L) = pure false := by intro _; rfl)
    (hs1 : ∀ L, swapsWith (.Constant (.str wd) n2 q2) (some (.Attribute (.Name "self" q0) "word" q1)) q3.line (envF (NFI st qual T.cc T.c) T.f L) = pure false := by intro _; rfl)
    (hs2 : ∀ L, swapsWith (.Name pn r2) (some (.Attribute (.Name "self" r0) fl r1)) r3.line (envF (NFI st qual T.cc T.c) T.f L) = pure false := by intro _; rfl) :
    FnOk P w K mg base CX0 1 T.f ((NFI st qual T.cc T.c).fd T.doc T.pm T.ctv) ["self", pn] (spIni T.C 1 fun ws => [(fl, ws.getD 0 .non), ("word", .str wd)]) := by
  refine init_fn (i := 0) (j := 2) (N := ["self", pn, "__class__"]) EB T.T S (fun vs H Q E h => ?_) (by rw [T.har]; rfl) rfl hbd (fun vs H Q E h => ?_) (fun A outer s H vs Q E hr h => ?_) he hint hsw
  · obtain ⟨a, ws, rfl, hn, _⟩ := h
    show ws.length + 1 = 2
    omega
  · obtain ⟨a, ws, rfl, hn, ha, _⟩ := h
    match ws, hn with
    | [v], _ => exact ⟨a, rfl, rfl, ha⟩
  · obtain ⟨a, ws, rfl, hn, ha, q⟩ := h
    match ws, hn, q with
    | [v], _, q =>
      refine ⟨_, pss_cons (ps_gst EB (pe_var (i := 0) rfl (Or.inl (S.par _ (by simp)))) pe_str (hs1 _)) (pss_one (ps_gst EB (pe_var (i := 0) rfl (Or.inl (S.par _ (by simp)))) (pe_var (i := 1) rfl (Or.inl (S.par _ (by simp))) hn1 hn2) (hs2 _))), ?_⟩
      refine ⟨_, rfl, a, T.C, rfl, T.T.ox, e1, .inl ⟨ha, fun d hd ne => ?_⟩⟩
      have m1 := made1 (f := "word") (y := .str wd) ha hd ne
      exact ⟨_, rfl, _, rfl, a, T.C, rfl, T.T.ox, e2, .inr ⟨d, _, m1.2.2.1, m1.2.2.2.1, by simp, q d _ (made2 m1)⟩⟩
theorem ok_ini0 {wd m : Str} {p0 p1 p2 p3 p4 p5 q0 q1 q2 q3 : Pos} {n1 n2 : Nat} {pl : Addr → Sem Bool} (EB : ErB B newId initId bmB) (T : Er P K mg B newId initId bmB pre st nm qual) (S : NScope ["self", "__class__"] ["self"] ["__class__"] (defScope st))
    (hbd : defBody st = [.Expr (.Call (.Attribute (.Call (.Name "super" p0) [] [] p1) "__init__" p2) [.Constant (.str m) n1 p3] [] p4) p5, .Assign [.Attribute (.Name "self" q0) "word" q1] (.Constant (.str wd) n2 q2) q3])
    (e1 : PySem.W.findIn K (.ref T.C) "word" = some none)
    (he : ∀ L, eval (.Call (.Attribute (.Call (.Name "super" p0) [] [] p1) "__init__" p2) [.Constant (.str m) n1 p3] [] p4) (envF (NFI st qual T.cc T.c) T.f L) = (do
      let ov ← attributeBase (.Call (.Name "super" p0) [] [] p1) "__init__" (envF (NFI st qual T.cc T.c) T.f L) (eval (.Call (.Name "super" p0) [] [] p1) (envF (NFI st qual T.cc T.c) T.f L))
      standAt p2.atName
      let (g, first) ← holding [ov] (getMethod ov "__init__" (pl L))
      callWith p4 g first (backTo p4 (starEach [.Constant (.str m) n1 p3] (envF (NFI st qual T.cc T.c) T.f L))) []) := by intro _; rfl)
    (hint : ∀ L, interactive (envF (NFI st qual T.cc T.c) T.f L) = false := by intro _; rfl)
    (hsw : ∀ L, swapsWith (.Call (.Attribute (.Call (.Name "super" p0) [] [] p1) "__init__" p2) [.Constant (.str m) n1 p3] [] p4) none p5.line (envF (NFI st qual T.cc T.c) T.f L) = pure false := by intro _; rfl)
    (hs1 : ∀ L, swapsWith (.Constant (.str wd) n2 q2) (some (.Attribute (.Name "self" q0) "word" q1)) q3.line (envF (NFI st qual T.cc T.c) T.f L) = pure false := by intro _; rfl) :
    FnOk P w K mg base CX0 1 T.f ((NFI st qual T.cc T.c).fd T.doc T.pm T.ctv) ["self"] (spIni T.C 0 fun _ => [("word", .str wd)]) := by
  refine init_fn (i := 0) (j := 1) (N := ["self", "__class__"]) EB T.T S (fun vs H Q E h => ?_) (by rw [T.har]; rfl) rfl hbd (fun vs H Q E h => ?_) (fun A outer s H vs Q E hr h => ?_) he hint hsw
  · obtain ⟨a, ws, rfl, hn, _⟩ := h
    show ws.length + 1 = 1
    omega
  · obtain ⟨a, ws, rfl, hn, ha, _⟩ := h
    match ws, hn with
    | [], _ => exact ⟨a, rfl, rfl, ha⟩
  · obtain ⟨a, ws, rfl, hn, ha, q⟩ := h
    match ws, hn, q with
    | [], _, q =>
      refine ⟨_, pss_one (ps_gst EB (pe_var (i := 0) rfl (Or.inl (S.par _ (by simp)))) pe_str (hs1 _)), ?_⟩
      refine ⟨_, rfl, a, T.C, rfl, T.T.ox, e1, .inl ⟨ha, fun d hd ne => ?_⟩⟩
      exact q d _ (made1 (f := "word") (y := .str wd) ha hd ne)
/-! ### isinstance between own errors -/
theorem Er.cl (T : Er P K mg B newId initId bmB pre st nm qual) : ∃ cd : ClassData, PySem.W.clsIn K T.C = some cd ∧ cd.name = nm ∧ cd.mro = .ref T.C :: (pre ++ bmB) := by
  obtain ⟨q, N, bs, sn, sub, ab, col, dd, k0, k1, k2, k3, k5, h⟩ := T.lk
  exact ⟨{ name := nm, bases := bs, mro := .ref T.C :: (pre ++ bmB), ns := N, qualname := q, hasDict := true, slotNames := sn, subclasses := sub, abstract := ab, collection := col, hasDel := false }, by unfold PySem.W.clsIn; rw [h] <;> rfl, rfl, rfl⟩
theorem kit_ref {C D : Addr} {l : List Value} {cd cd' : ClassData} (hC : PySem.W.clsIn K C = some cd) (hm : cd.mro = .ref C :: l) (hD : PySem.W.clsIn K D = some cd') (hT : PySem.W.typeIn K (.ref D) = some (.type "type")) :
    PySem.W.kitOne K (.ref C) (.ref D) = some ((Value.ref C :: l).contains (.ref D)) := by
  unfold PySem.W.kitOne
  split
  · rename_i h
    rw [List.contains_cons, show (Value.ref D == Value.ref C) = true by rw [eq_of_beq h]; exact beq_self_eq_true _]
    rfl
  · unfold PySem.W.kitCls
    dsimp only
    rw [hD, hT, if_pos (show ((some cd').isSome && some (Value.type "type") == some (Value.type "type")) = true from show (true && some (Value.type "type") == some (Value.type "type")) = true by decide +kernel)]
    show PySem.W.mroIn K C (.ref D) = _
    unfold PySem.W.mroIn
    rw [hC, Option.bind_some, hm]
    rfl
theorem kit_typ {C : Addr} {T : String} {l : List Value} {cd : ClassData} (hC : PySem.W.clsIn K C = some cd) (hm : cd.mro = .ref C :: l) (hT : PySem.W.kitMeta T = true) :
    PySem.W.kitOne K (.ref C) (.type T) = some ((Value.ref C :: l).contains (.type T)) := by
  unfold PySem.W.kitOne
  rw [if_neg (by intro h; cases eq_of_beq h)]
  unfold PySem.W.kitCls
  dsimp only
  rw [if_pos hT]
  show PySem.W.mroIn K C (.type T) = _
  unfold PySem.W.mroIn
  rw [hC, Option.bind_some, hm]
  rfl
theorem cls_ne {C D : Addr} {c d : ClassData} (hC : PySem.W.clsIn K C = some c) (hD : PySem.W.clsIn K D = some d) (hn : c.name ≠ d.name) : C ≠ D := by
  intro e
  subst e
  rw [hC] at hD
  cases hD
  exact hn rfl
end
section
variable {P : Program} {K : PySem.W.Frag} {h : Heap} {mg : Str → Option Value} {B newId initId : String} {bmB pre : List Value} {st : Stmt} {nm qual : Str}
theorem mro_at {C : Addr} {q : Str} {N : Addr} {bs : List Value} {sn : List Str} {sub : List Value} {ab : Bool} {col : Option Bool} {dd : Option Addr} {k0 k1 k2 k3 k5 : Option Value} (lC : K.lookup C = some (excClassObj nm q C N bs (pre ++ bmB) true sn sub ab col dd k0 k1 k2 k3 k5 newId)) (v : Value) :
    PySem.W.mroIn K C v = some ((Value.ref C :: (pre ++ bmB)).contains v) := by
  have hcl : PySem.W.clsIn K C = some { name := nm, bases := bs, mro := .ref C :: (pre ++ bmB), ns := N, qualname := q, hasDict := true, slotNames := sn, subclasses := sub, abstract := ab, collection := col, hasDel := false } := by unfold PySem.W.clsIn; rw [lC] <;> rfl
  unfold PySem.W.mroIn
  rw [hcl, Option.bind_some]
  rfl
theorem mro_ty {C : Addr} {X : String} (ht : PySem.W.excTail bmB (pre ++ bmB) = true) (hx : bmB.contains (.type X) = true) : (Value.ref C :: (pre ++ bmB)).contains (.type X) = true := by
  rw [List.contains_cons, PySem.W.excTail_contains X _ ht, hx, Bool.or_true]
theorem ov_at {C : Addr} {q : Str} {N : Addr} {bs : List Value} {sn : List Str} {sub : List Value} {ab : Bool} {col : Option Bool} {dd : Option Addr} {k0 k1 k2 k3 k5 : Option Value} (lC : K.lookup C = some (excClassObj nm q C N bs (pre ++ bmB) true sn sub ab col dd k0 k1 k2 k3 k5 newId)) (ht : PySem.W.excTail bmB (pre ++ bmB) = true) : PySem.W.excOver K C bmB = true := by
  have hcl : PySem.W.clsIn K C = some { name := nm, bases := bs, mro := .ref C :: (pre ++ bmB), ns := N, qualname := q, hasDict := true, slotNames := sn, subclasses := sub, abstract := ab, collection := col, hasDel := false } := by unfold PySem.W.clsIn; rw [lC] <;> rfl
  unfold PySem.W.excOver
  rw [hcl]
  show (C == C && PySem.W.excTail bmB (pre ++ bmB)) = true
  rw [beq_self_eq_true, ht]
  rfl
@[reducible] def er_mk (X : K.In h) (G : h.Ns mainGlobals mg) {C f c cc : Addr} {od cld cdd : Option Addr} {sl csl ccs : Array (Option Value)} {doc pm ctv clc ccl : Value} {vs : Array Value} {file : Str} {tf : Tok} {ar : Arg}
    {q : Str} {N : Addr} {bs : List Value} {sn : List Str} {sub : List Value} {ab : Bool} {col : Option Bool} {dd : Option Addr} {k0 k1 k2 k3 k5 : Option Value}
    (op : PySem.W.nsIn K cStatics "thirdparty.any" = some none) (no : PySem.W.nsIn K mainGlobals "super" = some none)
    (h1 : bmB.contains (.type "BaseException") = true) (h2 : bmB.contains (.type B) = true) (h3 : bmB.contains (.type "object") = true)
    (ht : PySem.W.excTail bmB (pre ++ bmB) = true)
    (hh : ((defArgs st).posonlyargs ++ (defArgs st).args).head? = some ar) (har : ar.arg = "self")
    (ks : (defScope st).names.lookup ("super" : Str) = some .globalImplicit) (kc : (defScope st).names.lookup ("__class__" : Str) = some .free) (ka : (defScope st).names.lookup ar.arg = some .local)
    (top : (P.main.scope.names.lookup ("super" : Str)).isSome = false)
    (aC : PySem.W.nsIn K mainGlobals nm = some (some (.ref C)))
    (lC : K.lookup C = some (excClassObj nm q C N bs (pre ++ bmB) true sn sub ab col dd k0 k1 k2 k3 k5 newId))
    (aI : PySem.W.findIn K (.ref C) "__init__" = some (some (.ref f)))
    (lI : K.lookup f = some ⟨.type "function", od, .func (PySem.W.fnX "__init__" qual (defArgs st) (defBody st) (defScope st) [(("__class__" : Str), cc)] .none .none doc pm none (.ref c) ctv), sl⟩)
    (cI : PySem.W.codeIn K (.ref c) qual = true)
    (lc : K.lookup cc = some ⟨clc, cld, .cell (some (.ref C)), csl⟩)
    (lco : K.lookup c = some ⟨ccl, cdd, .fields vs, ccs⟩)
    (sa : PySem.W.findIn K (.ref C) "__setattr__" = some (some (.builtin "object.__setattr__")))
    (ga : PySem.W.findIn K (.ref C) "__getattribute__" = some (some (.builtin "BaseException.__getattribute__")))
    (gt : PySem.W.findIn K (.ref C) "__getattr__" = some none)
    (kp : PySem.W.keepIn K (.ref C) = true)
    (cl : PySem.W.findIn K (.ref C) "__class__" = some (some (.builtin "object.__class__")))
    (su : PySem.W.ks_superIn K C C "__init__" = some (some (.builtin initId)))
    (hvs : vs[2]? = some (.str file tf)) (hfile : ((P.main.file : Str) == file) = true) : Er P K mg B newId initId bmB pre st nm qual where
  C := C
  f := f
  cc := cc
  c := c
  ar := ar
  doc := doc
  pm := pm
  ctv := ctv
  T := {
    lk := ⟨od, sl, lI⟩
    cd := cI
    cl := ⟨cc, _, rfl, lc, rfl⟩
    hd := hh
    fl := ⟨_, vs, file, tf, lco, rfl, hvs, hfile⟩
    ks := ks
    kc := kc
    ka := ka
    top := top
    no := PySem.W.mg_none_of X G no
    op := op
    ox := {
      cls := ⟨nm, q, N, bs, pre ++ bmB, sn, sub, ab, col, dd, k0, k1, k2, k3, k5, lC, ht⟩
      ov := ov_at lC ht
      sa := sa
      ga := ga
      gt := gt
      ex := (mro_at lC _).trans (congrArg some (mro_ty ht h1))
      ty := congrArg (Option.map fun o : Obj => o.cls) lC
      kp := kp
      cl := cl
      ob := (mro_at lC _).trans (congrArg some (mro_ty ht h3)) }
    su := su
    sb := (mro_at lC _).trans (congrArg some (mro_ty ht h2))
    mr := (mro_at lC _).trans (by rw [List.contains_cons, beq_self_eq_true, Bool.true_or]) }
  iC := aI
  tI := congrArg (Option.map fun o : Obj => o.cls) lI
  g := PySem.W.mg_of X G aC
  har := har
  lk := ⟨q, N, bs, sn, sub, ab, col, dd, k0, k1, k2, k3, k5, lC⟩
/-- an own error and the fields that its class lacks -/
structure ErW (P : Program) (K : PySem.W.Frag) (mg : Str → Option Value) (B newId initId : String) (bmB pre : List Value) (st : Stmt) (nm qual : Str) (fl : List Str) where
  e : Er P K mg B newId initId bmB pre st nm qual
  no : ∀ x ∈ fl, PySem.W.findIn K (.ref e.C) x = some none
def erw1 (X : K.In h) (G : h.Ns mainGlobals mg) {C f c cc : Addr} {od cld cdd : Option Addr} {sl csl ccs : Array (Option Value)} {doc pm ctv clc ccl : Value} {vs : Array Value} {file : Str} {tf : Tok} {ar : Arg}
    {q : Str} {N : Addr} {bs : List Value} {sn : List Str} {sub : List Value} {ab : Bool} {col : Option Bool} {dd : Option Addr} {k0 k1 k2 k3 k5 : Option Value}
    (op : PySem.W.nsIn K cStatics "thirdparty.any" = some none) (no : PySem.W.nsIn K mainGlobals "super" = some none)
    (h1 : bmB.contains (.type "BaseException") = true) (h2 : bmB.contains (.type B) = true) (h3 : bmB.contains (.type "object") = true)
    (ht : PySem.W.excTail bmB (pre ++ bmB) = true)
    (hh : ((defArgs st).posonlyargs ++ (defArgs st).args).head? = some ar) (har : ar.arg = "self")
    (ks : (defScope st).names.lookup ("super" : Str) = some .globalImplicit) (kc : (defScope st).names.lookup ("__class__" : Str) = some .free) (ka : (defScope st).names.lookup ar.arg = some .local)
    (top : (P.main.scope.names.lookup ("super" : Str)).isSome = false)
    (aC : PySem.W.nsIn K mainGlobals nm = some (some (.ref C)))
    (lC : K.lookup C = some (excClassObj nm q C N bs (pre ++ bmB) true sn sub ab col dd k0 k1 k2 k3 k5 newId))
    (aI : PySem.W.findIn K (.ref C) "__init__" = some (some (.ref f)))
    (lI : K.lookup f = some ⟨.type "function", od, .func (PySem.W.fnX "__init__" qual (defArgs st) (defBody st) (defScope st) [(("__class__" : Str), cc)] .none .none doc pm none (.ref c) ctv), sl⟩)
    (cI : PySem.W.codeIn K (.ref c) qual = true)
    (lc : K.lookup cc = some ⟨clc, cld, .cell (some (.ref C)), csl⟩)
    (lco : K.lookup c = some ⟨ccl, cdd, .fields vs, ccs⟩)
    (sa : PySem.W.findIn K (.ref C) "__setattr__" = some (some (.builtin "object.__setattr__")))
    (ga : PySem.W.findIn K (.ref C) "__getattribute__" = some (some (.builtin "BaseException.__getattribute__")))
    (gt : PySem.W.findIn K (.ref C) "__getattr__" = some none)
    (kp : PySem.W.keepIn K (.ref C) = true)
    (cl : PySem.W.findIn K (.ref C) "__class__" = some (some (.builtin "object.__class__")))
    (su : PySem.W.ks_superIn K C C "__init__" = some (some (.builtin initId)))
    (hvs : vs[2]? = some (.str file tf)) (hfile : ((P.main.file : Str) == file) = true) {f1 : Str} (x1 : PySem.W.findIn K (.ref C) f1 = some none) : ErW P K mg B newId initId bmB pre st nm qual [f1] :=
  ⟨er_mk (C := C) X G op no h1 h2 h3 ht hh har ks kc ka top aC lC aI lI cI lc lco sa ga gt kp cl su hvs hfile, fun x hx => by
    rcases List.mem_cons.mp hx with rfl | e
    · exact x1
    · cases e⟩
def erw2 (X : K.In h) (G : h.Ns mainGlobals mg) {C f c cc : Addr} {od cld cdd : Option Addr} {sl csl ccs : Array (Option Value)} {doc pm ctv clc ccl : Value} {vs : Array Value} {file : Str} {tf : Tok} {ar : Arg}
    {q : Str} {N : Addr} {bs : List Value} {sn : List Str} {sub : List Value} {ab : Bool} {col : Option Bool} {dd : Option Addr} {k0 k1 k2 k3 k5 : Option Value}
    (op : PySem.W.nsIn K cStatics "thirdparty.any" = some none) (no : PySem.W.nsIn K mainGlobals "super" = some none)
    (h1 : bmB.contains (.type "BaseException") = true) (h2 : bmB.contains (.type B) = true) (h3 : bmB.contains (.type "object") = true)
    (ht : PySem.W.excTail bmB (pre ++ bmB) = true)
    (hh : ((defArgs st).posonlyargs ++ (defArgs st).args).head? = some ar) (har : ar.arg = "self")
    (ks : (defScope st).names.lookup ("super" : Str) = some .globalImplicit) (kc : (defScope st).names.lookup ("__class__" : Str) = some .free) (ka : (defScope st).names.lookup ar.arg = some .local)
    (top : (P.main.scope.names.lookup ("super" : Str)).isSome = false)
    (aC : PySem.W.nsIn K mainGlobals nm = some (some (.ref C)))
    (lC : K.lookup C = some (excClassObj nm q C N bs (pre ++ bmB) true sn sub ab col dd k0 k1 k2 k3 k5 newId))
    (aI : PySem.W.findIn K (.ref C) "__init__" = some (some (.ref f)))
    (lI : K.lookup f = some ⟨.type "function", od, .func (PySem.W.fnX "__init__" qual (defArgs st) (defBody st) (defScope st) [(("__class__" : Str), cc)] .none .none doc pm none (.ref c) ctv), sl⟩)
    (cI : PySem.W.codeIn K (.ref c) qual = true)
    (lc : K.lookup cc = some ⟨clc, cld, .cell (some (.ref C)), csl⟩)
    (lco : K.lookup c = some ⟨ccl, cdd, .fields vs, ccs⟩)
    (sa : PySem.W.findIn K (.ref C) "__setattr__" = some (some (.builtin "object.__setattr__")))
    (ga : PySem.W.findIn K (.ref C) "__getattribute__" = some (some (.builtin "BaseException.__getattribute__")))
    (gt : PySem.W.findIn K (.ref C) "__getattr__" = some none)
    (kp : PySem.W.keepIn K (.ref C) = true)
    (cl : PySem.W.findIn K (.ref C) "__class__" = some (some (.builtin "object.__class__")))
    (su : PySem.W.ks_superIn K C C "__init__" = some (some (.builtin initId)))
    (hvs : vs[2]? = some (.str file tf)) (hfile : ((P.main.file : Str) == file) = true) {f1 f2 : Str} (x1 : PySem.W.findIn K (.ref C) f1 = some none) (x2 : PySem.W.findIn K (.ref C) f2 = some none) : ErW P K mg B newId initId bmB pre st nm qual [f1, f2] :=
  ⟨er_mk (C := C) X G op no h1 h2 h3 ht hh har ks kc ka top aC lC aI lI cI lc lco sa ga gt kp cl su hvs hfile, fun x hx => by
    rcases List.mem_cons.mp hx with rfl | e
    · exact x1
    · rcases List.mem_cons.mp e with rfl | e
      · exact x2
      · cases e⟩
end
/-! ### raise of an own error -/
section
variable {P : Program} {K : PySem.W.Frag} {mg : Str → Option Value} {G : Addr} {st : Stmt} {nm qual : Str}
theorem oex_of (T : Er P K mg "ValueError" "ValueError.__new__" "ValueError.__init__" [.type "ValueError", .type "Exception", .type "BaseException", .type "object"] [.ref G] st nm qual) : OexC K T.C := by
  obtain ⟨q, N, bs, sn, sub, ab, col, dd, k0, k1, k2, k3, k5, lk⟩ := T.lk
  exact ⟨⟨nm, q, N, bs, _, sn, sub, ab, col, dd, k0, k1, k2, k3, k5, lk, rfl⟩, T.T.ox.sa, T.T.ox.ex, T.T.ox.ty, T.T.ox.kp⟩
theorem xfc_of {B newId initId : String} {bmB pre : List Value} (T : Er P K mg B newId initId bmB pre st nm qual) : XfC K T.C := ⟨T.T.ox.ga, T.T.ox.gt, T.T.ox.ex, T.T.ox.has.1⟩
/-- what the making of an error asks, ahead of its raise -/
theorem mk_use {H1 : Hp} {C : Addr} {n : Nat} {fF : List V → List (Str × V)} {vs : List V} {R : Value → Option Addr → Hp → Prop} (hn : vs.length = n) (h0 : n ≤ 1000) (k : ∀ d Hf, H1 d = none → Same H1 Hf → Hf d = some (.xd (fF vs)) → R (.ref C) (some d) Hf) :
    vs.length ≤ 1000 ∧ ∀ a, H1 a = none → spIni C n fF (.ref a :: (vs ++ [])) (upd H1 a (exo a C none)) (fun v H2 => v = .non ∧ ∃ (d : Addr) (fs : List (Str × V)), H2 a = some (exo a C (some d)) ∧ H2 d = some (exd d fs) ∧ H1 d = none ∧ R (.ref C) (some d) (upd (del H2 a) d (.xd fs))) (fun _ _ _ => False) := by
  refine ⟨by omega, fun a na => ?_⟩
  rw [List.append_nil]
  refine ⟨a, vs, rfl, hn, upd_same, fun d H2 M => ?_⟩
  obtain ⟨m1, m2, m3, m4, m5⟩ := M
  have hd : H1 d = none := by
    rw [upd_ne m2] at m1
    exact m1
  refine ⟨rfl, d, _, m3, m4, hd, k d _ hd (fun b o z => ?_) upd_same⟩
  have hb : b ≠ a := ne_of_none z na
  rw [upd_ne (ne_of_none z hd), del_ne hb]
  exact m5 b o hb ((upd_ne hb).trans z)
end
/-! ### raise of an own error that takes no arguments
By the statements of call_own, FnOk.run and mk_end; the first two are met in the order in which the model makes an object, as in every rule of this kind. -/
section
variable {X : Cx} {pins : List (Addr × Obj)} {σ : L2.St} {H : Hp} {s : Shared} {C : Addr}
/-- an error just made, with nothing in it -/
def bare (C : Addr) (h : Heap) : Heap := (h.push (PySem.W.kdv_tup [])).push (PySem.HandSPX.excO C h.objs.size)
theorem bare_keeps {h : Heap} : ∀ b o, h.get? b = some o → (bare C h).get? b = some o := by
  intro b o z
  unfold bare
  apply Heap.get?_push_of_some
  apply Heap.get?_push_of_some
  exact z
theorem bare_at {h : Heap} : (bare C h).get? (h.objs.size + 1) = some (PySem.HandSPX.excO C h.objs.size) := by
  have z := Heap.get?_push_size (h.push (PySem.W.kdv_tup [])) (o := PySem.HandSPX.excO C h.objs.size) rfl
  rwa [Heap.size_push] at z
theorem bare_inv (I : Inv X pins σ H s) : Inv X pins σ (upd H (s.heap.objs.size + 1) (exo (s.heap.objs.size + 1) C none)) { s with heap := bare C s.heap } := by
  have ok : ObjOk X.prog X.w (upd H (s.heap.objs.size + 1) (exo (s.heap.objs.size + 1) C none)) (bare C s.heap) (s.heap.objs.size + 1) (exo (s.heap.objs.size + 1) C none) := exo_ok bare_at
  exact I.laid (t' := s.toks) bare_keeps (Nat.le_succ _) ok
/-- what is told of the raise: a table of fields at a new place, the rest as before -/
def ToldE (C : Addr) (fs : List (Str × V)) : L2.St → Hp → XK → Prop := fun _ H Q => ∀ d G, H d = none → Same H G → G d = some (.xd fs) → Q (.ref C) (some d) G
theorem told_end {fs : List (Str × V)} {Q : XK} {a d : Addr} {G : Hp} (na : H a = none) (q : ToldE C fs σ H Q) (m : Made (upd H a (exo a C none)) G a C d fs) : H d = none ∧ Q (.ref C) (some d) (upd (del G a) d (.xd fs)) := by
  have free : H d = none := (upd_ne m.2.1).symm.trans m.1
  refine ⟨free, q d _ free ?_ upd_same⟩
  intro b o z
  have nb := ne_of_none z na
  calc (upd (del G a) d (.xd fs)) b = del G a b := upd_ne (ne_of_none z free)
    _ = G b := del_ne nb
    _ = some o := m.2.2.2.2 b o nb ((upd_ne nb).trans z)
theorem pmkE0 {B newId initId : String} {bmB : List Value} {CX : CXT} {x : Str} {fI : Addr} {k : Nat} {fd : FuncData} {ps : List Str} {fF : List V → List (Str × V)} {p pos : Pos} (E : ErB B newId initId bmB) (T : ErC X.K C newId bmB)
    (iC : PySem.W.findIn X.K (.ref C) "__init__" = some (some (.ref fI))) (tI : PySem.W.typeIn X.K (.ref fI) = some (.type "function")) (ini : FnOk X.prog X.w X.K X.mg X.base CX k fI fd ps (spIni C 0 fF)) (room : Room (k + 1) X.A)
    (binds : Binds X.K fd ps []) (none : Vals [] []) (never : Passes CX X (fun _ _ _ => False)) (gl : Gl X x) (named : X.mg x = some (.ref C)) (plain : (x == ("__debug__" : Str)) = false := by decide) : PMk X (.Call (.Name x p) [] [] pos) (ToldE C (fF [])) := by
  intro pins s σ H Q I q
  apply wpAny_Call_Name_kw
  refine ld_glob I gl named ?_ plain
  refine PySem.W.callWith_K0 I.kIn T.kp (wpAny_call ?_)
  have J := bare_inv (C := C) I
  have na : H (s.heap.objs.size + 1) = .none := I.hok.fresh (Nat.le_succ _)
  -- the initializer, at the bare error
  have asked : spIni C 0 fF [.ref (s.heap.objs.size + 1)] (upd H (s.heap.objs.size + 1) (exo (s.heap.objs.size + 1) C .none)) (fun v G => v = .non ∧ ∃ d, Made (upd H (s.heap.objs.size + 1) (exo (s.heap.objs.size + 1) C .none)) G (s.heap.objs.size + 1) C d (fF [])) (fun _ _ _ => False) := ⟨_, [], rfl, rfl, upd_same, fun d G m => ⟨rfl, d, m⟩⟩
  have one : Vals [V.ref (s.heap.objs.size + 1)] [Value.ref (s.heap.objs.size + 1)] := .cons rfl .nil
  have count : ([Value.ref (s.heap.objs.size + 1)] ++ []).length = ps.length := (ini.len _ _ _ _ asked)
  have ran := ini.run _ X.stack _ _ ⟨[.ref (s.heap.objs.size + 1)], []⟩ _ _ _ _ (room.make C [] []) (J.env0.make C [] []) (binds _ [.ref (s.heap.objs.size + 1)] J.kIn count) one asked
  obtain ⟨_, _, _, _, bm, _, _, _, _, _, _, _, _, _, _, hC, hbm⟩ := T.cls
  refine PySem.HandSPX.call_own (rest := []) E.fb (fun Y => PySem.W.excTail_contains Y bm hbm) (I.kIn _ _ hC) (PySem.W.looks_findIn I.kIn iC) (fun self => PySem.W.bind_fn I.kIn self tI) (Nat.zero_le _) (codeAny_mono ran ?_)
  intro r s' back
  cases r with
  | error er => exact never pins σ _ _ er s' J back
  | ok f =>
    cases f with
    | ret u =>
      obtain ⟨v, G, os', bare', un, hok, rv, rfl, d, m⟩ := back
      obtain ⟨free, q'⟩ := told_end na q m
      exact ⟨rv, mk_end (raises_own T.ex T.ty) I (Nat.le_succ _) bare_keeps un hok os' bare' m.2.2.1 m.2.2.2.1 free q'⟩
    | _ => exact back.elim
end
theorem sq_nn (x : Int) : 0 ≤ x * x := by
  rcases Int.le_total 0 x with h | h
  · exact Int.mul_nonneg h h
  · exact Int.mul_nonneg_of_nonpos_of_nonpos h h
theorem sq_le {x y : Int} (h0 : 0 ≤ x) (h : x ≤ y) : x * x ≤ y * y := Int.mul_le_mul h h h0 (Int.le_trans h0 h)
theorem sq_lt {x y : Int} (h0 : 0 ≤ x) (h : x < y) : x * x < y * y := by
  have h1 : (x + 1) * (x + 1) ≤ y * y := sq_le (by omega) (by omega)
  grind
theorem lt_of_sq {x y : Int} (h0 : 0 ≤ y) (h : x * x < y * y) : x < y := by
  rcases Int.lt_or_le x y with z | z
  · exact z
  · have := sq_le h0 z
    omega
theorem le_of_sq {x y : Int} (h0 : 0 ≤ y) (h : x * x ≤ y * y) : x ≤ y := by
  rcases Int.lt_or_le y x with z | z
  · have := sq_lt h0 z
    omega
  · exact z
/-- Newton's step from above -/
theorem newton_up {g n : Int} (hg : 0 < g) (hn : 0 ≤ n) : n < ((g + n / g) / 2 + 1) * ((g + n / g) / 2 + 1) := by
  have hq : 0 ≤ n / g := Int.ediv_nonneg hn (by omega)
  have h1 : n < g * (n / g + 1) := by
    have := Int.lt_ediv_add_one_mul_self n hg
    grind
  generalize n / g = q at hq h1 ⊢
  have h2 : g + q + 1 ≤ 2 * ((g + q) / 2 + 1) := by omega
  generalize (g + q) / 2 = r at h2 ⊢
  have h3 := sq_nn (g - (q + 1))
  have h4 := sq_le (show 0 ≤ g + q + 1 by omega) h2
  grind
theorem newton_dn {g n : Int} (hg : 0 < g) (h : n < g * g) : (g + n / g) / 2 < g := by
  have h1 : n / g < g := Int.ediv_lt_of_lt_mul hg h
  omega
theorem newton_nn {g n : Int} (hg : 0 < g) (hn : 0 ≤ n) : 0 ≤ (g + n / g) / 2 := by
  have hq : 0 ≤ n / g := Int.ediv_nonneg hn (by omega)
  omega
/-- no root times a square is a square -/
theorem no_square {d k : Int} (hk : 0 ≤ k) (h1 : k * k < d) (h2 : d < (k + 1) * (k + 1)) : ∀ (n : Nat) (b w : Int), 0 < b → 0 ≤ w → b.toNat ≤ n → w * w ≠ d * b * b
  | 0, b, w, hb, _, hn => by omega
  | n + 1, b, w, hb, hw, hn => fun e => by
    have hbb : 0 < b * b := Int.mul_pos hb hb
    have l1 : (k * b) * (k * b) < w * w := by
      have := Int.mul_lt_mul_of_pos_right h1 hbb
      grind
    have l2 : w * w < ((k + 1) * b) * ((k + 1) * b) := by
      have := Int.mul_lt_mul_of_pos_right h2 hbb
      grind
    have m1 : k * b < w := lt_of_sq hw l1
    have m2 : w < (k + 1) * b := lt_of_sq (Int.mul_nonneg (by omega) (by omega)) l2
    have m3 : w - k * b < b := by grind
    refine no_square hk h1 h2 n (w - k * b) (d * b - k * w) (by omega) ?_ (by omega) (by grind)
    have : (k * w) * b ≤ (d * b) * b := by
      have z := Int.mul_le_mul_of_nonneg_right (Int.le_of_lt m1) hw
      grind
    have z : k * w ≤ d * b := Int.le_of_mul_le_mul_right this hb
    omega
/-! ### defs with defaults, methods by keywords -/
inductive Dflt (K : PySem.W.Frag) (r : Addr) : Prop
  | mk {y1 y2 : Addr} {d e f : Option Addr} {m n o : Nat} {s t u : Array (Option Value)} {v w x y : Tok} (a : K.lookup r = some ⟨.type "tuple", d, .seq #[.ref y1, .ref y2] m, s⟩)
      (b : K.lookup y1 = some ⟨.type "tuple", e, .seq #[.int 0 v, .int 0 w] n, t⟩) (c : K.lookup y2 = some ⟨.type "tuple", f, .seq #[.int 0 x, .int 0 y] o, u⟩) : Dflt K r
section
variable {K : PySem.W.Frag} {f T D : Addr} {oc tc u : Value} {od td : Option Addr} {fd : FuncData} {sl ts : Array (Option Value)} {tn : Nat} {its : Array Value} {ps : List Str} {x : Str}
theorem bd_given (l : K.lookup f = some ⟨oc, od, .func fd, sl⟩) (t : K.lookup T = some ⟨tc, td, .seq its tn, ts⟩) (h : ∀ us : List Value, us.length = ps.length → ∃ k, bindArgs fd ⟨us, []⟩ = seqItems? (.ref T) >>= k ∧ k (some its) = pure (ps.zip us)) : Binds K fd ps [] := fun s us X hl => by
  rw [List.append_nil] at hl ⊢
  obtain ⟨k, e1, e2⟩ := h us hl
  refine BindsTo.of_looks fun M => ?_
  rw [e1]
  exact looks_items X t rfl (.of_pure e2)
theorem bd_dflt {v : Value} (l : K.lookup f = some ⟨oc, od, .func fd, sl⟩) (t : K.lookup T = some ⟨tc, td, .seq #[v] tn, ts⟩) (h : ∀ us : List Value, us.length + 1 = ps.length → ∃ k, bindArgs fd ⟨us, []⟩ = seqItems? (.ref T) >>= k ∧ k (some #[v]) = pure (ps.zip (us ++ [v]))) : Binds K fd ps [v] := fun s us X hl => by
  rw [List.length_append] at hl
  obtain ⟨k, e1, e2⟩ := h us hl
  refine BindsTo.of_looks fun M => ?_
  rw [e1]
  exact looks_items X t rfl (.of_pure e2)
theorem bd_kw (l : K.lookup f = some ⟨oc, od, .func fd, sl⟩) (kd : PySem.W.nsIn K D x = some (some u)) (h : ∀ us : List Value, us.length + 1 = ps.length → KwChain D [(x, u)] (bindArgs fd ⟨us, []⟩) (ps.zip (us ++ [u]))) : Binds K fd ps [u] := fun s us X hl => by
  rw [List.length_append] at hl
  refine BindsTo.of_looks fun M => ?_
  refine KwChain.looks X ?_ (h us hl)
  intro q hq
  rcases List.mem_cons.mp hq with e | e
  · rw [e]
    exact kd
  · cases e
end
section
variable {X : Cx} {CX : CXT} {k : Nat} {f C : Addr} {fd : FuncData} {ps ks : List Str} {sp : Sp} {E : XK} {m : Str} {pos apos : Pos} {o : Expr} {kws : List Keyword} {ta : TE} {tk : TA}
theorem pe_methK0 {pl : Sem Bool} {g : List Value → List Value → List Value} {gV : List V → List V → List V} (he : PE X o ta) (c : Cls X.K C) (hm : Meth X.K C m f) (F : FnOk X.prog X.w X.K X.mg X.base CX k f fd ps sp) (hr : Room k X.A) (hb : KBn X.K fd ps 1 ks g gV) (hx : Passes CX X E) (hkw : PK X kws tk)
    (hall : (backToKw pos (keywordEach kws X.env)).all (·.1.isSome) = true := by rfl)
    (hks : (backToKw pos (keywordEach kws X.env)).filterMap (·.1) = ks := by rfl)
    (hpl : ((backTo pos (starEach [] X.env)).any (·.1) || (backToKw pos (keywordEach kws X.env)).any (·.1.isNone)) = false := by rfl)
    (ht : eval (.Call (.Attribute o m apos) [] kws pos) X.env = (do
      let ov ← eval o X.env
      standAt apos.atName
      let (f, first) ← holding [ov] (getMethod ov m pl)
      callWith pos f first (backTo pos (starEach [] X.env)) (backToKw pos (keywordEach kws X.env))) := by rfl) :
    PE X (.Call (.Attribute o m apos) [] kws pos) (fun σ H Q => ta σ H fun x H1 => ∃ a dx fs, x = .ref a ∧ H1 a = some (.ins C dx fs) ∧ fs.lookup m = none ∧ tk σ H1 fun zs H2 => zs.length = ks.length ∧ sp (gV [.ref a] zs) H2 Q E) := by
  refine ⟨fun pins s σ H Q I h => ?_⟩
  refine PySem.W.methodCall_KW (pl := pl) (thn (he.run pins s σ H _ I h) fun u s1 ⟨x, H1, I1, rx, a, dx, fs, ex, ea, l, q⟩ => ?_) ht
  subst ex
  obtain rfl : u = Value.ref a := rx
  refine getmeth_ok I1 ea c hm l ?_
  refine PySem.W.callWith_KW0 (first := [.ref a]) (h₀ := X.base) I.ok.mod.kin hm.kp hall ?_ hpl
  refine thn (hkw.run pos pins s1 σ H1 _ I1 q) fun ws s2 ⟨zs, H2, I2, rz, l2, q2⟩ => ⟨I2.kIn, ?_⟩
  rw [hks]
  exact run_fnN (us := [.ref a]) (vs := [.ref a]) F hr hb hx I2 (.cons rfl .nil) rz rfl l2 q2
end
/-! ### operators of an own class -/
section
variable {X : Cx} {CX : CXT} {n : Nat} {C g : Addr} {fd : FuncData} {ps : List Str} {sp : Sp} {E : XK}
theorem inst_of {pins : List (Addr × Obj)} {σ : L2.St} {H : Hp} {s : Shared} {a dx : Addr} {fs : List (Str × V)} (I : Inv X pins σ H s) (ha : H a = some (.ins C dx fs)) : ∃ ox od, PySem.W.InstAt s.heap a ox C od := by
  obtain ⟨mA, J, _⟩ := ins_get I.hok ha
  obtain ⟨od, J, _⟩ := J.look
  exact ⟨_, _, J⟩
/-- x op y of two instances -/
def rOwn2 (C : Addr) (sp : Sp) (E : XK) : R2 := fun x y H Q => ∃ a dx fs b dy gs, x = .ref a ∧ y = .ref b ∧ H a = some (.ins C dx fs) ∧ H b = some (.ins C dy gs) ∧ sp [x, y] H Q E
theorem op_bin {op : Operator} {nm : Str} (m : Meth X.K C nm g) (sf : PySem.W.selfFirst X.K C = true) (F : FnOk X.prog X.w X.K X.mg X.base CX n g fd ps sp) (hr : Room n X.A) (hb : Binds X.K fd ps []) (hx : Passes CX X E)
    (hn : PySem.dunder op.info.2 = nm := by decide +kernel) : OpR X (binaryOp op) (rOwn2 C sp E) := by
  intro pins s σ H x y v u Q I rx ry h
  obtain ⟨a, dx, fs, b, dy, gs, rfl, rfl, ha, hb', q⟩ := h
  cases (show v = Value.ref a from rx)
  cases (show u = Value.ref b from ry)
  obtain ⟨ox, od, J⟩ := inst_of I ha
  obtain ⟨oy, od', J'⟩ := inst_of I hb'
  obtain ⟨mm, hF⟩ := I.fr
  refine PySem.W.binop_K (op := op) hF I.ok.mod.kin J J'.type sf (by rw [hn]; exact m.at_) m.fn ?_
  refine wpAny_mono (run_fn (us := [.ref a, .ref b]) (vs := [.ref a, .ref b]) F hr hb .nil hx I (.cons rfl (.cons rfl .nil)) q) (fun w s' z => ?_) fun _ _ x => x
  obtain ⟨z', H', I', rz, qz⟩ := z
  exact SlX.cmpback rz ⟨z', H', I', rz, qz⟩
/-- x op i -/
def rOwnI (C : Addr) (sp : Sp) (E : XK) : R2 := fun x y H Q => ∃ a dx fs i, x = .ref a ∧ y = .int i ∧ H a = some (.ins C dx fs) ∧ sp [x, y] H Q E
theorem op_binI {op : Operator} {nm nr : Str} {fo ro : Option Value} (m : Meth X.K C nm g) (sf : PySem.W.selfFirst X.K C = true) (h0 : PySem.W.findIn X.K (.ref C) nr = some none) (h1 : PySem.W.findIn X.K (.type "int") nm = some fo) (h2 : PySem.W.findIn X.K (.type "int") nr = some ro)
    (h3 : PySem.W.subIn X.K (.type "int") (.ref C) = some false) (F : FnOk X.prog X.w X.K X.mg X.base CX n g fd ps sp) (hr : Room n X.A) (hb : Binds X.K fd ps []) (hx : Passes CX X E)
    (hn : PySem.dunder op.info.2 = nm := by decide +kernel) (hq : PySem.dunderR op.info.2 = nr := by decide +kernel) : OpR X (binaryOp op) (rOwnI C sp E) := by
  intro pins s σ H x y v u Q I rx ry h
  obtain ⟨a, dx, fs, i, rfl, rfl, ha, q⟩ := h
  cases (show v = Value.ref a from rx)
  obtain ⟨t, e⟩ := (show ∃ t, u = Value.int i t from ry)
  cases e
  obtain ⟨ox, od, J⟩ := inst_of I ha
  obtain ⟨mm, hF⟩ := I.fr
  refine PySem.W.ksp_binT (op := op) (T := "int") hF I.ok.mod.kin J rfl sf (by rw [hn]; exact m.at_) m.fn (by rw [hq]; exact h0) (.inl rfl) (by rw [hn]; exact h1) (by rw [hq]; exact h2) h3 ?_
  refine wpAny_mono (run_fn (us := [.ref a, .int i t]) (vs := [.ref a, .int i]) F hr hb .nil hx I (.cons rfl (.cons ⟨t, rfl⟩ .nil)) q) (fun w s' z => ?_) fun _ _ x => x
  obtain ⟨z', H', I', rz, qz⟩ := z
  exact SlX.cmpback rz ⟨z', H', I', rz, qz⟩
/-- -x -/
def rOwn1 (C : Addr) (sp : Sp) (E : XK) : V → Hp → VK → Prop := fun x H Q => ∃ a dx fs, x = .ref a ∧ H a = some (.ins C dx fs) ∧ sp [x] H Q E
theorem un_own (m : Meth X.K C "__neg__" g) (F : FnOk X.prog X.w X.K X.mg X.base CX n g fd ps sp) (hr : Room n X.A) (hb : Binds X.K fd ps []) (hx : Passes CX X E) : UnR X (unaryOp .USub) (rOwn1 C sp E) := by
  intro pins s σ H x v Q I rx h
  obtain ⟨a, dx, fs, rfl, ha, q⟩ := h
  cases (show v = Value.ref a from rx)
  obtain ⟨ox, od, J⟩ := inst_of I ha
  obtain ⟨mm, hF⟩ := I.fr
  exact PySem.W.ksp_neg hF I.ok.mod.kin J m.at_ m.fn (run_fn (us := [.ref a]) (vs := [.ref a]) F hr hb .nil hx I (.cons rfl .nil) q)
/-- x == y, y anything whose class does not come first -/
def rOwnE (K : PySem.W.Frag) (C : Addr) (sp : Sp) (E : XK) : R2 := fun x y H Q => ∃ a dx fs tb, x = .ref a ∧ H a = some (.ins C dx fs) ∧ TyX K H y tb ∧ PySem.W.notFirst K C tb = true ∧ sp [x, y] H Q E
theorem op_eqO2 (m : Meth X.K C "__eq__" g) (F : FnOk X.prog X.w X.K X.mg X.base CX n g fd ps sp) (hr : Room n X.A) (hb : Binds X.K fd ps []) (hx : Passes CX X E) : OpR X (compareOp .Eq) (rOwn2 C sp E) := by
  intro pins s σ H x y v u Q I rx ry h
  obtain ⟨a, dx, fs, b, dy, gs, rfl, rfl, ha, hb', q⟩ := h
  cases (show v = Value.ref a from rx)
  cases (show u = Value.ref b from ry)
  obtain ⟨ox, od, J⟩ := inst_of I ha
  obtain ⟨oy, od', J'⟩ := inst_of I hb'
  obtain ⟨mm, hF⟩ := I.fr
  show wpAny _ _ (richCompare .Eq (.ref a) (.ref b)) _ _ s
  refine PySem.W.cmp_K (op := .Eq) (tb := .ref C) hr.units0 hF I.ok.mod.kin J J'.type (by simp [PySem.W.notFirst]) m.at_ m.fn ?_
  refine wpAny_mono (run_fn (us := [.ref a, .ref b]) (vs := [.ref a, .ref b]) F hr hb .nil hx I (.cons rfl (.cons rfl .nil)) q) (fun w s' z => ?_) fun _ _ x => x
  obtain ⟨z', H', I', rz, qz⟩ := z
  exact SlX.cmpback rz ⟨z', H', I', rz, qz⟩
/-- below a built-in: the callee runs -/
theorem run_in {A : Around} {pins : List (Addr × Obj)} {σ : L2.St} {H : Hp} {s : Shared} {Q : VK} {us : List Value} {ws : List V} (F : FnOk X.prog X.w X.K X.mg X.base CX n g fd ps sp) (hr : Room n A) (e0 : Env0 X.prog X.w X.K X.mg X.base A X.stack s H) (hb : Binds X.K fd ps []) (hx : Passes CX X E) (I : Inv X pins σ H s) (r : Vals ws us) (h : sp ws H Q E) :
    wpAny (model X.prog X.w) A (call (.ref g) us) (EP X pins σ Q) X.xe s := by
  have hl : (us ++ []).length = ps.length := by rw [List.append_nil, ← r.length]; exact F.len _ _ _ _ h
  have b0 := hb s us I.kIn hl
  rw [List.append_nil] at b0
  refine wpAny_call (codeAny_mono (F.run A X.stack s H ⟨us, []⟩ us ws Q E hr e0 b0 r h) fun r s' hq => ?_)
  cases r with
  | error e => exact hx pins σ H s e s' I hq
  | ok fl =>
    cases fl with
    | ret u => exact I.after hq
    | next => exact False.elim hq
    | brk => exact False.elim hq
    | cont => exact False.elim hq
end
section
variable {prog : Program} {w : World} {A : Around} {E : Value → Shared → Prop} {s : Shared} {K : PySem.W.Frag} {x y C f : Addr} {ox : Obj} {od : Option Obj}
theorem ifBound_objNe {M : Model} {args : List Value} {Q : Option Value → Shared → Prop} (X : K.In s.heap) (I : PySem.W.InstAt s.heap x ox C od) (hs : PySem.W.findIn K (.ref C) "__ne__" = some (some (.builtin "object.__ne__")))
    (h : wpAny M A (call (.builtin "object.__ne__") (.ref x :: args)) (fun v => Q (some v)) E s) : wpAny M A (callSpecialIfBound? (.ref x) "__ne__" args) Q E s := by
  simp only [callSpecialIfBound?, bindSpecialIfBound?]
  refine wpAny_holding (wpAny_bind (wpAny_bind (wpAny_bind (I.type.here ((PySem.W.looks_findIn X hs).here ?_)))))
  refine wpAny_bind (wpAny_askSetting (wpAny_ite ?_))
  have fin : wpAny M A (call (.builtin "object.__ne__") ([.ref x] ++ args) >>= fun v => pure (some v)) Q E s := wpAny_bind (wpAny_mono h (fun v s' h' => wpAny_pure h') fun _ _ h' => h')
  split
  · exact wpAny_bind (wpAny_of_eq (F.cmp_object.ne.bind _) (wpAny_pure (by exact fin)))
  · exact wpAny_tryCatch (wpAny_bind (wpAny_of_eq (F.cmp_object.ne.bind _) (wpAny_pure (by exact fin))))
theorem ne_entry {b : Value} {Q : Fin → Shared → Prop} (hu : A.units < cLine) (X : K.In s.heap) (I : PySem.W.InstAt s.heap x ox C od) (hs : PySem.W.findIn K (.ref C) "__eq__" = some (some (.ref f))) (hf : PySem.W.isFn K (.ref f) = true)
    (h : wpAny (model prog w) A (call (.ref f) [.ref x, b]) (fun r s' => ∃ k, r = .bool k ∧ Q (.done (.ret (.bool (!k)))) s') E s) : wpAny (model prog w) A (Builtin.«object.__ne__» ⟨[.ref x, b], []⟩) Q E s := by
  unfold Builtin.«object.__ne__»
  refine wpAny_bind (wpAny_of_eq (a := (Value.ref x, [b])) rfl ?_)
  refine wpAny_bind (wpAny_cRoomFor hu ?_)
  refine wpAny_bind (PySem.W.ifBound_K X I hs hf (wpAny_mono h (fun r s' hr => ?_) fun _ _ z => z))
  obtain ⟨k, rfl, q⟩ := hr
  exact wpAny_bind (wpAny_truthy_bool (wpAny_pure q))
theorem call_objNe {b : Value} {Q : Value → Shared → Prop} (hu : A.in1.units < cLine) (X : K.In s.heap) (I : PySem.W.InstAt s.heap x ox C od) (hm : PySem.W.mroIn K C (.type "object") = some true) (hs : PySem.W.findIn K (.ref C) "__eq__" = some (some (.ref f))) (hf : PySem.W.isFn K (.ref f) = true)
    (h : wpAny (model prog w) A.in1 (call (.ref f) [.ref x, b]) (fun r s' => ∃ k, r = .bool k ∧ Q (.bool (!k)) s') E s) : wpAny (model prog w) A (call (.builtin "object.__ne__") [.ref x, b]) Q E s :=
  wpAny_call (codeAny_call_builtin F.cmp_object.ne.plain F.cmpEntry_ne (PySem.W.check_slot F.cmpKind_ne F.cmpSplit_ne (I.type.andThen (PySem.W.looks_mroIn X hm)) (F.cmpArgs_ne _ _) (ne_entry hu X I hs hf h)))
theorem rc_ne {oy : Obj} {od' : Option Obj} {Q : Value → Shared → Prop} (hu : A.in1.units < cLine) (hu0 : A.units < cLine) (X : K.In s.heap) (I : PySem.W.InstAt s.heap x ox C od) (J : PySem.W.InstAt s.heap y oy C od') (hm : PySem.W.mroIn K C (.type "object") = some true)
    (hn : PySem.W.findIn K (.ref C) "__ne__" = some (some (.builtin "object.__ne__"))) (hs : PySem.W.findIn K (.ref C) "__eq__" = some (some (.ref f))) (hf : PySem.W.isFn K (.ref f) = true)
    (h : wpAny (model prog w) A.in1 (call (.ref f) [.ref x, .ref y]) (fun r s' => ∃ k, r = .bool k ∧ Q (.bool (!k)) s') E s) : wpAny (model prog w) A (richCompare .NotEq (.ref x) (.ref y)) Q E s := by
  have one : wpAny (model prog w) A (tryCompare (.ref x) "__ne__" (.ref y)) (fun r s' => ∃ v, r = some v ∧ Q v s') E s := by
    unfold tryCompare
    refine wpAny_bind (ifBound_objNe X I hn (call_objNe hu X I hm hs hf (wpAny_mono h (fun r s' hr => ?_) fun _ _ e => e)))
    obtain ⟨k, rfl, q⟩ := hr
    exact ⟨k, rfl, wpAny_pure ⟨_, rfl, q⟩⟩
  unfold richCompare
  simp only [oneThing_ref]
  refine wpAny_holding (wpAny_bind (wpAny_cRoomFor hu0 ?_))
  refine wpAny_bind (I.type.here (wpAny_bind (J.type.here ?_)))
  simp only [bne_self_eq_false, Bool.false_eq_true, if_false]
  refine wpAny_bind (wpAny_pure ?_)
  simp only [Bool.false_eq_true, if_false]
  refine wpAny_bind (wpAny_mono one (fun r s' z => ?_) fun _ _ e => e)
  obtain ⟨v, rfl, hq⟩ := z
  exact wpAny_pure hq
theorem bool_own {Q : Value → Shared → Prop} (X : K.In s.heap) (I : PySem.W.InstAt s.heap x ox C od) (hs : PySem.W.findIn K (.ref C) "__bool__" = some (some (.ref f))) (hf : PySem.W.isFn K (.ref f) = true)
    (h : wpAny (model prog w) A.in1.in1 (call (.ref f) [.ref x]) (fun r s₁ => ∃ k, r = Value.bool k ∧ Q r s₁) E s) : wpAny (model prog w) A (call (.type "bool") [.ref x]) Q E s := by
  refine callType_codes (T := "bool") (Bi := Builtin.«object.__init__») (Q₁ := fun r s₁ => ∃ k, r = Value.bool k ∧ Q r s₁) PySem.F.called_bool (PySem.F.typeCall_bool_1 _) PySem.F.entry_object_init ?_ ?_
  · refine codeAny_of_tree ?_
    show wpAny _ A.in1.in1 (do checkBuiltinCall "bool.__new__" ⟨[.type "bool", .ref x], []⟩; again (.builtin "bool.__new__" ⟨[.type "bool", .ref x], []⟩)) _ _ s
    refine wpAny_bind (wpAny_of_eq (PySem.F.newCall_bool_1 _) (wpAny_pure ⟨plainId_quiet (by decide +kernel) _, codeAny_builtin PySem.F.entry_bool_new ?_⟩))
    rw [Around.under_plainId (by decide +kernel) _]
    have tr : wpAny (model prog w) A.in1.in1 (truthy (.ref x)) (fun k s₁ => Q (.bool k) s₁) E s := by
      unfold truthy
      refine wpAny_bind (m := callSpecial? (.ref x) (Str.ofString "__bool__")) (PySem.W.special_fn X I hs (beq_iff_eq.mp hf) (wpAny_mono h (fun r s' hr => ?_) fun _ _ y => y))
      obtain ⟨k, rfl, q⟩ := hr
      exact wpAny_pure q
    obtain ⟨hp, g, d, tk, os⟩ := s
    have f1 := F.conv_sub_bool
    repeat (any_goals (first | assumption | (with_reducible refine wpAny_mono tr (fun k s₁ q => ?_) fun _ _ z => z) | wp_step))
    all_goals first | exact ⟨_, rfl, q⟩ | skip
  · rintro obj s₁ ⟨k, rfl, hq⟩
    exact ⟨rfl, PySem.F.args_object_init_2 _ _, object_init_meets PySem.F.called_bool.init.lookup PySem.F.called_bool.made (by decide) prog w A.in1 _ s₁ ⟨rfl, rfl, hq⟩⟩
end
section
variable {X : Cx} {CX : CXT} {n : Nat} {C g : Addr} {fd : FuncData} {ps : List Str} {sp : Sp} {E : XK}
/-- x != y by the own == -/
def rOwnN (C : Addr) (sp : Sp) (E : XK) : R2 := fun x y H Q => ∃ a dx fs b dy gs, x = .ref a ∧ y = .ref b ∧ H a = some (.ins C dx fs) ∧ H b = some (.ins C dy gs) ∧ sp [x, y] H (fun z H' => ∃ k, z = .bl k ∧ Q (.bl (!k)) H') E
theorem op_neO2 (m : Meth X.K C "__eq__" g) (hm : PySem.W.mroIn X.K C (.type "object") = some true) (hn : PySem.W.findIn X.K (.ref C) "__ne__" = some (some (.builtin "object.__ne__"))) (F : FnOk X.prog X.w X.K X.mg X.base CX n g fd ps sp) (hr : Room (n + 1) X.A) (hb : Binds X.K fd ps []) (hx : Passes CX X E) :
    OpR X (compareOp .NotEq) (rOwnN C sp E) := by
  intro pins s σ H x y v u Q I rx ry h
  obtain ⟨a, dx, fs, b, dy, gs, rfl, rfl, ha, hb', q⟩ := h
  cases (show v = Value.ref a from rx)
  cases (show u = Value.ref b from ry)
  obtain ⟨ox, od, J⟩ := inst_of I ha
  obtain ⟨oy, od', J'⟩ := inst_of I hb'
  have hr1 : Room n X.A.in1 := Room.in1 hr
  show wpAny _ _ (richCompare .NotEq (.ref a) (.ref b)) _ _ s
  refine rc_ne hr1.units0 hr.units0 I.kIn J J' hm hn m.at_ m.fn ?_
  refine wpAny_mono (run_in (us := [.ref a, .ref b]) (ws := [.ref a, .ref b]) F hr1 I.env0.in1 hb hx I (.cons rfl (.cons rfl .nil)) q) (fun w s' z => ?_) fun _ _ x => x
  obtain ⟨z', H', I', rz, k, rfl, qz⟩ := z
  cases (show w = Value.bool k from rz)
  exact ⟨k, rfl, .bl (!k), H', I', rfl, qz⟩
/-- bool(x) -/
def rBoolO (C : Addr) (sp : Sp) (E : XK) : List V → Hp → VK → Prop := fun xs H Q => ∃ a dx fs, xs = [V.ref a] ∧ H a = some (.ins C dx fs) ∧ sp [.ref a] H (fun z H' => ∃ k, z = .bl k ∧ Q (.bl k) H') E
theorem call_boolO (m : Meth X.K C "__bool__" g) (F : FnOk X.prog X.w X.K X.mg X.base CX n g fd ps sp) (hr : Room (n + 2) X.A) (hb : Binds X.K fd ps []) (hx : Passes CX X E) : CallR X (.type "bool") (rBoolO C sp E) := by
  intro pins s σ H xs us Q I r h
  obtain ⟨a, dx, fs, rfl, ha, q⟩ := h
  obtain ⟨u, rfl, ru⟩ := r.one
  cases (show u = Value.ref a from ru)
  obtain ⟨ox, od, J⟩ := inst_of I ha
  have hr2 : Room n X.A.in1.in1 := (show Room (n + 1) X.A.in1 from Room.in1 hr).in1
  refine bool_own I.kIn J m.at_ m.fn (wpAny_mono (run_in (us := [.ref a]) (ws := [.ref a]) F hr2 I.env0.in1.in1 hb hx I (.cons rfl .nil) q) (fun w s' z => ?_) fun _ _ x => x)
  obtain ⟨z', H', I', rz, k, rfl, qz⟩ := z
  cases (show w = Value.bool k from rz)
  exact ⟨k, rfl, .bl k, H', I', rfl, qz⟩
/-- any(xs) of whole numbers -/
def rAnyI (K : PySem.W.Frag) : List V → Hp → VK → Prop := fun vs H Q => ∃ (a : Addr) (ns : List Int), vs = [V.ref a] ∧ SqL K H a (ns.map V.int) ∧ Q (.bl (ns.any fun i => i != 0)) H
theorem vals_ints : ∀ {ns : List Int} {us : List Value}, Vals (ns.map V.int) us → ∀ (i : Nat) (v : Value), us[i]? = some v → ∃ z t, ns[i]? = some z ∧ v = .int z t
  | [], us, h, i, v, hv => by
    rw [List.map_nil] at h
    cases h
    simp at hv
  | z :: ns, us, h, i, v, hv => by
    rw [List.map_cons] at h
    cases h with
    | cons r t =>
      obtain ⟨t', e⟩ := (show ∃ t, _ = Value.int z t from r)
      match i, hv with
      | 0, hv =>
        cases hv
        exact ⟨z, t', rfl, e⟩
      | i + 1, hv => exact vals_ints t i v (by simpa using hv)
theorem any_rangeI : ∀ ns : List Int, (List.range ns.length).any (fun i => ns.getD i 0 != 0) = ns.any fun i => i != 0
  | [] => rfl
  | b :: bs => by
    rw [List.length_cons, List.range_succ_eq_map, List.any_cons, List.any_map, List.any_cons, ← any_rangeI bs]
    all_goals rfl
theorem cr_anyI (hc : X.calm = true) : CallR X (.builtin "any") (rAnyI X.K) := by
  intro pins s σ H vs us Q I r h
  obtain ⟨a, ns, rfl, hs, q⟩ := h
  obtain ⟨its, rv, hl, _⟩ := I.list hs
  rw [Vals.ref1 r]
  refine call_any_walk (iter_any hl.isList fun s₂ e2 st hne => ?_)
  subst e2
  have tr : TruthOf X.prog X.w X.A.in1 (fun i v => its.toArray[i]? = some v) (fun i => ns.getD i 0 != 0) := fun i v s Q E hv hq => by
    obtain ⟨z, t, hz, rfl⟩ := vals_ints rv i v (by simpa using hv)
    have hg : ns.getD i 0 = z := by rw [List.getD_eq_getElem?_getD, hz] <;> rfl
    have hq' : Q (ns.getD i 0 != 0) s := hq
    rw [hg] at hq'
    exact P.truthy_int hq'
  refine ⟨_, _, _, _, _, _, _, rfl, Walks.list (A := X.A.in1) (I.ok.hd hc) _ a hne its.toArray, st, tr, fun h' tk hk => ?_⟩
  refine ⟨.bl _, H, I.kept fun b o eo => hk b o (fun hmem => ?_) (Heap.get?_push_of_some _ eo), ?_, q⟩
  · rcases List.mem_cons.mp hmem with e1 | hmem
    · exact absurd (e1 ▸ Heap.lt_size eo) (Nat.lt_irrefl _)
    · cases hmem
  · show Value.bool _ = Value.bool _
    have hlen := rv.length
    rw [List.length_map] at hlen
    rw [← any_rangeI, List.size_toArray, ← hlen]
end
/-! ### a default that is an empty tuple -/
inductive Dfl0 (K : PySem.W.Frag) (r : Addr) : Prop
  | mk {d : Option Addr} {m : Nat} {s : Array (Option Value)} (a : K.lookup r = some ⟨.type "tuple", d, .seq #[] m, s⟩) : Dfl0 K r
theorem Dfl0.sq {K : PySem.W.Frag} {H : Hp} {r : Addr} (h : Dfl0 K r) : SqT K H r [] := by
  obtain ⟨a⟩ := h
  exact .inr ⟨_, _, _, a, rfl, rfl, Nat.zero_le _, .nil⟩
def topS (i : Nat) : Stmt := PySem.Challenge.pw_grainyard_k34_heaps_with_a_table.main.body.getD i (.Pass ⟨0, 0, 0, 0⟩)
abbrev s_whole_root : Stmt := topS 15
theorem sc_whole_root : FnScope ["number", "guess"] ["number"] (defScope s_whole_root) := ⟨rfl, rfl, rfl, by decide +kernel, rfl, by decide +kernel, by decide +kernel⟩
abbrev s_is_root : Stmt := topS 16
theorem sc_is_root : FnScope ["number", "whole"] ["number"] (defScope s_is_root) := ⟨rfl, rfl, rfl, by decide +kernel, rfl, by decide +kernel, by decide +kernel⟩
abbrev s_check_root : Stmt := topS 17
theorem sc_check_root : FnScope ["root"] ["root"] (defScope s_check_root) := ⟨rfl, rfl, rfl, by decide +kernel, rfl, by decide +kernel, by decide +kernel⟩
abbrev s_sign : Stmt := topS 18
theorem sc_sign : FnScope ["pair", "root", "worth", "a", "b"] ["pair", "root"] (defScope s_sign) := ⟨rfl, rfl, rfl, by decide +kernel, rfl, by decide +kernel, by decide +kernel⟩
abbrev s_is_length : Stmt := topS 19
theorem sc_is_length : FnScope ["pair", "root"] ["pair", "root"] (defScope s_is_length) := ⟨rfl, rfl, rfl, by decide +kernel, rfl, by decide +kernel, by decide +kernel⟩
abbrev s_added : Stmt := topS 20
theorem sc_added : FnScope ["pairs", "a", "b"] ["pairs"] (defScope s_added) := ⟨rfl, rfl, rfl, by decide +kernel, rfl, by decide +kernel, by decide +kernel⟩
abbrev s_scaled : Stmt := topS 21
theorem sc_scaled : FnScope ["pair", "number", "a", "b"] ["pair", "number"] (defScope s_scaled) := ⟨rfl, rfl, rfl, by decide +kernel, rfl, by decide +kernel, by decide +kernel⟩
abbrev s_floor_of : Stmt := topS 22
theorem sc_floor_of : FnScope ["pair", "root", "whole", "a", "b"] ["pair", "root"] (defScope s_floor_of) := ⟨rfl, rfl, rfl, by decide +kernel, rfl, by decide +kernel, by decide +kernel⟩
abbrev s_Table_init : Stmt := inClass (topS 24) 0
theorem sc_Table_init : FnScope ["self", "rows", "t00", "t01", "t10", "t11"] ["self", "rows"] (defScope s_Table_init) := ⟨rfl, rfl, rfl, by decide +kernel, rfl, by decide +kernel, by decide +kernel⟩
abbrev s_Table_rows : Stmt := inClass (topS 24) 1
theorem sc_Table_rows : FnScope ["self"] ["self"] (defScope s_Table_rows) := ⟨rfl, rfl, rfl, by decide +kernel, rfl, by decide +kernel, by decide +kernel⟩
abbrev s_Table_area_for : Stmt := inClass (topS 24) 2
theorem sc_Table_area_for : FnScope ["self", "root", "t00", "t01", "t10", "t11"] ["self", "root"] (defScope s_Table_area_for) := ⟨rfl, rfl, rfl, by decide +kernel, rfl, by decide +kernel, by decide +kernel⟩
abbrev s_Table_add : Stmt := inClass (topS 24) 6
theorem sc_Table_add : FnScope ["self", "other", "upper", "lower", "other_upper", "other_lower"] ["self", "other"] (defScope s_Table_add) := ⟨rfl, rfl, rfl, by decide +kernel, rfl, by decide +kernel, by decide +kernel⟩
abbrev s_Table_sub : Stmt := inClass (topS 24) 7
theorem sc_Table_sub : FnScope ["self", "other"] ["self", "other"] (defScope s_Table_sub) := ⟨rfl, rfl, rfl, by decide +kernel, rfl, by decide +kernel, by decide +kernel⟩
abbrev s_Table_neg : Stmt := inClass (topS 24) 8
theorem sc_Table_neg : FnScope ["self"] ["self"] (defScope s_Table_neg) := ⟨rfl, rfl, rfl, by decide +kernel, rfl, by decide +kernel, by decide +kernel⟩
abbrev s_Table_mul : Stmt := inClass (topS 24) 9
theorem sc_Table_mul : FnScope ["self", "other", "upper", "lower"] ["self", "other"] (defScope s_Table_mul) := ⟨rfl, rfl, rfl, by decide +kernel, rfl, by decide +kernel, by decide +kernel⟩
abbrev s_Table_eq : Stmt := inClass (topS 24) 12
theorem sc_Table_eq : FnScope ["self", "other"] ["self", "other"] (defScope s_Table_eq) := ⟨rfl, rfl, rfl, by decide +kernel, rfl, by decide +kernel, by decide +kernel⟩
abbrev s_Table_bool : Stmt := inClass (topS 24) 13
theorem sc_Table_bool : FnScope ["self", "t00", "t01", "t10", "t11"] ["self"] (defScope s_Table_bool) := ⟨rfl, rfl, rfl, by decide +kernel, rfl, by decide +kernel, by decide +kernel⟩
abbrev s_outer : Stmt := topS 25
theorem sc_outer : FnScope ["one", "other", "a", "b"] ["one", "other"] (defScope s_outer) := ⟨rfl, rfl, rfl, by decide +kernel, rfl, by decide +kernel, by decide +kernel⟩
abbrev s_is_sheet : Stmt := topS 27
theorem sc_is_sheet : FnScope ["sheet", "root", "across", "along"] ["sheet", "root"] (defScope s_is_sheet) := ⟨rfl, rfl, rfl, by decide +kernel, rfl, by decide +kernel, by decide +kernel⟩
abbrev s_check_rows : Stmt := topS 28
theorem sc_check_rows : FnScope ["rows", "root", "at", "sheet", "count"] ["rows", "root"] (defScope s_check_rows) := ⟨rfl, rfl, rfl, by decide +kernel, rfl, by decide +kernel, by decide +kernel⟩
abbrev s_merged : Stmt := topS 29
theorem sc_merged : FnScope ["rows", "counts", "sheet", "count"] ["rows"] (defScope s_merged) := ⟨rfl, rfl, rfl, by decide +kernel, rfl, by decide +kernel, by decide +kernel⟩
abbrev s_Heap_init : Stmt := inClass (topS 31) 1
theorem sc_Heap_init : FnScope ["self", "root", "rows"] ["self", "root", "rows"] (defScope s_Heap_init) := ⟨rfl, rfl, rfl, by decide +kernel, rfl, by decide +kernel, by decide +kernel⟩
abbrev s_Heap_of : Stmt := inClass (topS 31) 2
theorem sc_Heap_of : FnScope ["cls", "root", "sheets", "sheet"] ["cls", "root", "sheets"] (defScope s_Heap_of) := ⟨rfl, rfl, rfl, by decide +kernel, rfl, by decide +kernel, by decide +kernel⟩
abbrev s_Heap_root : Stmt := inClass (topS 31) 3
theorem sc_Heap_root : FnScope ["self"] ["self"] (defScope s_Heap_root) := ⟨rfl, rfl, rfl, by decide +kernel, rfl, by decide +kernel, by decide +kernel⟩
abbrev s_Heap_many : Stmt := inClass (topS 31) 4
theorem sc_Heap_many : FnScope ["self"] ["self"] (defScope s_Heap_many) := ⟨rfl, rfl, rfl, by decide +kernel, rfl, by decide +kernel, by decide +kernel⟩
abbrev s_Heap_rows : Stmt := inClass (topS 31) 6
theorem sc_Heap_rows : FnScope ["self"] ["self"] (defScope s_Heap_rows) := ⟨rfl, rfl, rfl, by decide +kernel, rfl, by decide +kernel, by decide +kernel⟩
abbrev s_Heap_eq : Stmt := inClass (topS 31) 13
theorem sc_Heap_eq : FnScope ["self", "other"] ["self", "other"] (defScope s_Heap_eq) := ⟨rfl, rfl, rfl, by decide +kernel, rfl, by decide +kernel, by decide +kernel⟩
abbrev s_Heap_bool : Stmt := inClass (topS 31) 14
theorem sc_Heap_bool : FnScope ["self"] ["self"] (defScope s_Heap_bool) := ⟨rfl, rfl, rfl, by decide +kernel, rfl, by decide +kernel, by decide +kernel⟩
abbrev s_endless_fractions : Stmt := topS 33
theorem sc_endless_fractions : GScope ["root", "whole", "m", "t", "k", "last", "before"] ["root"] (defScope s_endless_fractions) := ⟨rfl, rfl, rfl, by decide +kernel, rfl, by decide +kernel, by decide +kernel⟩
abbrev s_tile_of : Stmt := topS 34
theorem sc_tile_of : FnScope ["number", "fraction", "p", "q"] ["number", "fraction"] (defScope s_tile_of) := ⟨rfl, rfl, rfl, by decide +kernel, rfl, by decide +kernel, by decide +kernel⟩
abbrev s_two_sheets : Stmt := topS 36
theorem sc_two_sheets : FnScope ["table", "root", "upper", "lower", "fraction", "part", "at", "p", "q", "before"] ["table", "root"] (defScope s_two_sheets) := ⟨rfl, rfl, rfl, by decide +kernel, rfl, by decide +kernel, by decide +kernel⟩
abbrev s_heap_of_table : Stmt := topS 37
theorem sc_heap_of_table : FnScope ["table", "root", "one", "other"] ["table", "root"] (defScope s_heap_of_table) := ⟨rfl, rfl, rfl, by decide +kernel, rfl, by decide +kernel, by decide +kernel⟩
abbrev s_source : Stmt := topS 39
theorem sc_source : FnScope ["_law_script", "_law_mix", "_law_cell"] ["_law_script"] (defScope s_source) := ⟨rfl, rfl, rfl, by decide +kernel, rfl, by decide +kernel, by decide +kernel⟩
abbrev s_pull : Stmt := topS 40
theorem sc_pull : FnScope ["_law_bag", "_law_size", "_law_mix", "_law_cell", "_law_found"] ["_law_bag", "_law_size"] (defScope s_pull) := ⟨rfl, rfl, rfl, by decide +kernel, rfl, by decide +kernel, by decide +kernel⟩
abbrev s_of : Stmt := topS 41
theorem sc_of : FnScope ["_law_bag", "_law_some"] ["_law_bag", "_law_some"] (defScope s_of) := ⟨rfl, rfl, rfl, by decide +kernel, rfl, by decide +kernel, by decide +kernel⟩
abbrev s_roots : Stmt := topS 42
theorem sc_roots : FnScope ["_law_d"] [] (defScope s_roots) := ⟨rfl, rfl, rfl, by decide +kernel, rfl, by decide +kernel, by decide +kernel⟩
abbrev s_a_root : Stmt := topS 43
theorem sc_a_root : FnScope ["_law_bag"] ["_law_bag"] (defScope s_a_root) := ⟨rfl, rfl, rfl, by decide +kernel, rfl, by decide +kernel, by decide +kernel⟩
abbrev s_four : Stmt := topS 44
theorem sc_four : FnScope ["_law_stock", "_law_found", "_law_count", "_law_a", "_law_b", "_law_c", "_law_e"] ["_law_stock"] (defScope s_four) := ⟨rfl, rfl, rfl, by decide +kernel, rfl, by decide +kernel, by decide +kernel⟩
abbrev s_stock_of : Stmt := topS 45
theorem sc_stock_of : FnScope ["_law_rows", "_law_found", "_law_sheet", "_law_count"] ["_law_rows"] (defScope s_stock_of) := ⟨rfl, rfl, rfl, by decide +kernel, rfl, by decide +kernel, by decide +kernel⟩
abbrev s_any_pair : Stmt := topS 46
theorem sc_any_pair : FnScope ["_law_bag", "_law_size"] ["_law_bag"] (defScope s_any_pair) := ⟨rfl, rfl, rfl, by decide +kernel, rfl, by decide +kernel, by decide +kernel⟩
abbrev s_lsign : Stmt := topS 47
theorem sc_lsign : FnScope ["_law_pair", "_law_root_z", "_law_value"] ["_law_pair", "_law_root_z"] (defScope s_lsign) := ⟨rfl, rfl, rfl, by decide +kernel, rfl, by decide +kernel, by decide +kernel⟩
abbrev s_a_length : Stmt := topS 48
theorem sc_a_length : FnScope ["_law_bag", "_law_root_z", "_law_pair"] ["_law_bag", "_law_root_z"] (defScope s_a_length) := ⟨rfl, rfl, rfl, by decide +kernel, rfl, by decide +kernel, by decide +kernel⟩
abbrev s_a_sheet : Stmt := topS 49
theorem sc_a_sheet : FnScope ["_law_bag", "_law_root_z", "_law_one"] ["_law_bag", "_law_root_z"] (defScope s_a_sheet) := ⟨rfl, rfl, rfl, by decide +kernel, rfl, by decide +kernel, by decide +kernel⟩
abbrev s_some_count : Stmt := topS 50
theorem sc_some_count : FnScope ["_law_bag"] ["_law_bag"] (defScope s_some_count) := ⟨rfl, rfl, rfl, by decide +kernel, rfl, by decide +kernel, by decide +kernel⟩
abbrev s_some_rows : Stmt := topS 51
theorem sc_some_rows : FnScope ["_law_bag", "_law_root_z", "_law_most", "_law_found", "_law_k", "_law_sheet"] ["_law_bag", "_law_root_z", "_law_most"] (defScope s_some_rows) := ⟨rfl, rfl, rfl, by decide +kernel, rfl, by decide +kernel, by decide +kernel⟩
abbrev s_lscaled : Stmt := topS 52
theorem sc_lscaled : FnScope ["_law_pair", "_law_number"] ["_law_pair", "_law_number"] (defScope s_lscaled) := ⟨rfl, rfl, rfl, by decide +kernel, rfl, by decide +kernel, by decide +kernel⟩
abbrev s_lfractions : Stmt := topS 53
theorem sc_lfractions : FnScope ["_law_root_z", "_law_count", "_law_whole", "_law_turn", "_law_m", "_law_t", "_law_k", "_law_last", "_law_before", "_law_found", "_law_fresh"] ["_law_root_z", "_law_count"] (defScope s_lfractions) := ⟨rfl, rfl, rfl, by decide +kernel, rfl, by decide +kernel, by decide +kernel⟩
abbrev s_tile_pair : Stmt := topS 54
theorem sc_tile_pair : FnScope ["_law_root_z", "_law_number", "_law_found", "_law_at", "_law_p", "_law_q"] ["_law_root_z", "_law_number"] (defScope s_tile_pair) := ⟨rfl, rfl, rfl, by decide +kernel, rfl, by decide +kernel, by decide +kernel⟩
abbrev s_a_number : Stmt := topS 55
theorem sc_a_number : FnScope ["_law_bag", "_law_size"] ["_law_bag"] (defScope s_a_number) := ⟨rfl, rfl, rfl, by decide +kernel, rfl, by decide +kernel, by decide +kernel⟩
abbrev s_any_four : Stmt := topS 56
theorem sc_any_four : FnScope ["_law_bag", "_law_root_z", "_law_pair", "_law_more", "_law_top"] ["_law_bag", "_law_root_z"] (defScope s_any_four) := ⟨rfl, rfl, rfl, by decide +kernel, rfl, by decide +kernel, by decide +kernel⟩
abbrev s_area_of : Stmt := topS 57
theorem sc_area_of : FnScope ["_law_four_here", "_law_root_z"] ["_law_four_here", "_law_root_z"] (defScope s_area_of) := ⟨rfl, rfl, rfl, by decide +kernel, rfl, by decide +kernel, by decide +kernel⟩
abbrev s_field_of : Stmt := topS 58
theorem sc_field_of : FnScope ["_law_e"] ["_law_e"] (defScope s_field_of) := ⟨rfl, rfl, rfl, by decide +kernel, rfl, by decide +kernel, by decide +kernel⟩
abbrev s_try : Stmt := topS 59
theorem sc_try : FnScope ["_law_ask", "_law_e"] ["_law_ask"] (defScope s_try) := ⟨rfl, rfl, rfl, by decide +kernel, rfl, by decide +kernel, by decide +kernel⟩
abbrev s_all_sides : Stmt := topS 60
theorem sc_all_sides : FnScope ["_law_stock", "_law_found", "_law_one", "_law_other"] ["_law_stock"] (defScope s_all_sides) := ⟨rfl, rfl, rfl, by decide +kernel, rfl, by decide +kernel, by decide +kernel⟩
abbrev s_law : Stmt := topS 61
theorem sc_law : FnScope ["_law_script", "_law_bag", "_law_turn", "_law_root_z", "_law_four_here", "_law_found", "_law_bad", "_law_table_z", "_law_area", "_law_heap", "_law_pair"] ["_law_script"] (defScope s_law) := ⟨rfl, rfl, rfl, by decide +kernel, rfl, by decide +kernel, by decide +kernel⟩
abbrev i_BadRoot : Stmt := inClass (topS 4) 0
theorem sc_iBadRoot : NScope ["self", "number", "__class__"] ["self", "number"] ["__class__"] (defScope i_BadRoot) := nscope_by (by decide +kernel)
abbrev i_BadCount : Stmt := inClass (topS 5) 0
theorem sc_iBadCount : NScope ["self", "number", "__class__"] ["self", "number"] ["__class__"] (defScope i_BadCount) := nscope_by (by decide +kernel)
abbrev i_BadRow : Stmt := inClass (topS 6) 0
theorem sc_iBadRow : NScope ["self", "at", "__class__"] ["self", "at"] ["__class__"] (defScope i_BadRow) := nscope_by (by decide +kernel)
abbrev i_OtherRoot : Stmt := inClass (topS 7) 0
theorem sc_iOtherRoot : NScope ["self", "__class__"] ["self"] ["__class__"] (defScope i_OtherRoot) := nscope_by (by decide +kernel)
abbrev i_NotEnough : Stmt := inClass (topS 8) 0
theorem sc_iNotEnough : NScope ["self", "__class__"] ["self"] ["__class__"] (defScope i_NotEnough) := nscope_by (by decide +kernel)
abbrev i_NoSheet : Stmt := inClass (topS 9) 0
theorem sc_iNoSheet : NScope ["self", "sheet", "__class__"] ["self", "sheet"] ["__class__"] (defScope i_NoSheet) := nscope_by (by decide +kernel)
abbrev i_NothingLeft : Stmt := inClass (topS 10) 0
theorem sc_iNothingLeft : NScope ["self", "__class__"] ["self"] ["__class__"] (defScope i_NothingLeft) := nscope_by (by decide +kernel)
set_option genInjectivity false in
set_option genSizeOf false in
structure Txt (K : PySem.W.Frag) (mg : Str → Option Value) where
  f_whole_root : Addr
  d_whole_root : FuncData
  F_whole_root : Fun K "whole_root" "whole_root" s_whole_root f_whole_root d_whole_root
  g_whole_root : mg "whole_root" = some (.ref f_whole_root)
  b_whole_root : Binds K d_whole_root ["number"] []
  f_is_root : Addr
  d_is_root : FuncData
  F_is_root : Fun K "is_root" "is_root" s_is_root f_is_root d_is_root
  g_is_root : mg "is_root" = some (.ref f_is_root)
  b_is_root : Binds K d_is_root ["number"] []
  f_check_root : Addr
  d_check_root : FuncData
  F_check_root : Fun K "check_root" "check_root" s_check_root f_check_root d_check_root
  g_check_root : mg "check_root" = some (.ref f_check_root)
  b_check_root : Binds K d_check_root ["root"] []
  f_sign : Addr
  d_sign : FuncData
  F_sign : Fun K "sign" "sign" s_sign f_sign d_sign
  g_sign : mg "sign" = some (.ref f_sign)
  b_sign : Binds K d_sign ["pair", "root"] []
  f_is_length : Addr
  d_is_length : FuncData
  F_is_length : Fun K "is_length" "is_length" s_is_length f_is_length d_is_length
  g_is_length : mg "is_length" = some (.ref f_is_length)
  b_is_length : Binds K d_is_length ["pair", "root"] []
  f_added : Addr
  d_added : FuncData
  F_added : Fun K "added" "added" s_added f_added d_added
  g_added : mg "added" = some (.ref f_added)
  f_scaled : Addr
  d_scaled : FuncData
  F_scaled : Fun K "scaled" "scaled" s_scaled f_scaled d_scaled
  g_scaled : mg "scaled" = some (.ref f_scaled)
  b_scaled : Binds K d_scaled ["pair", "number"] []
  f_floor_of : Addr
  d_floor_of : FuncData
  F_floor_of : Fun K "floor_of" "floor_of" s_floor_of f_floor_of d_floor_of
  g_floor_of : mg "floor_of" = some (.ref f_floor_of)
  b_floor_of : Binds K d_floor_of ["pair", "root"] []
  C_Table : Addr
  cl_Table : Cls K C_Table
  g_Table : mg "Table" = some (.ref C_Table)
  sf_Table : PySem.W.selfFirst K C_Table = true
  nq_Table : PySem.W.noSeq K C_Table = true
  n_Table_cells : NoAttr K C_Table "cells"
  mo_Table : PySem.W.mroIn K C_Table (.type "object") = some true
  ne_Table : PySem.W.findIn K (.ref C_Table) "__ne__" = some (some (.builtin "object.__ne__"))
  ca_Table : PySem.W.findIn K (.ref C_Table) "__class__" = some (some (.builtin "object.__class__"))
  x_Table_rmul : PySem.W.findIn K (.ref C_Table) "__rmul__" = some none
  i_mul : PySem.W.findIn K (.type "int") "__mul__" = some (some (.builtin "int.__mul__"))
  i_rmul : PySem.W.findIn K (.type "int") "__rmul__" = some (some (.builtin "int.__rmul__"))
  is_Table : PySem.W.subIn K (.type "int") (.ref C_Table) = some false
  f_Table_init : Addr
  d_Table_init : FuncData
  r0_Table_init : Addr
  F_Table_init : FunD K "__init__" "Table.__init__" (defArgs s_Table_init) (defBody s_Table_init) (defScope s_Table_init) [.ref r0_Table_init] [] f_Table_init d_Table_init
  b_Table_init : Binds K d_Table_init ["self", "rows"] []
  b0_Table_init : Binds K d_Table_init ["self", "rows"] [.ref r0_Table_init]
  v0_Table_init : Vals [.ref r0_Table_init] [.ref r0_Table_init]
  z0_Table_init : Dflt K r0_Table_init
  M_Table : Mk K C_Table f_Table_init
  f_Table_rows : Addr
  d_Table_rows : FuncData
  F_Table_rows : Fun K "rows" "Table.rows" s_Table_rows f_Table_rows d_Table_rows
  b_Table_rows : Binds K d_Table_rows ["self"] []
  m_Table_rows : Meth K C_Table "rows" f_Table_rows
  f_Table_area_for : Addr
  d_Table_area_for : FuncData
  F_Table_area_for : Fun K "area_for" "Table.area_for" s_Table_area_for f_Table_area_for d_Table_area_for
  b_Table_area_for : Binds K d_Table_area_for ["self", "root"] []
  m_Table_area_for : Meth K C_Table "area_for" f_Table_area_for
  f_Table_add : Addr
  d_Table_add : FuncData
  F_Table_add : Fun K "__add__" "Table.__add__" s_Table_add f_Table_add d_Table_add
  b_Table_add : Binds K d_Table_add ["self", "other"] []
  m_Table_add : Meth K C_Table "__add__" f_Table_add
  f_Table_sub : Addr
  d_Table_sub : FuncData
  F_Table_sub : Fun K "__sub__" "Table.__sub__" s_Table_sub f_Table_sub d_Table_sub
  b_Table_sub : Binds K d_Table_sub ["self", "other"] []
  m_Table_sub : Meth K C_Table "__sub__" f_Table_sub
  f_Table_neg : Addr
  d_Table_neg : FuncData
  F_Table_neg : Fun K "__neg__" "Table.__neg__" s_Table_neg f_Table_neg d_Table_neg
  b_Table_neg : Binds K d_Table_neg ["self"] []
  m_Table_neg : Meth K C_Table "__neg__" f_Table_neg
  f_Table_mul : Addr
  d_Table_mul : FuncData
  F_Table_mul : Fun K "__mul__" "Table.__mul__" s_Table_mul f_Table_mul d_Table_mul
  b_Table_mul : Binds K d_Table_mul ["self", "other"] []
  m_Table_mul : Meth K C_Table "__mul__" f_Table_mul
  f_Table_eq : Addr
  d_Table_eq : FuncData
  F_Table_eq : Fun K "__eq__" "Table.__eq__" s_Table_eq f_Table_eq d_Table_eq
  b_Table_eq : Binds K d_Table_eq ["self", "other"] []
  m_Table_eq : Meth K C_Table "__eq__" f_Table_eq
  f_Table_bool : Addr
  d_Table_bool : FuncData
  F_Table_bool : Fun K "__bool__" "Table.__bool__" s_Table_bool f_Table_bool d_Table_bool
  b_Table_bool : Binds K d_Table_bool ["self"] []
  m_Table_bool : Meth K C_Table "__bool__" f_Table_bool
  f_outer : Addr
  d_outer : FuncData
  F_outer : Fun K "outer" "outer" s_outer f_outer d_outer
  g_outer : mg "outer" = some (.ref f_outer)
  b_outer : Binds K d_outer ["one", "other"] []
  f_is_sheet : Addr
  d_is_sheet : FuncData
  F_is_sheet : Fun K "is_sheet" "is_sheet" s_is_sheet f_is_sheet d_is_sheet
  g_is_sheet : mg "is_sheet" = some (.ref f_is_sheet)
  b_is_sheet : Binds K d_is_sheet ["sheet", "root"] []
  f_check_rows : Addr
  d_check_rows : FuncData
  F_check_rows : Fun K "check_rows" "check_rows" s_check_rows f_check_rows d_check_rows
  g_check_rows : mg "check_rows" = some (.ref f_check_rows)
  b_check_rows : Binds K d_check_rows ["rows", "root"] []
  f_merged : Addr
  d_merged : FuncData
  F_merged : Fun K "merged" "merged" s_merged f_merged d_merged
  g_merged : mg "merged" = some (.ref f_merged)
  b_merged : Binds K d_merged ["rows"] []
  C_Heap : Addr
  cl_Heap : Cls K C_Heap
  g_Heap : mg "Heap" = some (.ref C_Heap)
  sf_Heap : PySem.W.selfFirst K C_Heap = true
  nq_Heap : PySem.W.noSeq K C_Heap = true
  n_Heap_held_root : NoAttr K C_Heap "held_root"
  n_Heap_copies : NoAttr K C_Heap "copies"
  mo_Heap : PySem.W.mroIn K C_Heap (.type "object") = some true
  ne_Heap : PySem.W.findIn K (.ref C_Heap) "__ne__" = some (some (.builtin "object.__ne__"))
  ca_Heap : PySem.W.findIn K (.ref C_Heap) "__class__" = some (some (.builtin "object.__class__"))
  x_Heap_rmul : PySem.W.findIn K (.ref C_Heap) "__rmul__" = some none
  is_Heap : PySem.W.subIn K (.type "int") (.ref C_Heap) = some false
  f_Heap_init : Addr
  d_Heap_init : FuncData
  r0_Heap_init : Addr
  F_Heap_init : FunD K "__init__" "Heap.__init__" (defArgs s_Heap_init) (defBody s_Heap_init) (defScope s_Heap_init) [.ref r0_Heap_init] [] f_Heap_init d_Heap_init
  b_Heap_init : Binds K d_Heap_init ["self", "root", "rows"] []
  b0_Heap_init : Binds K d_Heap_init ["self", "root", "rows"] [.ref r0_Heap_init]
  v0_Heap_init : Vals [.ref r0_Heap_init] [.ref r0_Heap_init]
  z0_Heap_init : Dfl0 K r0_Heap_init
  M_Heap : Mk K C_Heap f_Heap_init
  f_Heap_of : Addr
  d_Heap_of : FuncData
  F_Heap_of : Fun K "of" "Heap.of" s_Heap_of f_Heap_of d_Heap_of
  p_Heap_of : Addr
  cr_Heap : ClX.CRead K C_Heap (.type "type")
  cm_Heap_of : ClX.CMet K C_Heap (.type "type") "of" p_Heap_of f_Heap_of
  f_Heap_root : Addr
  d_Heap_root : FuncData
  F_Heap_root : Fun K "root" "Heap.root" s_Heap_root f_Heap_root d_Heap_root
  b_Heap_root : Binds K d_Heap_root ["self"] []
  p_Heap_root : Addr
  pr_Heap_root : PropOf K C_Heap "root" p_Heap_root f_Heap_root
  f_Heap_many : Addr
  d_Heap_many : FuncData
  F_Heap_many : Fun K "many" "Heap.many" s_Heap_many f_Heap_many d_Heap_many
  b_Heap_many : Binds K d_Heap_many ["self"] []
  p_Heap_many : Addr
  pr_Heap_many : PropOf K C_Heap "many" p_Heap_many f_Heap_many
  f_Heap_rows : Addr
  d_Heap_rows : FuncData
  F_Heap_rows : Fun K "rows" "Heap.rows" s_Heap_rows f_Heap_rows d_Heap_rows
  b_Heap_rows : Binds K d_Heap_rows ["self"] []
  m_Heap_rows : Meth K C_Heap "rows" f_Heap_rows
  f_Heap_eq : Addr
  d_Heap_eq : FuncData
  F_Heap_eq : Fun K "__eq__" "Heap.__eq__" s_Heap_eq f_Heap_eq d_Heap_eq
  b_Heap_eq : Binds K d_Heap_eq ["self", "other"] []
  m_Heap_eq : Meth K C_Heap "__eq__" f_Heap_eq
  f_Heap_bool : Addr
  d_Heap_bool : FuncData
  F_Heap_bool : Fun K "__bool__" "Heap.__bool__" s_Heap_bool f_Heap_bool d_Heap_bool
  b_Heap_bool : Binds K d_Heap_bool ["self"] []
  m_Heap_bool : Meth K C_Heap "__bool__" f_Heap_bool
  f_endless_fractions : Addr
  d_endless_fractions : FuncData
  F_endless_fractions : Fun K "endless_fractions" "endless_fractions" s_endless_fractions f_endless_fractions d_endless_fractions
  g_endless_fractions : mg "endless_fractions" = some (.ref f_endless_fractions)
  b_endless_fractions : Binds K d_endless_fractions ["root"] []
  f_tile_of : Addr
  d_tile_of : FuncData
  F_tile_of : Fun K "tile_of" "tile_of" s_tile_of f_tile_of d_tile_of
  g_tile_of : mg "tile_of" = some (.ref f_tile_of)
  b_tile_of : Binds K d_tile_of ["number", "fraction"] []
  f_two_sheets : Addr
  d_two_sheets : FuncData
  F_two_sheets : Fun K "two_sheets" "two_sheets" s_two_sheets f_two_sheets d_two_sheets
  g_two_sheets : mg "two_sheets" = some (.ref f_two_sheets)
  b_two_sheets : Binds K d_two_sheets ["table", "root"] []
  f_heap_of_table : Addr
  d_heap_of_table : FuncData
  F_heap_of_table : Fun K "heap_of_table" "heap_of_table" s_heap_of_table f_heap_of_table d_heap_of_table
  g_heap_of_table : mg "heap_of_table" = some (.ref f_heap_of_table)
  b_heap_of_table : Binds K d_heap_of_table ["table", "root"] []
  f_source : Addr
  d_source : FuncData
  F_source : Fun K "_law_source" "_law_source" s_source f_source d_source
  g_source : mg "_law_source" = some (.ref f_source)
  b_source : Binds K d_source ["_law_script"] []
  f_pull : Addr
  d_pull : FuncData
  F_pull : Fun K "_law_pull" "_law_pull" s_pull f_pull d_pull
  g_pull : mg "_law_pull" = some (.ref f_pull)
  b_pull : Binds K d_pull ["_law_bag", "_law_size"] []
  f_of : Addr
  d_of : FuncData
  F_of : Fun K "_law_of" "_law_of" s_of f_of d_of
  g_of : mg "_law_of" = some (.ref f_of)
  b_of : Binds K d_of ["_law_bag", "_law_some"] []
  f_roots : Addr
  d_roots : FuncData
  F_roots : Fun K "_law_roots" "_law_roots" s_roots f_roots d_roots
  g_roots : mg "_law_roots" = some (.ref f_roots)
  b_roots : Binds K d_roots [] []
  f_a_root : Addr
  d_a_root : FuncData
  F_a_root : Fun K "_law_a_root" "_law_a_root" s_a_root f_a_root d_a_root
  g_a_root : mg "_law_a_root" = some (.ref f_a_root)
  b_a_root : Binds K d_a_root ["_law_bag"] []
  f_four : Addr
  d_four : FuncData
  F_four : Fun K "_law_four" "_law_four" s_four f_four d_four
  g_four : mg "_law_four" = some (.ref f_four)
  b_four : Binds K d_four ["_law_stock"] []
  f_stock_of : Addr
  d_stock_of : FuncData
  F_stock_of : Fun K "_law_stock_of" "_law_stock_of" s_stock_of f_stock_of d_stock_of
  g_stock_of : mg "_law_stock_of" = some (.ref f_stock_of)
  b_stock_of : Binds K d_stock_of ["_law_rows"] []
  f_any_pair : Addr
  d_any_pair : FuncData
  F_any_pair : Fun K "_law_any_pair" "_law_any_pair" s_any_pair f_any_pair d_any_pair
  g_any_pair : mg "_law_any_pair" = some (.ref f_any_pair)
  b_any_pair : Binds K d_any_pair ["_law_bag"] []
  f_lsign : Addr
  d_lsign : FuncData
  F_lsign : Fun K "_law_sign" "_law_sign" s_lsign f_lsign d_lsign
  g_lsign : mg "_law_sign" = some (.ref f_lsign)
  b_lsign : Binds K d_lsign ["_law_pair", "_law_root_z"] []
  f_a_length : Addr
  d_a_length : FuncData
  F_a_length : Fun K "_law_a_length" "_law_a_length" s_a_length f_a_length d_a_length
  g_a_length : mg "_law_a_length" = some (.ref f_a_length)
  b_a_length : Binds K d_a_length ["_law_bag", "_law_root_z"] []
  f_a_sheet : Addr
  d_a_sheet : FuncData
  F_a_sheet : Fun K "_law_a_sheet" "_law_a_sheet" s_a_sheet f_a_sheet d_a_sheet
  g_a_sheet : mg "_law_a_sheet" = some (.ref f_a_sheet)
  b_a_sheet : Binds K d_a_sheet ["_law_bag", "_law_root_z"] []
  f_some_count : Addr
  d_some_count : FuncData
  F_some_count : Fun K "_law_some_count" "_law_some_count" s_some_count f_some_count d_some_count
  g_some_count : mg "_law_some_count" = some (.ref f_some_count)
  b_some_count : Binds K d_some_count ["_law_bag"] []
  f_some_rows : Addr
  d_some_rows : FuncData
  F_some_rows : Fun K "_law_some_rows" "_law_some_rows" s_some_rows f_some_rows d_some_rows
  g_some_rows : mg "_law_some_rows" = some (.ref f_some_rows)
  b_some_rows : Binds K d_some_rows ["_law_bag", "_law_root_z", "_law_most"] []
  f_lscaled : Addr
  d_lscaled : FuncData
  F_lscaled : Fun K "_law_scaled" "_law_scaled" s_lscaled f_lscaled d_lscaled
  g_lscaled : mg "_law_scaled" = some (.ref f_lscaled)
  b_lscaled : Binds K d_lscaled ["_law_pair", "_law_number"] []
  f_lfractions : Addr
  d_lfractions : FuncData
  F_lfractions : Fun K "_law_fractions" "_law_fractions" s_lfractions f_lfractions d_lfractions
  g_lfractions : mg "_law_fractions" = some (.ref f_lfractions)
  b_lfractions : Binds K d_lfractions ["_law_root_z", "_law_count"] []
  f_tile_pair : Addr
  d_tile_pair : FuncData
  F_tile_pair : Fun K "_law_tile_pair" "_law_tile_pair" s_tile_pair f_tile_pair d_tile_pair
  g_tile_pair : mg "_law_tile_pair" = some (.ref f_tile_pair)
  b_tile_pair : Binds K d_tile_pair ["_law_root_z", "_law_number"] []
  f_a_number : Addr
  d_a_number : FuncData
  F_a_number : Fun K "_law_a_number" "_law_a_number" s_a_number f_a_number d_a_number
  g_a_number : mg "_law_a_number" = some (.ref f_a_number)
  b_a_number : Binds K d_a_number ["_law_bag"] []
  f_any_four : Addr
  d_any_four : FuncData
  F_any_four : Fun K "_law_any_four" "_law_any_four" s_any_four f_any_four d_any_four
  g_any_four : mg "_law_any_four" = some (.ref f_any_four)
  b_any_four : Binds K d_any_four ["_law_bag", "_law_root_z"] []
  f_area_of : Addr
  d_area_of : FuncData
  F_area_of : Fun K "_law_area_of" "_law_area_of" s_area_of f_area_of d_area_of
  g_area_of : mg "_law_area_of" = some (.ref f_area_of)
  b_area_of : Binds K d_area_of ["_law_four_here", "_law_root_z"] []
  f_field_of : Addr
  d_field_of : FuncData
  F_field_of : Fun K "_law_field_of" "_law_field_of" s_field_of f_field_of d_field_of
  g_field_of : mg "_law_field_of" = some (.ref f_field_of)
  b_field_of : Binds K d_field_of ["_law_e"] []
  f_try : Addr
  d_try : FuncData
  F_try : Fun K "_law_try" "_law_try" s_try f_try d_try
  g_try : mg "_law_try" = some (.ref f_try)
  b_try : Binds K d_try ["_law_ask"] []
  f_all_sides : Addr
  d_all_sides : FuncData
  F_all_sides : Fun K "_law_all_sides" "_law_all_sides" s_all_sides f_all_sides d_all_sides
  g_all_sides : mg "_law_all_sides" = some (.ref f_all_sides)
  b_all_sides : Binds K d_all_sides ["_law_stock"] []
  n_ValueError : mg "ValueError" = none
  n_LookupError : mg "LookupError" = none
  n_IndexError : mg "IndexError" = none
  n_enumerate : mg "enumerate" = none
  n_range : mg "range" = none
  n_sorted : mg "sorted" = none
  n_str : mg "str" = none
  n_sum : mg "sum" = none
  n_any : mg "any" = none
  n_list : mg "list" = none
  n_bool : mg "bool" = none
  n_len : mg "len" = none
  n_int : mg "int" = none
  n_abs : mg "abs" = none
  n_isinstance : mg "isinstance" = none
  n_all : mg "all" = none
  kb_heap_of_table_root_table : KBn K d_heap_of_table ["table", "root"] 0 ["root", "table"] (fun us ws : List Value => [ws.getD 1 .none, ws.getD 0 .none]) (fun us ws : List V => [ws.getD 1 .non, ws.getD 0 .non])
  r_GrainError : Addr
  g_GrainError : mg "GrainError" = some (.ref r_GrainError)
  c_GrainError : ∃ cd : ClassData, PySem.W.clsIn K r_GrainError = some cd ∧ cd.name = "GrainError"
  t_GrainError : PySem.W.typeIn K (.ref r_GrainError) = some (.type "type")
  sb_GrainError : PySem.W.subIn K (.ref r_GrainError) (.type "BaseException") = some true
  r_GrainMissing : Addr
  g_GrainMissing : mg "GrainMissing" = some (.ref r_GrainMissing)
  c_GrainMissing : ∃ cd : ClassData, PySem.W.clsIn K r_GrainMissing = some cd ∧ cd.name = "GrainMissing"
  t_GrainMissing : PySem.W.typeIn K (.ref r_GrainMissing) = some (.type "type")
  sb_GrainMissing : PySem.W.subIn K (.ref r_GrainMissing) (.type "BaseException") = some true
  e_BadRoot : Er PySem.Challenge.pw_grainyard_k34_heaps_with_a_table K mg "ValueError" "ValueError.__new__" "ValueError.__init__" [.type "ValueError", .type "Exception", .type "BaseException", .type "object"] [.ref r_GrainError] i_BadRoot "BadRoot" "BadRoot.__init__"
  x_BadRoot_word : PySem.W.findIn K (.ref e_BadRoot.C) "word" = some none
  x_BadRoot_number : PySem.W.findIn K (.ref e_BadRoot.C) "number" = some none
  e_BadCount : Er PySem.Challenge.pw_grainyard_k34_heaps_with_a_table K mg "ValueError" "ValueError.__new__" "ValueError.__init__" [.type "ValueError", .type "Exception", .type "BaseException", .type "object"] [.ref r_GrainError] i_BadCount "BadCount" "BadCount.__init__"
  x_BadCount_word : PySem.W.findIn K (.ref e_BadCount.C) "word" = some none
  x_BadCount_number : PySem.W.findIn K (.ref e_BadCount.C) "number" = some none
  e_BadRow : Er PySem.Challenge.pw_grainyard_k34_heaps_with_a_table K mg "ValueError" "ValueError.__new__" "ValueError.__init__" [.type "ValueError", .type "Exception", .type "BaseException", .type "object"] [.ref r_GrainError] i_BadRow "BadRow" "BadRow.__init__"
  x_BadRow_word : PySem.W.findIn K (.ref e_BadRow.C) "word" = some none
  x_BadRow_at : PySem.W.findIn K (.ref e_BadRow.C) "at" = some none
  e_OtherRoot : Er PySem.Challenge.pw_grainyard_k34_heaps_with_a_table K mg "ValueError" "ValueError.__new__" "ValueError.__init__" [.type "ValueError", .type "Exception", .type "BaseException", .type "object"] [.ref r_GrainError] i_OtherRoot "OtherRoot" "OtherRoot.__init__"
  x_OtherRoot_word : PySem.W.findIn K (.ref e_OtherRoot.C) "word" = some none
  e_NotEnough : Er PySem.Challenge.pw_grainyard_k34_heaps_with_a_table K mg "ValueError" "ValueError.__new__" "ValueError.__init__" [.type "ValueError", .type "Exception", .type "BaseException", .type "object"] [.ref r_GrainError] i_NotEnough "NotEnough" "NotEnough.__init__"
  x_NotEnough_word : PySem.W.findIn K (.ref e_NotEnough.C) "word" = some none
  e_NoSheet : Er PySem.Challenge.pw_grainyard_k34_heaps_with_a_table K mg "LookupError" "LookupError.__new__" "LookupError.__init__" [.type "LookupError", .type "Exception", .type "BaseException", .type "object"] [.ref r_GrainMissing] i_NoSheet "NoSheet" "NoSheet.__init__"
  x_NoSheet_word : PySem.W.findIn K (.ref e_NoSheet.C) "word" = some none
  x_NoSheet_sheet : PySem.W.findIn K (.ref e_NoSheet.C) "sheet" = some none
  e_NothingLeft : Er PySem.Challenge.pw_grainyard_k34_heaps_with_a_table K mg "IndexError" "IndexError.__new__" "IndexError.__init__" [.type "IndexError", .type "LookupError", .type "Exception", .type "BaseException", .type "object"] [] i_NothingLeft "NothingLeft" "NothingLeft.__init__"
  x_NothingLeft_word : PySem.W.findIn K (.ref e_NothingLeft.C) "word" = some none
  hn : PySem.W.specialIn K (.builtin "object.__class__") "__get__" = some (some (.builtin "getset_descriptor.__get__"))
  ht : PySem.W.takesIn K (.builtin "object.__class__") = some true
theorem vals_getD : ∀ {zs : List V} {ws : List Value} (_ : Vals zs ws) (i : Nat), RelV (zs.getD i .non) (ws.getD i .none) := by
  intro zs ws h
  induction h with
  | nil => exact fun _ => rfl
  | cons r t ih =>
    intro i
    cases i with
    | zero => exact r
    | succ i => exact ih i
theorem kbn_heap_of_table_root_table {K : PySem.W.Frag} {f : Addr} {fd : FuncData} (F : Fun K "heap_of_table" "heap_of_table" s_heap_of_table f fd) : KBn K fd ["table", "root"] 0 ["root", "table"] (fun us ws : List Value => [ws.getD 1 .none, ws.getD 0 .none]) (fun us ws : List V => [ws.getD 1 .non, ws.getD 0 .non]) := by
  obtain ⟨o1, o2, v1, v2, v3, a1, v4, v5, s1, rfl, r1, r2⟩ := F.ex
  refine ⟨fun s us ws _ l1 l2 => ?_, fun r1 r2 => .cons (vals_getD r2 1) (.cons (vals_getD r2 0) (.nil))⟩
  match us, ws, l1, l2 with
  | [], [_, _], _, _ => exact .of_eq rfl
section
variable {base : Heap} {K : PySem.W.Frag} {mg : Str → Option Value} {w : World}
theorem ini_BadRoot (T : Txt K mg) : FnOk PySem.Challenge.pw_grainyard_k34_heaps_with_a_table w K mg base CX0 1 T.e_BadRoot.f ((NFI i_BadRoot "BadRoot.__init__" T.e_BadRoot.cc T.e_BadRoot.c).fd T.e_BadRoot.doc T.e_BadRoot.pm T.e_BadRoot.ctv) ["self", "number"] (spIni T.e_BadRoot.C 1 fun ws => [("number", ws.getD 0 .non), ("word", .str "BadRoot")]) := ok_ini1 erb_VE T.e_BadRoot sc_iBadRoot rfl T.x_BadRoot_word T.x_BadRoot_number
theorem bi_BadRoot (T : Txt K mg) : Binds K ((NFI i_BadRoot "BadRoot.__init__" T.e_BadRoot.cc T.e_BadRoot.c).fd T.e_BadRoot.doc T.e_BadRoot.pm T.e_BadRoot.ctv) ["self", "number"] [] := .all fun us hl => match us, hl with | [_, _], _ => rfl
theorem ini_BadCount (T : Txt K mg) : FnOk PySem.Challenge.pw_grainyard_k34_heaps_with_a_table w K mg base CX0 1 T.e_BadCount.f ((NFI i_BadCount "BadCount.__init__" T.e_BadCount.cc T.e_BadCount.c).fd T.e_BadCount.doc T.e_BadCount.pm T.e_BadCount.ctv) ["self", "number"] (spIni T.e_BadCount.C 1 fun ws => [("number", ws.getD 0 .non), ("word", .str "BadCount")]) := ok_ini1 erb_VE T.e_BadCount sc_iBadCount rfl T.x_BadCount_word T.x_BadCount_number
theorem bi_BadCount (T : Txt K mg) : Binds K ((NFI i_BadCount "BadCount.__init__" T.e_BadCount.cc T.e_BadCount.c).fd T.e_BadCount.doc T.e_BadCount.pm T.e_BadCount.ctv) ["self", "number"] [] := .all fun us hl => match us, hl with | [_, _], _ => rfl
theorem ini_BadRow (T : Txt K mg) : FnOk PySem.Challenge.pw_grainyard_k34_heaps_with_a_table w K mg base CX0 1 T.e_BadRow.f ((NFI i_BadRow "BadRow.__init__" T.e_BadRow.cc T.e_BadRow.c).fd T.e_BadRow.doc T.e_BadRow.pm T.e_BadRow.ctv) ["self", "at"] (spIni T.e_BadRow.C 1 fun ws => [("at", ws.getD 0 .non), ("word", .str "BadRow")]) := ok_ini1 erb_VE T.e_BadRow sc_iBadRow rfl T.x_BadRow_word T.x_BadRow_at
theorem bi_BadRow (T : Txt K mg) : Binds K ((NFI i_BadRow "BadRow.__init__" T.e_BadRow.cc T.e_BadRow.c).fd T.e_BadRow.doc T.e_BadRow.pm T.e_BadRow.ctv) ["self", "at"] [] := .all fun us hl => match us, hl with | [_, _], _ => rfl
theorem ini_OtherRoot (T : Txt K mg) : FnOk PySem.Challenge.pw_grainyard_k34_heaps_with_a_table w K mg base CX0 1 T.e_OtherRoot.f ((NFI i_OtherRoot "OtherRoot.__init__" T.e_OtherRoot.cc T.e_OtherRoot.c).fd T.e_OtherRoot.doc T.e_OtherRoot.pm T.e_OtherRoot.ctv) ["self"] (spIni T.e_OtherRoot.C 0 fun _ => [("word", .str "OtherRoot")]) := ok_ini0 erb_VE T.e_OtherRoot sc_iOtherRoot rfl T.x_OtherRoot_word
theorem bi_OtherRoot (T : Txt K mg) : Binds K ((NFI i_OtherRoot "OtherRoot.__init__" T.e_OtherRoot.cc T.e_OtherRoot.c).fd T.e_OtherRoot.doc T.e_OtherRoot.pm T.e_OtherRoot.ctv) ["self"] [] := .all fun us hl => match us, hl with | [_], _ => rfl
theorem ini_NotEnough (T : Txt K mg) : FnOk PySem.Challenge.pw_grainyard_k34_heaps_with_a_table w K mg base CX0 1 T.e_NotEnough.f ((NFI i_NotEnough "NotEnough.__init__" T.e_NotEnough.cc T.e_NotEnough.c).fd T.e_NotEnough.doc T.e_NotEnough.pm T.e_NotEnough.ctv) ["self"] (spIni T.e_NotEnough.C 0 fun _ => [("word", .str "NotEnough")]) := ok_ini0 erb_VE T.e_NotEnough sc_iNotEnough rfl T.x_NotEnough_word
theorem bi_NotEnough (T : Txt K mg) : Binds K ((NFI i_NotEnough "NotEnough.__init__" T.e_NotEnough.cc T.e_NotEnough.c).fd T.e_NotEnough.doc T.e_NotEnough.pm T.e_NotEnough.ctv) ["self"] [] := .all fun us hl => match us, hl with | [_], _ => rfl
theorem ini_NoSheet (T : Txt K mg) : FnOk PySem.Challenge.pw_grainyard_k34_heaps_with_a_table w K mg base CX0 1 T.e_NoSheet.f ((NFI i_NoSheet "NoSheet.__init__" T.e_NoSheet.cc T.e_NoSheet.c).fd T.e_NoSheet.doc T.e_NoSheet.pm T.e_NoSheet.ctv) ["self", "sheet"] (spIni T.e_NoSheet.C 1 fun ws => [("sheet", ws.getD 0 .non), ("word", .str "NoSheet")]) := ok_ini1 erb_LE T.e_NoSheet sc_iNoSheet rfl T.x_NoSheet_word T.x_NoSheet_sheet
theorem bi_NoSheet (T : Txt K mg) : Binds K ((NFI i_NoSheet "NoSheet.__init__" T.e_NoSheet.cc T.e_NoSheet.c).fd T.e_NoSheet.doc T.e_NoSheet.pm T.e_NoSheet.ctv) ["self", "sheet"] [] := .all fun us hl => match us, hl with | [_, _], _ => rfl
theorem ini_NothingLeft (T : Txt K mg) : FnOk PySem.Challenge.pw_grainyard_k34_heaps_with_a_table w K mg base CX0 1 T.e_NothingLeft.f ((NFI i_NothingLeft "NothingLeft.__init__" T.e_NothingLeft.cc T.e_NothingLeft.c).fd T.e_NothingLeft.doc T.e_NothingLeft.pm T.e_NothingLeft.ctv) ["self"] (spIni T.e_NothingLeft.C 0 fun _ => [("word", .str "NothingLeft")]) := ok_ini0 erb_IE T.e_NothingLeft sc_iNothingLeft rfl T.x_NothingLeft_word
theorem bi_NothingLeft (T : Txt K mg) : Binds K ((NFI i_NothingLeft "NothingLeft.__init__" T.e_NothingLeft.cc T.e_NothingLeft.c).fd T.e_NothingLeft.doc T.e_NothingLeft.pm T.e_NothingLeft.ctv) ["self"] [] := .all fun us hl => match us, hl with | [_], _ => rfl
end
/-! ### heaps, and the bag that the draws change -/
def Keep (b : Addr) (H H' : Hp) : Prop := ∀ a o, a ≠ b → H a = some o → H' a = some o
theorem Keep.refl {b : Addr} (H : Hp) : Keep b H H := fun _ _ _ e => e
theorem Keep.trans {b : Addr} {H H1 H2 : Hp} (x : Keep b H H1) (y : Keep b H1 H2) : Keep b H H2 := fun a o n e => y a o n (x a o n e)
theorem keep_put {b : Addr} {H : Hp} {o : HO} : Keep b H (upd H b o) := fun a u n e => (upd_ne n).trans e
theorem keep_new {b p : Addr} {H : Hp} {o : HO} (hp : H p = none) : Keep b H (upd H p o) := fun a u _ e => (upd_ne (ne_of_none e hp)).trans e
theorem same_new {p : Addr} {H : Hp} {o : HO} (hp : H p = none) : Same H (upd H p o) := fun a u e => (upd_ne (ne_of_none e hp)).trans e
theorem keep_of {b : Addr} {H H' : Hp} (s : Same H H') : Keep b H H' := fun a o _ e => s a o e
theorem Same.keep {b : Addr} {H H1 H2 : Hp} (s : Same H H1) (k : Keep b H1 H2) (hb : H b = none) : Same H H2 := fun a o e => k a o (ne_of_none e hb) (s a o e)
structure BagAt (H : Hp) (b s : Addr) (ns : List Int) (i j m c : Int) : Prop where
  hb : H b = some (.lst [.ref s, .int i, .int j, .int m, .int c])
  hs : H s = some (.lst (ns.map V.int))
  i0 : 0 ≤ i
  i1 : i ≤ (ns.length : Int)
  m0 : 0 ≤ m
  m1 : m < 2147483399
def Bag (H : Hp) (b sb : Addr) : Prop := ∃ (ns : List Int) (i j m c : Int), BagAt H b sb ns i j m c
theorem BagAt.ne {H : Hp} {b s : Addr} {ns : List Int} {i j m c : Int} (B : BagAt H b s ns i j m c) : s ≠ b := ne_of B.hs B.hb (by
  intro e
  injection e with e
  cases ns with
  | nil => simp at e
  | cons x r => simp at e)
theorem BagAt.put {H : Hp} {b s : Addr} {ns : List Int} {i j m c : Int} (B : BagAt H b s ns i j m c) {i' j' m' c' : Int} (h0 : 0 ≤ i') (h1 : i' ≤ (ns.length : Int)) (h2 : 0 ≤ m') (h3 : m' < 2147483399) :
    BagAt (upd H b (.lst [.ref s, .int i', .int j', .int m', .int c'])) b s ns i' j' m' c' := ⟨upd_same, (upd_ne B.ne).trans B.hs, h0, h1, h2, h3⟩
theorem BagAt.same {H H' : Hp} {b s : Addr} {ns : List Int} {i j m c : Int} (B : BagAt H b s ns i j m c) (e : Same H H') : BagAt H' b s ns i j m c := ⟨e _ _ B.hb, e _ _ B.hs, B.i0, B.i1, B.m0, B.m1⟩
theorem Bag.same {H H' : Hp} {b sb : Addr} (B : Bag H b sb) (e : Same H H') : Bag H' b sb := by
  obtain ⟨ns, i, j, m, c, B⟩ := B
  exact ⟨ns, i, j, m, c, B.same e⟩
theorem Bag.new {H : Hp} {b sb p : Addr} {o : HO} (B : Bag H b sb) (hp : H p = none) : Bag (upd H p o) b sb := B.same (same_new hp)
theorem Bag.ne {H : Hp} {b sb p : Addr} (B : Bag H b sb) (hp : H p = none) : p ≠ b := by
  obtain ⟨ns, i, j, m, c, B⟩ := B
  exact (ne_of_none B.hb hp).symm
theorem Bag.ne2 {H : Hp} {b sb p : Addr} (B : Bag H b sb) (hp : H p = none) : p ≠ sb := by
  obtain ⟨ns, i, j, m, c, B⟩ := B
  exact (ne_of_none B.hs hp).symm
theorem Bag.tup {H : Hp} {b sb p : Addr} {xs : List V} (B : Bag H b sb) (hp : H p = some (.tup xs)) : p ≠ b := by
  obtain ⟨ns, i, j, m, c, B⟩ := B
  exact ne_of hp B.hb (by intro z; cases z)
theorem Bag.put {H : Hp} {b sb l : Addr} {o : HO} (B : Bag H b sb) (h1 : l ≠ b) (h2 : l ≠ sb) : Bag (upd H l o) b sb := by
  obtain ⟨ns, i, j, m, c, B⟩ := B
  exact ⟨ns, i, j, m, c, (upd_ne h1.symm).trans B.hb, (upd_ne h2.symm).trans B.hs, B.i0, B.i1, B.m0, B.m1⟩
theorem Keep.list {K : PySem.W.Frag} {H H' : Hp} {b p : Addr} {xs : List V} (k : Keep b H H') (hp : p ≠ b) (h : H p = some (.lst xs)) : SqL K H' p xs := SqL.of (k _ _ hp h)
theorem at_some {α : Type} {xs : List α} {i : Int} (h0 : 0 ≤ i) (h1 : i < (xs.length : Int)) : ∃ v, xs[i.toNat]? = some v ∧ atI xs i = some v := by
  obtain ⟨n, rfl⟩ := Int.eq_ofNat_of_zero_le h0
  have hl : n < xs.length := by omega
  exact ⟨xs[n], by simp [hl], atI_nat (by simp [hl])⟩
theorem at_ex {ns : List Int} {i : Int} (h0 : 0 ≤ i) (h1 : i < (ns.length : Int)) : ∃ z, atI (ns.map V.int) i = some (.int z) := by
  obtain ⟨n, rfl⟩ := Int.eq_ofNat_of_zero_le h0
  have hl : n < ns.length := by omega
  exact ⟨ns[n], atI_nat (by simp [hl])⟩
/-! ### f(k = v, ..): keywords alone -/
section
variable {X : Cx}
theorem pe_kwOnly {CX : CXT} {k : Nat} {f : Addr} {fd : FuncData} {ps ks : List Str} {sp : Sp} {E : XK} {x : Str} {p pos : Pos} {kws : List Keyword} {tk : TA} {g : List Value → List Value → List Value} {gV : List V → List V → List V}
    (F : FnOk X.prog X.w X.K X.mg X.base CX k f fd ps sp) (hr : Room k X.A) (hg : Gl X x) (hm : X.mg x = some (.ref f))
    (hk : PySem.W.keepIn X.K (.ref f) = true) (hb : KBn X.K fd ps 0 ks g gV) (hx : Passes CX X E) (hkw : PK X kws tk)
    (hall : (backToKw pos (keywordEach kws X.env)).all (·.1.isSome) = true := by rfl)
    (hks : (backToKw pos (keywordEach kws X.env)).filterMap (·.1) = ks := by rfl)
    (hdb : (x == ("__debug__" : Str)) = false := by decide)
    (hpl : ((backTo pos (starEach [] X.env)).any (·.1) || (backToKw pos (keywordEach kws X.env)).any (·.1.isNone)) = false := by rfl) :
    PE X (.Call (.Name x p) [] kws pos) (fun σ H Q => tk σ H fun zs H2 => zs.length = ks.length ∧ sp (gV [] zs) H2 Q E) := by
  refine ⟨fun pins s σ H Q I h => wpAny_Call_Name_kw (ld_glob I hg hm ?_ hdb)⟩
  refine PySem.W.callWith_KW0 (h₀ := X.base) I.ok.mod.kin hk hall ?_ hpl
  refine thn (hkw.run pos pins s σ H _ I h) fun ws s2 ⟨zs, H2, I2, rz, l2, q2⟩ => ⟨I2.kIn, ?_⟩
  rw [hks]
  exact run_fnN (us := []) (vs := []) F hr hb hx I2 .nil rz rfl l2 q2
end
/-! ### dicts whose keys are sheets -/
abbrev Sh := Int × Int × Int × Int
def shK (x : Sh) : NestedKey := .tup [.tup [.num x.1, .num x.2.1], .tup [.num x.2.2.1, .num x.2.2.2]]
theorem shK_inj {x y : Sh} (h : shK x = shK y) : x = y := by
  obtain ⟨a, b, c, e⟩ := x
  obtain ⟨a', b', c', e'⟩ := y
  simp only [shK, NestedKey.tup.injEq, List.cons.injEq, NestedKey.num.injEq, and_true] at h
  obtain ⟨⟨rfl, rfl⟩, rfl, rfl⟩ := h
  rfl
theorem shK_depth (x : Sh) : (shK x).depth ≤ 8 := by
  simp [shK, NestedKey.depth, NestedKey.depthAll]
/-- the sheet x, as a tuple of two tuples at p -/
def ShAt (H : Hp) (p : Addr) (x : Sh) : Prop := ∃ u v : Addr, H p = some (.tup [.ref u, .ref v]) ∧ H u = some (.tup [.int x.1, .int x.2.1]) ∧ H v = some (.tup [.int x.2.2.1, .int x.2.2.2])
theorem ShAt.mono {H H' : Hp} (k : ∀ p xs, H p = some (.tup xs) → H' p = some (.tup xs)) {p : Addr} {x : Sh} (h : ShAt H p x) : ShAt H' p x := by
  obtain ⟨u, v, h1, h2, h3⟩ := h
  exact ⟨u, v, k _ _ h1, k _ _ h2, k _ _ h3⟩
theorem ShAt.same {H H' : Hp} (s : Same H H') {p : Addr} {x : Sh} (h : ShAt H p x) : ShAt H' p x := h.mono fun p xs z => s p _ z
/-- the entries of such a dict, in order: the sheet, where it stands, its number -/
abbrev DEs := List (Sh × Addr × Int)
def DRel (p : Sh × Addr × Int) (q : NestedKey × Addr × Value) : Prop := q.1 = shK p.1 ∧ q.2.1 = p.2.1 ∧ RelV (.int p.2.2) q.2.2
def DsH (P : Program) (w : World) (d : Addr) (es : DEs) (h : Heap) : Prop := (d == sysModules) = false ∧ es.length ≤ sizeLine ∧ ∃ xs : List (NestedKey × Addr × Value), Paired DRel es xs ∧
  ∃ o en ep, h.get? d = some o ∧ o.ExactDict ∧ o.data = .dict en ep ∧ en.toList = xs.map (entryOfKey (nestedKind P w)) ∧ (xs.map (·.1)).Nodup
def DS (P : Program) (w : World) (d : Addr) (es : DEs) : HO := .ext (DsH P w d es)
structure DAt (P : Program) (w : World) (H : Hp) (d : Addr) (es : DEs) : Prop where
  hd : H d = some (DS P w d es)
  ks : ∀ x ∈ es, ShAt H x.2.1 x.1
/-- as it may be read: also while a loop walks it -/
structure DRd (P : Program) (w : World) (H : Hp) (d : Addr) (es : DEs) : Prop where
  hd : Rd H d (DS P w d es)
  ks : ∀ x ∈ es, ShAt H x.2.1 x.1
theorem DAt.rd {P : Program} {w : World} {H : Hp} {d : Addr} {es : DEs} (D : DAt P w H d es) : DRd P w H d es := ⟨.inl D.hd, D.ks⟩
section
variable {P : Program} {w : World} {H : Hp} {h : Heap} {d : Addr} {es : DEs}
theorem DsH.stay {h' : Heap} (z : DsH P w d es h) (k : ∀ o, h.get? d = some o → h'.get? d = some o) : DsH P w d es h' := by
  obtain ⟨z1, z2, xs, r, o, en, ep, ho, z3⟩ := z
  exact ⟨z1, z2, xs, r, o, en, ep, k o ho, z3⟩
theorem ds_obj {H' : Hp} (z : DsH P w d es h) : ObjOk P w H' h d (DS P w d es) := by
  refine ⟨z, ?_, fun h1 h2 z1 k => z1.stay k⟩
  obtain ⟨_, _, _, _, o, _, _, ho, _⟩ := z
  exact ⟨o, ho⟩
theorem ints_at (ok : HOk P w H h) {a : Addr} {x y : Int} (e : H a = some (.tup [.int x, .int y])) : NestedIs h (.tup [.num x, .num y]) (.ref a) := by
  obtain ⟨_, its, r, o, ho, hc, n, hdat⟩ := ok a _ e
  cases r with
  | cons r1 t =>
    cases t with
    | cons r2 t =>
      cases t
      obtain ⟨t1, rfl⟩ := r1
      obtain ⟨t2, rfl⟩ := r2
      exact .tup ho hc hdat (.cons (.int x t1) (.cons (.int y t2) .nil))
theorem sh_key (ok : HOk P w H h) {p : Addr} {x : Sh} (e : ShAt H p x) : (nestedKind P w).is h (shK x) p := by
  obtain ⟨u, v, h1, h2, h3⟩ := e
  obtain ⟨_, its, r, o, ho, hc, n, hdat⟩ := ok p _ h1
  cases r with
  | cons r1 t =>
    cases t with
    | cons r2 t =>
      cases t
      cases r1
      cases r2
      exact ⟨.tup ho hc hdat (.cons (ints_at ok h2) (.cons (ints_at ok h3) .nil)), shK_depth x⟩
theorem Paired.getR {α β : Type} {F : α → β → Prop} : ∀ {l₁ : List α} {l₂ : List β}, Paired F l₁ l₂ → ∀ {b : β}, b ∈ l₂ → ∃ a ∈ l₁, F a b
  | _, _, .nil, _, hb => by cases hb
  | _, _, .cons r t, b, hb => by
    rcases List.mem_cons.mp hb with e | e
    · exact ⟨_, List.mem_cons_self, e ▸ r⟩
    · obtain ⟨a, ha, f⟩ := Paired.getR t e
      exact ⟨a, List.mem_cons_of_mem _ ha, f⟩
theorem ds_of (ok : HOk P w H h) (D : DRd P w H d es) : (d == sysModules) = false ∧ es.length ≤ sizeLine ∧ ∃ xs, Paired DRel es xs ∧ h.DictOfH (nestedKind P w) d xs := by
  obtain ⟨z1, z2, xs, r, o, en, ep, ho, h1, h2, h3, h4⟩ := (D.hd.ok ok).1
  refine ⟨z1, z2, xs, r, o, en, ep, ho, h1, h2, h3, fun y hy => ?_, h4⟩
  obtain ⟨e, he, f1, f2, _⟩ := Paired.getR r hy
  rw [f1, f2]
  exact sh_key ok (D.ks e he)
/-- the number of a sheet -/
def valD (es : DEs) (x : Sh) : Option Int := (es.find? fun e => decide (e.1 = x)).map (·.2.2)
def putD (es : DEs) (x : Sh) (p : Addr) (n : Int) : DEs := if (valD es x).isSome then es.map (fun e => if e.1 = x then (e.1, e.2.1, n) else e) else es ++ [(x, p, n)]
def dropD (es : DEs) (x : Sh) : DEs := es.filter fun e => decide (e.1 ≠ x)
theorem drel_val {xs : List (NestedKey × Addr × Value)} (r : Paired DRel es xs) (x : Sh) : RelO ((valD es x).map V.int) ((atKey xs (shK x)).map (·.2)) := by
  induction r with
  | nil => exact trivial
  | @cons p q l1 l2 h t ih =>
    obtain ⟨h1, h2, h3⟩ := h
    by_cases e : p.1 = x
    · have e2 : q.1 = shK x := by rw [h1, e]
      simp only [valD, atKey, List.find?_cons, e, e2, decide_true, Option.map_some]
      exact h3
    · have e2 : ¬ q.1 = shK x := fun z => e (shK_inj (h1.symm.trans z))
      simpa only [valD, atKey, List.find?_cons, e, e2, decide_false] using ih
theorem drel_map {xs : List (NestedKey × Addr × Value)} (r : Paired DRel es xs) (x : Sh) {n : Int} {v : Value} (rv : RelV (.int n) v) : Paired DRel (es.map fun e => if e.1 = x then (e.1, e.2.1, n) else e) (xs.map (putAt (shK x) v)) := by
  induction r with
  | nil => exact .nil
  | @cons p q l1 l2 h t ih =>
    obtain ⟨h1, h2, h3⟩ := h
    refine .cons ?_ ih
    by_cases e : p.1 = x
    · have e2 : q.1 = shK x := by rw [h1, e]
      show DRel (if p.1 = x then (p.1, p.2.1, n) else p) _
      rw [if_pos e, putAt, if_pos e2]
      exact ⟨h1, h2, rv⟩
    · have e2 : ¬ q.1 = shK x := fun z => e (shK_inj (h1.symm.trans z))
      show DRel (if p.1 = x then (p.1, p.2.1, n) else p) _
      rw [if_neg e, putAt, if_neg e2]
      exact ⟨h1, h2, h3⟩
theorem Paired.snoc {α β : Type} {F : α → β → Prop} {a : α} {b : β} (f : F a b) : ∀ {l₁ : List α} {l₂ : List β}, Paired F l₁ l₂ → Paired F (l₁ ++ [a]) (l₂ ++ [b]) := by
  intro l₁ l₂ h
  induction h with
  | nil => exact .cons f .nil
  | cons r t ih => exact .cons r ih
theorem drel_put {xs : List (NestedKey × Addr × Value)} (r : Paired DRel es xs) (x : Sh) (p : Addr) {n : Int} {v : Value} (rv : RelV (.int n) v) : Paired DRel (putD es x p n) (storedH xs (shK x) p v) := by
  have e := (drel_val r x).isSome_eq
  rw [Option.isSome_map, Option.isSome_map] at e
  unfold putD storedH
  rw [e]
  split
  · exact drel_map r x rv
  · exact Paired.snoc ⟨rfl, rfl, rv⟩ r
theorem drel_drop {xs : List (NestedKey × Addr × Value)} (r : Paired DRel es xs) (x : Sh) : Paired DRel (dropD es x) (withoutH xs (shK x)) := by
  induction r with
  | nil => exact .nil
  | @cons p q l1 l2 h t ih =>
    obtain ⟨h1, h2, h3⟩ := h
    by_cases e : p.1 = x
    · have e2 : q.1 = shK x := by rw [h1, e]
      simpa [dropD, withoutH, List.filter_cons, e, e2] using ih
    · have e2 : ¬ q.1 = shK x := fun z => e (shK_inj (h1.symm.trans z))
      simpa [dropD, withoutH, List.filter_cons, e, e2] using Paired.cons (F := DRel) ⟨h1, h2, h3⟩ ih
theorem putD_len (es : DEs) (x : Sh) (p : Addr) (n : Int) : (putD es x p n).length ≤ es.length + 1 := by
  unfold putD
  split <;> simp
theorem putD_mem {x : Sh} {p : Addr} {n : Int} {y : Sh × Addr × Int} (h : y ∈ putD es x p n) : (y.1 = x ∧ y.2.1 = p) ∨ ∃ z ∈ es, z.1 = y.1 ∧ z.2.1 = y.2.1 := by
  unfold putD at h
  split at h
  · obtain ⟨z, hz, rfl⟩ := List.mem_map.mp h
    refine .inr ⟨z, hz, ?_⟩
    split <;> exact ⟨rfl, rfl⟩
  · rcases List.mem_append.mp h with h | h
    · exact .inr ⟨y, h, rfl, rfl⟩
    · rw [List.mem_singleton.mp h]
      exact .inl ⟨rfl, rfl⟩
theorem dropD_mem {x : Sh} {y : Sh × Addr × Int} (h : y ∈ dropD es x) : y ∈ es := (List.mem_filter.mp h).1
theorem tup_ext {l : Addr} {φ : Heap → Prop} {o : HO} (hl : H l = some (.ext φ)) (p : Addr) (xs : List V) (e : H p = some (.tup xs)) : (upd H l o) p = some (.tup xs) := (upd_ne (ne_of e hl (by intro z; cases z))).trans e
theorem DAt.same {H' : Hp} (D : DAt P w H d es) (s : Same H H') : DAt P w H' d es := ⟨s _ _ D.hd, fun x hx => (D.ks x hx).same s⟩
theorem DAt.put {x : Sh} {p : Addr} {n : Int} (D : DAt P w H d es) (hp : ShAt H p x) : DAt P w (upd H d (DS P w d (putD es x p n))) d (putD es x p n) := by
  refine ⟨upd_same, fun y hy => ?_⟩
  refine ShAt.mono (tup_ext D.hd) ?_
  rcases putD_mem hy with ⟨e1, e2⟩ | ⟨z, hz, e1, e2⟩
  · rw [e1, e2]
    exact hp
  · rw [← e1, ← e2]
    exact D.ks z hz
theorem DAt.drop {x : Sh} (D : DAt P w H d es) : DAt P w (upd H d (DS P w d (dropD es x))) d (dropD es x) := ⟨upd_same, fun y hy => (D.ks y (dropD_mem hy)).mono (tup_ext D.hd)⟩
end
/-! the operations -/
section
variable {X : Cx} {pins : List (Addr × Obj)} {σ : L2.St} {H : Hp} {s : Shared} {d p : Addr} {es : DEs} {x : Sh} {A : Around} {E : Value → Shared → Prop}
theorem ds_getItem {n : Int} {Q : Value → Shared → Prop} (hu : A.units + 9 < cLine) (I : Inv X pins σ H s) (D : DRd X.prog X.w H d es) (hp : ShAt H p x) (hv : valD es x = some n) (q : ∀ t s', Inv X pins σ H s' → Q (.int n t) s') :
    wpAny (model X.prog X.w) A (getItem (.ref d) (.ref p)) Q E s := by
  obtain ⟨_, _, xs, r, dd⟩ := ds_of I.hok D
  have rel := drel_val r x
  rw [hv] at rel
  obtain ⟨w', hw, rw'⟩ := RelO.some_of (v := V.int n) rel
  obtain ⟨y, hy, hy2⟩ := Option.map_eq_some_iff.mp hw
  refine wpAny_getItem_heap (show A.in1.units + 8 < cLine from hu) (sh_key I.hok hp) dd hy ?_
  rw [hy2]
  obtain ⟨t, rfl⟩ := rw'
  exact q t _ (I.tok _)
theorem ds_in {Q : Value → Shared → Prop} (hu : A.units + 9 < cLine) (I : Inv X pins σ H s) (D : DRd X.prog X.w H d es) (hp : ShAt H p x) (q : ∀ s', Inv X pins σ H s' → Q (.bool (valD es x).isSome) s') :
    wpAny (model X.prog X.w) A (compareOp .In (.ref p) (.ref d)) Q E s := by
  obtain ⟨hs, _, xs, r, dd⟩ := ds_of I.hok D
  refine wpAny_in_heap (show A.in1.units + 8 < cLine from hu) (sh_key I.hok hp) hs dd ?_
  have e := (drel_val r x).isSome_eq
  rw [Option.isSome_map, Option.isSome_map] at e
  rw [← e]
  exact q _ (I.tok _)
theorem ds_getOr {n : Int} {r' : Value} {Q : Value → Shared → Prop} (hu : A.units + 9 < cLine) (I : Inv X pins σ H s) (D : DRd X.prog X.w H d es) (hp : ShAt H p x) (rn : RelV (.int n) r') (q : ∀ t s', Inv X pins σ H s' → Q (.int ((valD es x).getD n) t) s') :
    wpAny (model X.prog X.w) A (call (.builtin "dict.get") [.ref d, .ref p, r']) Q E s := by
  obtain ⟨hs, _, xs, r, dd⟩ := ds_of I.hok D
  refine call_meetsIn PySem.F.slot_dict_get dd.typeIs PySem.F.entry_dict_get (PySem.F.args_dict_get_3 _ _ _) (meetsH_dict_get_default (nestedKind X.prog X.w) d p hs r') ⟨show A.in1.units + 8 < cLine from hu, shK x, xs, sh_key I.hok hp, dd, ?_⟩
  have rel := (drel_val r x).getD rn
  have e : ((valD es x).map V.int).getD (.int n) = .int ((valD es x).getD n) := by cases valD es x <;> rfl
  rw [e] at rel
  obtain ⟨t, et⟩ := rel
  rw [et]
  exact q t _ (I.tok _)
theorem ds_setItem {n : Int} {v : Value} {Q : Unit → Shared → Prop} (hu : A.units + 9 < cLine) (I : Inv X pins σ H s) (D : DAt X.prog X.w H d es) (hp : ShAt H p x) (rv : RelV (.int n) v) (hl : es.length < sizeLine)
    (q : ∀ s', Inv X pins σ (upd H d (DS X.prog X.w d (putD es x p n))) s' → Q () s') : wpAny (model X.prog X.w) A (setItem (.ref d) (.ref p) v) Q E s := by
  obtain ⟨hs, hz, xs, r, dd⟩ := ds_of I.hok D.rd
  have hz' : xs.length ≤ sizeLine := by rw [← Paired.length r]; exact hz
  refine wpAny_setItem_heap (hsz := hz') (show A.in1.units + 8 < cLine from hu) (sh_key I.hok hp) dd fun h' dd' hsb => q _ ?_
  obtain ⟨o, en, ep, h1, h2, h3, h4, _, h5⟩ := dd'
  refine d_write I (by rw [D.hd]; exact True.intro) hsb ⟨o, h1⟩ (ds_obj ⟨hs, ?_, _, drel_put r x p rv, o, en, ep, h1, h2, h3, h4, h5⟩)
  have := putD_len es x p n
  omega
theorem ds_del {Q : Unit → Shared → Prop} {n : Int} (hu : A.units + 9 < cLine) (I : Inv X pins σ H s) (D : DAt X.prog X.w H d es) (hp : ShAt H p x) (hv : valD es x = some n)
    (q : ∀ s', Inv X pins σ (upd H d (DS X.prog X.w d (dropD es x))) s' → Q () s') : wpAny (model X.prog X.w) A (delItem (.ref d) (.ref p)) Q E s := by
  obtain ⟨hs, hz, xs, r, dd⟩ := ds_of I.hok D.rd
  have hz' : xs.length ≤ sizeLine := by rw [← Paired.length r]; exact hz
  have rel := drel_val r x
  rw [hv] at rel
  obtain ⟨w', hw, rw'⟩ := RelO.some_of (v := V.int n) rel
  obtain ⟨y, hy, hy2⟩ := Option.map_eq_some_iff.mp hw
  refine wpAny_delItem_heap (hsz := hz') (show A.in1.units + 8 < cLine from hu) (sh_key I.hok hp) hs dd hy fun h' dd' hsb => q _ ?_
  obtain ⟨o, en, ep, h1, h2, h3, h4, _, h5⟩ := dd'
  refine d_write I (by rw [D.hd]; exact True.intro) hsb ⟨o, h1⟩ (ds_obj ⟨hs, ?_, _, drel_drop r x, o, en, ep, h1, h2, h3, h4, h5⟩)
  exact Nat.le_trans (List.length_filter_le _ _) hz
end
/-! as terms -/
section
variable {X : Cx} {pos pos' apos cpos tpos : Pos} {o i e f value : Expr} {td ty tx tv : TE}
theorem pe_dnewS : PE X (.Dict [] [] pos) (fun _ H Q => ∀ p, H p = none → Q (.ref p) (upd H p (DS X.prog X.w p []))) := ⟨fun pins s σ H Q I h => by
  refine wpAny_Dict_empty ⟨.ref s.heap.objs.size, _, I.laid (a := s.heap.objs.size) (o := DS X.prog X.w s.heap.objs.size []) (t' := s.toks) (fun _ _ q => Heap.get?_push_of_some _ q) (Nat.le_refl _) (ds_obj ?_), rfl, h _ (I.hok.fresh (Nat.le_refl _))⟩
  exact ⟨beq_eq_false_iff_ne.mpr (Ne.symm (Nat.ne_of_lt I.big)), Nat.zero_le _, [], .nil, _, #[], 0, Heap.get?_push_size _ rfl, ⟨rfl, rfl, rfl⟩, rfl, rfl, List.nodup_nil⟩⟩
def tSGet (P : Program) (w : World) (td ty : TE) : TE := fun σ H Q => td σ H fun v H1 => ty σ H1 fun y H2 => ∃ d p es x n, v = .ref d ∧ y = .ref p ∧ DRd P w H2 d es ∧ ShAt H2 p x ∧ valD es x = some n ∧ Q (.int n) H2
theorem ds_dict {pins : List (Addr × Obj)} {σ : L2.St} {H : Hp} {s : Shared} {d : Addr} {es : DEs} (I : Inv X pins σ H s) (D : DRd X.prog X.w H d es) : s.TypeIs (.ref d) "dict" ∧ (∀ b, Value.ref d = .ref b → ∃ ob, s.heap.get? b = some ob ∧ ob.dict = none) := by
  obtain ⟨_, _, xs, _, dd⟩ := ds_of I.hok D
  refine ⟨dd.typeIs, fun b z => ?_⟩
  cases z
  obtain ⟨ob, _, _, h1, h2, _⟩ := dd
  exact ⟨ob, h1, h2.2.1⟩
end
/-! ### dicts of sheets: in, d[k], d[k] = v, del d[k], d.get(k, n) -/
section
variable {X : Cx} {pos pos' apos cpos tpos : Pos} {o i e f value : Expr} {td ty tx tv : TE}
def rInDS (P : Program) (w : World) (neg : Bool) : R2 := fun y v H Q => ∃ p d es x, y = .ref p ∧ v = .ref d ∧ DRd P w H d es ∧ ShAt H p x ∧ Q (.bl ((valD es x).isSome != neg)) H
theorem op_inDS (hu : X.A.units + 64 < cLine) : OpR X (compareOp .In) (rInDS X.prog X.w false) := by
  intro pins s σ H y v y' v' Q I ry rv q
  obtain ⟨p, d, es, x, rfl, rfl, D, hp, q⟩ := q
  cases ry
  cases rv
  refine ds_in (by omega) I D hp fun s' I' => ⟨.bl (valD es x).isSome, H, I', rfl, ?_⟩
  rw [show (valD es x).isSome = ((valD es x).isSome != false) by simp]
  exact q
theorem op_notInDS (hu : X.A.units + 64 < cLine) : OpR X (compareOp .NotIn) (rInDS X.prog X.w true) := by
  intro pins s σ H y v y' v' Q I ry rv q
  obtain ⟨p, d, es, x, rfl, rfl, D, hp, q⟩ := q
  cases ry
  cases rv
  obtain ⟨hs, _, xs, r, dd⟩ := ds_of I.hok D
  refine wpAny_notIn_heap (show X.A.in1.units + 8 < cLine from by show X.A.units + 1 + 8 < cLine; omega) (sh_key I.hok hp) hs dd ?_
  have z := (drel_val r x).isSome_eq
  rw [Option.isSome_map, Option.isSome_map] at z
  rw [← z]
  refine ⟨.bl (!(valD es x).isSome), H, I.tok _, rfl, ?_⟩
  rw [show (!(valD es x).isSome) = ((valD es x).isSome != true) by simp]
  exact q
theorem pe_sget (hu : X.A.units + 64 < cLine) (ho : PE X o td) (hi : PE X i ty) (hs : NoSl i) : PE X (.Subscript o i pos) (tSGet X.prog X.w td ty) := by
  refine ⟨fun pins s σ H Q I q => ?_⟩
  refine subD_of PySem.F.slot_dict_getitem.lookup hs (thn (ho.run pins s σ H _ I q) fun u s1 ⟨v, H1, I1, rv, q1⟩ => thn (hi.run pins s1 σ H1 _ I1 q1) fun iv s2 zz => ?_)
  obtain ⟨y, H2, I2, ry, d, p, es, x, n, e1, e2, D, hp, hv, q2⟩ := zz
  subst e1 e2
  cases rv
  cases ry
  exact ⟨(ds_dict I2 D).1, ds_getItem (by omega) I2 D hp hv fun t s3 I3 => ⟨.int n, H2, I3, ⟨t, rfl⟩, q2⟩⟩
def sSPut (P : Program) (w : World) (td ty tv : TE) : TS := fun D σ H => tv σ H fun v H1 => td σ H1 fun v2 H2 => ty σ H2 fun y H3 => ∃ d p es x n, v = .int n ∧ v2 = .ref d ∧ y = .ref p ∧ DAt P w H3 d es ∧ ShAt H3 p x ∧ es.length < sizeLine ∧ D.nx σ (upd H3 d (DS P w d (putD es x p n)))
theorem ps_sput (hu : X.A.units + 64 < cLine) (ho : PE X o td) (hi : PE X i ty) (hv : PE X value tv) (hs : swapsWith value (some (.Subscript o i pos')) pos.line X.env = pure false) : PS X (.Assign [.Subscript o i pos'] value pos) (sSPut X.prog X.w td ty tv) := by
  refine ⟨fun pins s σ H D I q => ?_⟩
  refine wpAny_Assign_Subscript (thn (hv.run pins s σ H _ I q) fun r s1 ⟨v, H1, I1, rv, q1⟩ => thn (ho.run pins s1 σ H1 _ I1 q1) fun u s2 ⟨v2, H2, I2, rv2, q2⟩ => thn (hi.run pins s2 σ H2 _ I2 q2) fun iv s3 zz => ?_) hs
  obtain ⟨y, H3, I3, ry, d, p, es, x, n, e1, e2, e3, DA, hp, hl, q3⟩ := zz
  subst e1 e2 e3
  cases rv2
  cases ry
  exact ds_setItem (by omega) I3 DA hp rv hl fun s4 I4 => ⟨σ, _, I4, q3⟩
def sSDel (P : Program) (w : World) (td ty : TE) : TS := fun D σ H => td σ H fun v2 H2 => ty σ H2 fun y H3 => ∃ d p es x n, v2 = .ref d ∧ y = .ref p ∧ DAt P w H3 d es ∧ ShAt H3 p x ∧ valD es x = some n ∧ D.nx σ (upd H3 d (DS P w d (dropD es x)))
theorem ps_sdel (hu : X.A.units + 64 < cLine) (ho : PE X o td) (hi : PE X i ty) : PS X (.Delete [.Subscript o i tpos] pos) (sSDel X.prog X.w td ty) := by
  refine ⟨fun pins s σ H D I q => ?_⟩
  refine wpAny_Delete (wpAny_deleteEach_cons (wpAny_delete_Subscript (thn (ho.run pins s σ H _ I q) fun u s1 ⟨v2, H1, I1, rv2, q1⟩ => thn (hi.run pins s1 σ H1 _ I1 q1) fun iv s2 zz => ?_)))
  obtain ⟨y, H2, I2, ry, d, p, es, x, n, e2, e3, DA, hp, hv, q2⟩ := zz
  subst e2 e3
  cases rv2
  cases ry
  exact ds_del (by omega) I2 DA hp hv fun s3 I3 => wpAny_deleteEach_nil ⟨σ, _, I3, q2⟩
def sSAug (P : Program) (w : World) (td ty tv : TE) (rd : V → V → Hp → VK → Prop) : TS := fun D σ H => td σ H fun v2 H1 => ty σ H1 fun y H2 => ∃ d p es x n, v2 = .ref d ∧ y = .ref p ∧ DAt P w H2 d es ∧ ShAt H2 p x ∧ valD es x = some n ∧
  tv σ H2 fun y2 H3 => rd (.int n) y2 H3 fun z H4 => ∃ es2 m, z = .int m ∧ DAt P w H4 d es2 ∧ ShAt H4 p x ∧ es2.length < sizeLine ∧ D.nx σ (upd H4 d (DS P w d (putD es2 x p m)))
theorem ps_saug {op : Operator} {rd : V → V → Hp → VK → Prop} (hu : X.A.units + 64 < cLine) (ho : PE X o td) (hi : PE X i ty) (hv : PE X value tv) (hop : InOp X op rd)
    (ha : ∀ ov iv new, augStore i ov iv new = (do holding [new, ov, iv] (setItem ov iv new); release [new, ov, iv] []; pure .next)) : PS X (.AugAssign (.Subscript o i tpos) op value pos) (sSAug X.prog X.w td ty tv rd) := by
  refine ⟨fun pins s σ H D I q => ?_⟩
  refine wpAny_AugAssign_SubscriptAny (thn (ho.run pins s σ H _ I q) fun u s1 ⟨v2, H1, I1, rv2, q1⟩ => thn (hi.run pins s1 σ H1 _ I1 q1) fun iv s2 zz => ?_) ha
  obtain ⟨y, H2, I2, ry, d, p, es, x, n, e2, e3, DA, hp, hval, q2⟩ := zz
  subst e2 e3
  cases rv2
  cases ry
  refine ds_getItem (by omega) I2 DA.rd hp hval fun t s3 I3 => thn (hv.run pins s3 σ H2 _ I3 q2) fun w2 s4 ⟨y2, H3, I4, ry2, q3⟩ => ?_
  refine thn (hop pins s4 σ H3 (.int n) y2 (.int n t) w2 _ I4 ⟨t, rfl⟩ ry2 q3) fun w3 s5 zz => ?_
  obtain ⟨z, H4, I5, rz, es2, m, ez, DA2, hp2, hl, q4⟩ := zz
  subst ez
  exact ds_setItem (by omega) I5 DA2 hp2 rz hl fun s6 I6 => ⟨σ, _, I6, q4⟩
def tSGet2 (P : Program) (w : World) (td ty tx : TE) : TE := fun σ H Q => td σ H fun v H1 => ∃ d es, v = .ref d ∧ DRd P w H1 d es ∧ ty σ H1 fun y H2 => tx σ H2 fun z H3 => ∃ p x n es3, y = .ref p ∧ z = .int n ∧ DRd P w H3 d es3 ∧ ShAt H3 p x ∧ Q (.int ((valD es3 x).getD n)) H3
theorem pe_sget2 (hu : X.A.units + 64 < cLine) (ho : PE X o td) (he : PE X e ty) (hf : PE X f tx) (m : M2 X o "get" apos e f cpos) : PE X (.Call (.Attribute o "get" apos) [e, f] [] cpos) (tSGet2 X.prog X.w td ty tx) := by
  refine ⟨fun pins s σ H Q I q => ?_⟩
  refine wpAny_Call_method m.base m.few m.line PySem.F.plainAttrs_dict PySem.F.slot_dict_get PySem.F.type_dict_get (thn (ho.run pins s σ H _ I q) fun u s1 zz => ?_)
  obtain ⟨v, H1, I1, rv, d, es, ev, DA, q1⟩ := zz
  subst ev
  cases rv
  obtain ⟨t1, t2⟩ := ds_dict I1 DA
  refine ⟨t1, t2, ?_⟩
  rw [m.trees]
  refine Calls.callWith_builtin rfl (Calls.evalArgs_plain (Calls.spliced_cons (thn (he.run pins s1 σ H1 _ I1 q1) fun iv s2 ⟨y, H2, I2, ry, q2⟩ => ?_)))
  refine Calls.spliced_cons (thn (hf.run pins s2 σ H2 _ I2 q2) fun fv s3 ⟨z, H3, I3, rz, p, x, n, es3, ey, ez, DA3, hp, q3⟩ => Calls.spliced_nil ?_)
  subst ey ez
  cases ry
  exact ds_getOr (by omega) I3 DA3 hp rz fun t s4 I4 => ⟨.int _, H3, I4, ⟨t, rfl⟩, q3⟩
end
/-! ### many new objects at once -/
def addAll (H : Hp) : List (Addr × HO) → Hp
  | [] => H
  | z :: zs => addAll (upd H z.1 z.2) zs
theorem addAll_other {a : Addr} : ∀ {zs : List (Addr × HO)} {H : Hp}, (∀ z ∈ zs, z.1 ≠ a) → addAll H zs a = H a
  | [], _, _ => rfl
  | z :: zs, H, h => by
    show addAll (upd H z.1 z.2) zs a = H a
    rw [addAll_other fun y hy => h y (List.mem_cons_of_mem _ hy), upd_ne (Ne.symm (h z List.mem_cons_self))]
theorem addAll_at {a : Addr} {o : HO} : ∀ {zs : List (Addr × HO)} {H : Hp}, (zs.map (·.1)).Nodup → (a, o) ∈ zs → addAll H zs a = some o
  | [], _, _, h => by cases h
  | z :: zs, H, n, h => by
    rw [List.map_cons, List.nodup_cons] at n
    show addAll (upd H z.1 z.2) zs a = some o
    rcases List.mem_cons.mp h with e | e
    · rw [← e, addAll_other fun y hy z' => n.1 (List.mem_map.mpr ⟨y, hy, by rw [z', ← e]⟩), upd_same]
    · exact addAll_at n.2 e
theorem addAll_mem {a : Addr} {o : HO} : ∀ {zs : List (Addr × HO)} {H : Hp}, addAll H zs a = some o → (a, o) ∈ zs ∨ H a = some o
  | [], _, h => .inr h
  | z :: zs, H, h => by
    rcases addAll_mem (zs := zs) (H := upd H z.1 z.2) h with e | e
    · exact .inl (List.mem_cons_of_mem _ e)
    · by_cases ha : a = z.1
      · subst ha
        rw [upd_same] at e
        cases e
        exact .inl List.mem_cons_self
      · rw [upd_ne ha] at e
        exact .inr e
theorem addAll_same {zs : List (Addr × HO)} {H : Hp} (n : ∀ z ∈ zs, H z.1 = none) : Same H (addAll H zs) := fun a o e => (addAll_other fun z hz => (ne_of_none e (n z hz)).symm).trans e
section
variable {X : Cx} {pins : List (Addr × Obj)} {σ : L2.St} {H : Hp} {s : Shared}
theorem Inv.lays {h' : Heap} {t' : Nat} {zs : List (Addr × HO)} (I : Inv X pins σ H s) (k : ∀ b u, s.heap.get? b = some u → h'.get? b = some u) (hp : ∀ z ∈ zs, s.heap.objs.size ≤ z.1)
    (new : ∀ z ∈ zs, ObjOk X.prog X.w (addAll H zs) h' z.1 z.2) : Inv X pins σ (addAll H zs) { s with heap := h', toks := t' } := by
  have hn : ∀ z ∈ zs, H z.1 = none := fun z hz => I.hok.fresh (hp z hz)
  have sm := addAll_same hn
  refine I.call (ch := []) (g' := s.gens) (d' := s.drawn) ⟨fun b u q _ _ _ => k b u q, fun b u q _ _ _ => ⟨u.slots, k b u q⟩, fun b u q n _ => ?_, fun b u q _ => ⟨u, k b u q⟩, fun b xs q => sm _ _ q, fun b u v q => sm _ _ q, fun b ps q => ⟨#[], by rw [sm _ _ q]; simp⟩⟩ (fun b o q => ?_) I.bare (fun _ z => nomatch z)
  · rw [addAll_other fun z hz e => ?_]
    · exact n
    · have y := hp z hz
      rw [e] at y
      exact absurd (Nat.lt_of_lt_of_le (Heap.lt_size q) y) (Nat.lt_irrefl _)
  · rcases addAll_mem q with z | z
    · exact new _ z
    · exact (I.hok b o z).stay (fun c v _ y => k c v y) (fun c y => sm _ _ y) fun c xs y => sm _ _ y
end
/-! ### dicts of sheets: items, keys, values as lists; sorted -/
theorem Paired.getL {α β : Type} {F : α → β → Prop} : ∀ {l₁ : List α} {l₂ : List β}, Paired F l₁ l₂ → ∀ {j : Nat} {a : α}, l₁[j]? = some a → ∃ b, l₂[j]? = some b ∧ F a b := by
  intro l₁ l₂ h
  induction h with
  | nil =>
    intro j a h
    simp at h
  | cons r t ih =>
    intro j a h
    cases j with
    | zero =>
      cases h
      exact ⟨_, rfl, r⟩
    | succ j => exact ih (j := j) (by simpa using h)
theorem Paired.byIx {α β : Type} {F : α → β → Prop} : ∀ {l₁ : List α} {l₂ : List β}, l₁.length = l₂.length → (∀ (j : Nat) (a : α) (b : β), l₁[j]? = some a → l₂[j]? = some b → F a b) → Paired F l₁ l₂
  | [], [], _, _ => .nil
  | a :: l₁, b :: l₂, h, f => .cons (f 0 a b rfl rfl) (Paired.byIx (by simpa using h) fun j x y h1 h2 => f (j + 1) x y (by simpa using h1) (by simpa using h2))
  | [], _ :: _, h, _ => by simp at h
  | _ :: _, [], h, _ => by simp at h
section
variable {P : Program} {w : World} {es : DEs}
theorem ds_ent {xs : List (NestedKey × Addr × Value)} {en : Array DictEntry} (he : en.toList = xs.map (entryOfKey (nestedKind P w))) (r : Paired DRel es xs) {j : Nat} {e : Sh × Addr × Int} (h : es[j]? = some e) :
    ∃ hs v, en[j]? = some ⟨hs, .ref e.2.1, v⟩ ∧ RelV (.int e.2.2) v := by
  obtain ⟨y, hy, h1, h2, h3⟩ := Paired.getL r h
  refine ⟨(nestedKind P w).hash y.1, y.2.2, ?_, h3⟩
  rw [entry_at he j, hy, ← h2]
  rfl
theorem ds_size {xs : List (NestedKey × Addr × Value)} {en : Array DictEntry} (he : en.toList = xs.map (entryOfKey (nestedKind P w))) (r : Paired DRel es xs) : en.size = es.length := (size_of_entries he).trans (Paired.length r).symm
end
section
variable {X : Cx}
def rItemsDS (P : Program) (w : World) : V → List V → Hp → VK → Prop := fun x xs H Q => ∃ d es, x = .ref d ∧ xs = [] ∧ DAt P w H d es ∧ ∀ p, H p = none → Q (.ref p) (upd H p (DX.itemsO p d))
theorem mt_itemsDS : MtR X "dict.items" (rItemsDS X.prog X.w) := by
  intro pins s σ H x xs v us Q I rx rxs q
  obtain ⟨d, es, rfl, rfl, D, q⟩ := q
  cases rx
  cases rxs
  obtain ⟨hs, _, ys, r, o, en, ep, ho, hx, hdat, _⟩ := (I.hok d _ D.hd).1
  refine DT.callItems (es := en) (ep := ep) hs ⟨o, ho, hx, hdat⟩ ?_
  exact ⟨.ref s.heap.objs.size, upd H s.heap.objs.size (DX.itemsO s.heap.objs.size d), I.laid (t' := s.toks) (fun b u z => Heap.get?_push_of_some _ z) (Nat.le_refl _) (DX.itemsO_ok (Heap.get?_push_size _ rfl)), rfl, q _ (I.hok.fresh (Nat.le_refl _))⟩
/-- rows: a list of tuples of a sheet and its number -/
def RowsAt (H : Hp) (as : List Addr) (es : DEs) : Prop := Paired (fun a (e : Sh × Addr × Int) => H a = some (.tup [.ref e.2.1, .int e.2.2])) as es
theorem RowsAt.mono {H H' : Hp} {as : List Addr} {es : DEs} (h : RowsAt H as es) (k : ∀ p xs, H p = some (.tup xs) → H' p = some (.tup xs)) : RowsAt H' as es := Paired.mapP h fun a e z => k _ _ z
def rListItems (P : Program) (w : World) : List V → Hp → VK → Prop := fun vs H Q => ∃ p d es, vs = [.ref p] ∧ H p = some (DX.itemsO p d) ∧ DAt P w H d es ∧
  ∀ l as H', H l = none → Same H H' → H' l = some (.lst (as.map V.ref)) → RowsAt H' as es → Q (.ref l) H'
theorem call_list_itemsDS (hc : X.calm = true) : CallR X (.type "list") (rListItems X.prog X.w) := by
  intro pins s σ H vs us Q I r q
  obtain ⟨p, d, es, rfl, hp, D, q⟩ := q
  obtain ⟨u, rfl, rx⟩ := r.one
  cases rx
  obtain ⟨hs, hz, ys, rel, o, en, ep, ho, hx, hdat, he, _⟩ := (I.hok d _ D.hd).1
  have view : s.heap.IsItemsView p d := (I.hok p _ hp).1
  have hsz := ds_size he rel
  refine PySem.W.dil_call (es := en) (ep := ep) (I.ok.hd hc) view ⟨o, ho, hx, hdat⟩ (by omega) fun h' tk acc c as hk hS hl hG hacc => ?_
  have hal : as.length = es.length := by omega
  have ab : ∀ a ∈ as, s.heap.objs.size < a := hG.above
  have nd : as.Nodup := hG.rise.imp fun h => Nat.ne_of_lt h
  have hin : ∀ z ∈ (s.heap.objs.size, HO.lst (as.map V.ref)) :: (as.zip es).map (fun z => (z.1, HO.tup [.ref z.2.2.1, .int z.2.2.2])), s.heap.objs.size ≤ z.1 := by
    intro z hz
    rcases List.mem_cons.mp hz with e | e
    · rw [e]
      exact Nat.le_refl _
    · obtain ⟨y, hy, rfl⟩ := List.mem_map.mp e
      exact Nat.le_of_lt (ab _ (List.of_mem_zip hy).1)
  have hm : ((as.zip es).map (fun z : Addr × Sh × Addr × Int => (z.1, HO.tup [.ref z.2.2.1, .int z.2.2.2]))).map (·.1) = as := by
    rw [List.map_map]
    show (as.zip es).map (fun z => z.1) = as
    exact List.map_fst_zip (by omega)
  have hnd : (((s.heap.objs.size, HO.lst (as.map V.ref)) :: (as.zip es).map (fun z => (z.1, HO.tup [.ref z.2.2.1, .int z.2.2.2]))).map (·.1)).Nodup := by
    rw [List.map_cons, hm, List.nodup_cons]
    exact ⟨fun z => Nat.lt_irrefl _ (ab _ z), nd⟩
  have J := Inv.lays (t' := tk) I hk hin fun z hz => by
    rcases List.mem_cons.mp hz with e | e
    · rw [e]
      refine ⟨by rw [List.length_map]; omega, acc.toList, c, ?_, by rw [Array.toArray_toList]; exact hS⟩
      rw [hacc]
      exact vals_refs as
    · obtain ⟨y, hy, rfl⟩ := List.mem_map.mp e
      obtain ⟨j, hj⟩ := List.mem_iff_getElem?.mp hy
      rw [List.getElem?_zip_eq_some] at hj
      obtain ⟨hlt, hpair⟩ := hG.pairs j _ hj.1
      obtain ⟨hsh, v, hv, rv⟩ := ds_ent he rel hj.2
      have e1 : en[j] = ⟨hsh, .ref y.2.2.1, v⟩ := by
        rw [Array.getElem?_eq_getElem hlt] at hv
        exact Option.some.inj hv
      rw [e1] at hpair
      exact ⟨by show 2 ≤ sizeLine; decide, [.ref y.2.2.1, v], .cons rfl (.cons rv .nil), _, hpair, rfl, _, rfl⟩
  have fr := fun z hz => I.hok.fresh (hin z hz)
  refine ⟨.ref s.heap.objs.size, _, J, rfl, q _ as _ (I.hok.fresh (Nat.le_refl _)) (addAll_same fr) (addAll_at hnd List.mem_cons_self) ?_⟩
  refine Paired.byIx hal fun j a e h1 h2 => addAll_at hnd (List.mem_cons_of_mem _ (List.mem_map.mpr ⟨(a, e), ?_, rfl⟩))
  exact List.mem_of_getElem? (List.getElem?_zip_eq_some.mpr ⟨h1, h2⟩)
theorem refs_by {ys : List (NestedKey × Addr × Value)} {en : Array DictEntry} {es : DEs} {acc : Array Value} (he : en.toList = ys.map (entryOfKey (nestedKind X.prog X.w))) (rel : Paired DRel es ys)
    (hl : acc.size = en.size) (hv : ∀ (j : Nat) (v : Value), acc[j]? = some v → ∃ e : DictEntry, en[j]? = some e ∧ v = e.key) : acc.toList = (es.map fun e => e.2.1).map Value.ref := by
  have hs := ds_size he rel
  apply List.ext_getElem?
  intro j
  rw [List.getElem?_map, List.getElem?_map, Array.getElem?_toList]
  cases hj : acc[j]? with
  | none =>
    have : acc.size ≤ j := by simpa using hj
    rw [List.getElem?_eq_none (by omega)]
    rfl
  | some v =>
    obtain ⟨e, h1, rfl⟩ := hv j v hj
    have : j < acc.size := by
      rcases Nat.lt_or_ge j acc.size with z | z
      · exact z
      · rw [Array.getElem?_eq_none z] at hj
        cases hj
    obtain ⟨e2, h2⟩ : ∃ e2, es[j]? = some e2 := ⟨es[j]'(by omega), List.getElem?_eq_getElem (by omega)⟩
    obtain ⟨hsh, v, h3, _⟩ := ds_ent he rel h2
    rw [h1] at h3
    rw [h2, Option.some.inj h3]
    rfl
/-- list(d) -/
def rListKeys (P : Program) (w : World) : List V → Hp → VK → Prop := fun vs H Q => ∃ d es, vs = [.ref d] ∧ DAt P w H d es ∧ ∀ p, H p = none → Q (.ref p) (upd H p (.lst (es.map fun e => V.ref e.2.1)))
theorem call_list_DS (hc : X.calm = true) : CallR X (.type "list") (rListKeys X.prog X.w) := by
  intro pins s σ H vs us Q I r q
  obtain ⟨d, es, rfl, D, q⟩ := q
  obtain ⟨u, rfl, rx⟩ := r.one
  cases rx
  obtain ⟨hs, hz, ys, rel, o, en, ep, ho, hx, hdat, he, _⟩ := (I.hok d _ D.hd).1
  have hsz := ds_size he rel
  refine PySem.W.kdl_call (kdl_raw hs hx hdat) (I.ok.hd hc) ho (by omega) fun h' tk acc c kp e it => ?_
  have ea := refs_by (X := X) he rel it.1 fun j v hv => it.2 j v hv
  refine ⟨.ref s.heap.objs.size, _, I.laid (t' := tk) (o := .lst (es.map fun e => V.ref e.2.1)) kp (Nat.le_refl _) ?_, rfl, q _ (I.hok.fresh (Nat.le_refl _))⟩
  refine ⟨by rw [List.length_map]; exact hz, acc.toList, c, ?_, by rw [Array.toArray_toList]; exact e⟩
  rw [ea, show (es.map fun e => V.ref e.2.1) = (es.map fun e => e.2.1).map V.ref by rw [List.map_map]; rfl]
  exact vals_refs _
end
/-! the order of sheets -/
def encS (x : Sh) : PyData := .tuple [.tuple [.int x.1, .int x.2.1], .tuple [.int x.2.2.1, .int x.2.2.2]]
def ltS (x y : Sh) : Prop := x.1 < y.1 ∨ (x.1 = y.1 ∧ (x.2.1 < y.2.1 ∨ (x.2.1 = y.2.1 ∧ (x.2.2.1 < y.2.2.1 ∨ (x.2.2.1 = y.2.2.1 ∧ x.2.2.2 < y.2.2.2)))))
instance (x y : Sh) : Decidable (ltS x y) := by unfold ltS; infer_instance
def leS (x y : Sh) : Bool := !decide (ltS y x)
theorem lt_encS (x y : Sh) : PySem.W.dataLt (encS x) (encS y) = decide (ltS x y) := by
  unfold encS
  rw [PySem.W.dataLt_pair (by simp [PySem.W.alike, PySem.W.alikeAll]) (by simp [PySem.W.alike, PySem.W.alikeAll]), PySem.W.dataLt_ii, PySem.W.dataLt_ii]
  simp only [PyData.eqv, PyData.eqvAll, Bool.and_true, Bool.and_eq_true, beq_iff_eq]
  obtain ⟨a, b, c, e⟩ := x
  obtain ⟨a', b', c', e'⟩ := y
  dsimp only
  rw [Bool.eq_iff_iff, decide_eq_true_iff]
  unfold ltS
  dsimp only
  by_cases h1 : a = a' ∧ b = b'
  · rw [if_pos h1]
    by_cases h2 : c = c' ∧ e = e'
    · rw [if_pos h2]
      constructor
      · intro z
        cases z
      · omega
    · rw [if_neg h2, decide_eq_true_iff]
      omega
  · rw [if_neg h1, decide_eq_true_iff]
    omega
theorem le_encS {β : Type} (f : β → Sh) : PySem.W.dataLe false (fun b => encS (f b)) = fun a b => leS (f a) (f b) := by
  funext a b
  show (!PySem.W.dataLt (encS (f b)) (encS (f a))) = _
  rw [lt_encS]
  rfl
theorem lx_tr {a b c : Int} {p q r : Prop} (f : p → q → r) (h1 : a < b ∨ (a = b ∧ p)) (h2 : b < c ∨ (b = c ∧ q)) : a < c ∨ (a = c ∧ r) := by
  rcases h1 with h1 | ⟨rfl, h1⟩
  · rcases h2 with h2 | ⟨rfl, h2⟩
    · exact .inl (Int.lt_trans h1 h2)
    · exact .inl h1
  · rcases h2 with h2 | ⟨rfl, h2⟩
    · exact .inl h2
    · exact .inr ⟨rfl, f h1 h2⟩
theorem lx_tri (a b : Int) {p q e : Prop} (h : p ∨ e ∨ q) : (a < b ∨ (a = b ∧ p)) ∨ (a = b ∧ e) ∨ (b < a ∨ (b = a ∧ q)) := by
  rcases Int.lt_trichotomy a b with l | rfl | l
  · exact .inl (.inl l)
  · rcases h with h | h | h
    · exact .inl (.inr ⟨rfl, h⟩)
    · exact .inr (.inl ⟨rfl, h⟩)
    · exact .inr (.inr (.inr ⟨rfl, h⟩))
  · exact .inr (.inr (.inl l))
theorem ltS_go {x y z : Sh} (h1 : ltS x y) (h2 : ltS y z) : ltS x z := lx_tr (lx_tr (lx_tr Int.lt_trans)) h1 h2
theorem ltS_tri (x y : Sh) : ltS x y ∨ x = y ∨ ltS y x := by
  rcases lx_tri x.1 y.1 (lx_tri x.2.1 y.2.1 (lx_tri x.2.2.1 y.2.2.1 (Int.lt_trichotomy x.2.2.2 y.2.2.2))) with h | ⟨h1, h2, h3, h4⟩ | h
  · exact .inl h
  · exact .inr (.inl (Prod.ext h1 (Prod.ext h2 (Prod.ext h3 h4))))
  · exact .inr (.inr h)
theorem leS_iff {x y : Sh} : leS x y = true ↔ ¬ ltS y x := by
  unfold leS
  rw [Bool.not_eq_true', decide_eq_false_iff_not]
theorem leS_trans (x y z : Sh) (h1 : leS x y = true) (h2 : leS y z = true) : leS x z = true := by
  rw [leS_iff] at h1 h2 ⊢
  intro h
  rcases ltS_tri x y with k | rfl | k
  · exact h2 (ltS_go h k)
  · exact h2 h
  · exact h1 k
theorem leS_antisymm {x y : Sh} (h1 : leS x y = true) (h2 : leS y x = true) : x = y := by
  rw [leS_iff] at h1 h2
  rcases ltS_tri x y with k | e | k
  · exact absurd k h2
  · exact e
  · exact absurd k h1
theorem leS_total (x y : Sh) : (leS x y || leS y x) = true := by
  rw [Bool.or_eq_true, leS_iff, leS_iff]
  by_cases k : ltS y x
  · refine .inr fun h => ?_
    have a := ltS_go h k
    unfold ltS at a
    omega
  · exact .inl k
section
variable {X : Cx}
theorem sh_reads {P : Program} {w : World} {H : Hp} {h : Heap} (ok : HOk P w H h) {p : Addr} {x : Sh} (e : ShAt H p x) : Reads h (.ref p) (encS x) [] := by
  have two : ∀ {a : Addr} {y z : Int}, H a = some (.tup [.int y, .int z]) → Reads h (.ref a) (.tuple [.int y, .int z]) [] := by
    intro a y z e
    obtain ⟨_, its, r, o, ho, hc, n, hdat⟩ := ok a _ e
    cases r with
    | cons r1 t =>
      cases t with
      | cons r2 t =>
        cases t
        obtain ⟨t1, rfl⟩ := r1
        obtain ⟨t2, rfl⟩ := r2
        exact Reads.tuple ho hc hdat (.cons (as := []) (bs := []) (.int y t1) (.cons (as := []) (bs := []) (.int z t2) .nil))
  obtain ⟨u, v, h1, h2, h3⟩ := e
  obtain ⟨_, its, r, o, ho, hc, n, hdat⟩ := ok p _ h1
  cases r with
  | cons r1 t =>
    cases t with
    | cons r2 t =>
      cases t
      cases r1
      cases r2
      exact Reads.tuple ho hc hdat (.cons (as := []) (bs := []) (two h2) (.cons (as := []) (bs := []) (two h3) .nil))
theorem each_refs {β : Type} {f : β → Addr} : ∀ {vs : List Value} {bs : List β}, PySem.W.EachIs (fun v b => v = Value.ref (f b)) vs bs → vs = bs.map fun b => Value.ref (f b) := by
  intro vs bs h
  induction h with
  | nil => rfl
  | cons h t ih => rw [List.map_cons, ← ih, h]
theorem each_of {β : Type} {F : Value → β → Prop} {f : β → Addr} : ∀ {bs : List β}, (∀ b ∈ bs, F (.ref (f b)) b) → PySem.W.EachIs F (bs.map fun b => Value.ref (f b)) bs
  | [], _ => .nil
  | b :: bs, h => .cons (h b List.mem_cons_self) (each_of fun c hc => h c (List.mem_cons_of_mem _ hc))
/-- what sorting gives, behind the gathering of the items -/
theorem sort_tail {pins : List (Addr × Obj)} {σ : L2.St} {H : Hp} {s : Shared} {Q : VK} (hu : X.A.units + 64 < cLine) (I : Inv X pins σ H s) {bs : List (Sh × Addr)} (hz : bs.length ≤ sizeLine) (hk : ∀ b ∈ bs, ShAt H b.2 b.1)
    (q : ∀ p, H p = none → Q (.ref p) (upd H p (.lst ((bs.mergeSort fun a b => leS a.1 b.1).map fun b => V.ref b.2)))) {h' : Heap} {tk : Nat} (hk' : ∀ b u, s.heap.get? b = some u → h'.get? b = some u) :
    wpAny (model X.prog X.w) X.A.in1 (call (.builtin "list.sort") [.ref h'.objs.size]) (fun _ s' => EP X pins σ Q (.ref h'.objs.size) s') X.xe { s with heap := h'.push (PyProof.Rows.seqObj "list" (bs.map fun b => Value.ref b.2).toArray 0), toks := tk } := by
  have I1 : Inv X pins σ H { s with heap := h', toks := tk } := I.kept hk'
  have hoL : (h'.push (PyProof.Rows.seqObj "list" (bs.map fun b => Value.ref b.2).toArray 0)).get? h'.objs.size = some (PyProof.Rows.seqObj "list" (bs.map fun b => Value.ref b.2).toArray 0) := Heap.get?_push_size _ rfl
  refine PySem.W.list_sort_data (enc := fun b : Sh × Addr => encS b.1) (R := fun v b => v = Value.ref b.2) hoL (each_of fun b hb => rfl) (each_of fun b hb => ⟨[], ?_, by simp⟩) (PySem.W.AllAlike.of fun _ _ => by simp [PySem.W.alike, PySem.W.alikeAll, encS]) (PySem.W.Sortable.tuples fun _ => ⟨_, _, rfl⟩) hz (fun b _ => ?_) fun out hlen eo => ?_
  · exact PyProof.Rows.Reads.keeps (fun c u e => Heap.get?_push_of_some _ e) (sh_reads I1.hok (hk b hb))
  · have : (encS b.1).depth = 2 := by simp [encS, PyData.depth, PyData.depthAll]
    show X.A.units + 1 + 1 + _ < cLine
    omega
  · rw [le_encS (fun b : Sh × Addr => b.1)] at eo
    have eo := each_refs eo
    obtain ⟨e', he'⟩ := PyProof.Rows.sortedHeap_at (vs := bs.map fun b => Value.ref b.2) (out := out.toArray) hoL
    refine ⟨.ref h'.objs.size, _, I1.laid (t' := tk) (o := .lst ((bs.mergeSort fun a b => leS a.1 b.1).map fun b => V.ref b.2)) (fun b u e => ?_) (Nat.le_refl _) ⟨?_, out, e', ?_, he'⟩, rfl, q _ (I1.hok.fresh (Nat.le_refl _))⟩
    · have hb : b < h'.objs.size := Heap.lt_size e
      rw [PyProof.Rows.sortedHeap_old (Nat.ne_of_lt hb) (by rw [Heap.size_push]; exact Nat.lt_succ_of_lt hb)]
      exact Heap.get?_push_of_some _ e
    · rw [List.length_map, List.length_mergeSort]
      exact hz
    · rw [eo, show ((bs.mergeSort fun a b => leS a.1 b.1).map fun b => V.ref b.2) = ((bs.mergeSort fun a b => leS a.1 b.1).map (·.2)).map V.ref by rw [List.map_map]; rfl, show ((bs.mergeSort fun a b => leS a.1 b.1).map fun b => Value.ref b.2) = ((bs.mergeSort fun a b => leS a.1 b.1).map (·.2)).map Value.ref by rw [List.map_map]; rfl]
      exact vals_refs _
/-- sorted(d) -/
def rSortedDS (P : Program) (w : World) : List V → Hp → VK → Prop := fun vs H Q => ∃ d es, vs = [.ref d] ∧ DAt P w H d es ∧ ∀ p, H p = none → Q (.ref p) (upd H p (.lst (((es.map fun e => (e.1, e.2.1)).mergeSort fun a b => leS a.1 b.1).map fun b => V.ref b.2)))
theorem cr_sortedDS (hc : X.calm = true) (hu : X.A.units + 64 < cLine) : CallR X (.builtin "sorted") (rSortedDS X.prog X.w) := by
  intro pins s σ H vs us Q I r q
  obtain ⟨d, es, rfl, D, q⟩ := q
  obtain ⟨u, rfl, rx⟩ := r.one
  cases rx
  obtain ⟨hs, hz, ys, rel, o, en, ep, ho, hx, hdat, he, _⟩ := (I.hok d _ D.hd).1
  have hsz := ds_size he rel
  refine Calls.call_function_entry PyProof.Rows.kind_sorted PyProof.Rows.plain_sorted PyProof.Rows.entry_sorted (PyProof.Rows.args_sorted1 _) ?_
  unfold Builtin.«sorted»
  refine wpAny_bind (m := checkCount "sorted" 1 1 _) (wpAny_pure ?_)
  refine wpAny_bind (PySem.W.kdu_collect (A := X.A.in1) (kdl_raw hs hx hdat) (I.ok.hd hc) ho (by omega) fun h' tk acc kp it => ?_)
  have ea := refs_by (X := X) he rel it.1 fun j v hv => it.2 j v hv
  have eb : acc.toList = (es.map fun e => (e.1, e.2.1)).map fun b => Value.ref b.2 := by rw [ea, List.map_map, List.map_map]; rfl
  refine wpAny_bind (wpAny_newList ?_ (by rw [ea, List.length_map, List.length_map]; exact hz))
  rw [eb]
  refine wpAny_bind (wpAny_holding (wpAny_mono (sort_tail hu I (bs := es.map fun e => (e.1, e.2.1)) (by rw [List.length_map]; exact hz) (fun b hb => ?_) q (tk := tk) kp) (fun v s' z => wpAny_pure ⟨_, rfl, z⟩) fun _ _ z => z))
  obtain ⟨e, he2, rfl⟩ := List.mem_map.mp hb
  exact D.ks e he2
end
/-! ### {sheet: number for .. in ..}
The course (block, loop, turn) is that of the library's rule for dicts of plain keys, HandS.DictComp; the statement is for dicts of sheets, without tests, and the turn is a lemma of its own. -/
section
variable {X : Cx} {pins : List (Addr × Obj)} {σ : L2.St} {H : Hp} {s : Shared} {d p : Addr} {es : DEs} {x : Sh} {E : Value → Shared → Prop}
theorem ds_dictSet {n : Int} {v : Value} {Q : Unit → Shared → Prop} (hu : X.A.units + 64 < cLine) (I : Inv X pins σ H s) (D : DAt X.prog X.w H d es) (hp : ShAt H p x) (rv : RelV (.int n) v) (hl : es.length < sizeLine)
    (q : ∀ s', Inv X pins σ (upd H d (DS X.prog X.w d (putD es x p n))) s' → Q () s') : wpAny (model X.prog X.w) X.A (dictSet d (.ref p) v) Q E s := by
  obtain ⟨hs, hz, ys, r, dd⟩ := ds_of I.hok D.rd
  have room : (nestedKind X.prog X.w).room X.A := by
    show X.A.units + 8 < cLine
    omega
  refine wpAny_dictSet_heap (hsz := by rw [← Paired.length r]; exact hz) room (sh_key I.hok hp) dd fun h' dd' sb => q _ ?_
  obtain ⟨o, en, ep, k1, k2, k3, k4, _, k5⟩ := dd'
  have few := putD_len es x p n
  exact d_write I (by rw [D.hd]; exact True.intro) sb ⟨o, k1⟩ (ds_obj ⟨hs, by omega, _, drel_put r x p rv, o, en, ep, k1, k2, k3, k4, k5⟩)
end
/-- what one turn is asked: the target, the key, the value, then the dict with it -/
def TurnS (P : Program) (w : World) (g : TG) (tk tv : TE) (vs : List Nat) (σ : L2.St) (D : Addr) (N : Hp → Prop) (x : V) (H : Hp) : Prop :=
  g x (wipe σ vs) H fun τ G => wipe τ vs = wipe σ vs ∧ tk τ G fun y G1 => tv τ G1 fun z G2 => ∃ p k n es, y = .ref p ∧ z = .int n ∧ DAt P w G2 D es ∧ ShAt G2 p k ∧ es.length < sizeLine ∧ N (upd G2 D (DS P w D (putD es k p n)))
def tDcS (P : Program) (w : World) (wi : TI) (g : TG) (tk tv : TE) (vs : List Nat) : TE := fun σ H Q => wi σ H fun J G => ∀ D, G D = none → ∃ W : Nat → Nat → Hp → Prop, (∃ m, W 0 m (upd G D (DS P w D []))) ∧
  ∀ i m G1, W i m G1 → (J.stop i G1 ∧ Q (.ref D) G1) ∨ (J.go i G1 ∧ ∀ x G2, J.yld i G1 x G2 → TurnS P w g tk tv vs σ D (fun G3 => ∃ m', m' < m ∧ W (i + 1) m' G3) x G2)
/-- the iterators of a block, where nothing else is tracked at them -/
def Idle (Y : Cx) (fp : List Addr) : Prop := ∀ {τ : L2.St} {G : Hp} {s : Shared}, Inv Y [] τ G s → (∀ b ∈ fp, G b = none) → ∀ b ∈ fp, FpOk Y [] G b
section
variable {Y : Cx} {tg kx vx : Expr} {g : TG} {tk tv : TE} {J : It} {fp : List Addr} {it D : Addr} {tn : Nat → Heap → Prop} {vs : List Nat} {σ : L2.St} {N : Hp → Prop}
/-- a turn's end: the state of the next one -/
def Next (Y : Cx) (fp : List Addr) (tn : Nat → Heap → Prop) (τ : L2.St) (j : Nat) (N : Hp → Prop) (s : Shared) : Prop := ∃ G, Inv Y [] τ G s ∧ tn j s.heap ∧ (∀ b ∈ fp, G b = none) ∧ N G
theorem turn_ends {j : Nat} {h0 : Heap} {τ : L2.St} {G : Hp} {s : Shared} (T : Turn Y.prog Y.w Y.K tg J fp it tn) (st : tn j h0) (I : Inv Y ([] ++ pinsAt fp h0) τ G s) (hw : wipe τ vs = wipe σ vs) (n : N G) : Next Y fp tn (wipe σ vs) j N s := by
  have held : ∀ b ∈ fp, ∀ o, h0.get? b = some o → s.heap.get? b = some o ∧ G b = none := by
    intro b hb o e
    have z := I.pin (b, o) (List.mem_append_right _ (List.mem_append_right _ (mem_pinsAt hb e)))
    exact ⟨z.1, z.2.1⟩
  have len : (wipe σ vs).length = τ.length := by
    rw [← hw]
    exact wipe_length τ vs
  refine ⟨G, I.unpinned.weak len fun k v e => ?_, T.keep _ _ _ st fun b hb o e => (held b hb o e).1, fun b hb => ?_, n⟩
  · rw [← hw] at e
    exact (wipe_some e).1
  · obtain ⟨o, e, _⟩ := T.obj _ _ st b hb
    exact (held b hb o e).2
theorem turn_goes {i : Nat} {G : Hp} {s : Shared} (T : Turn Y.prog Y.w Y.K tg J fp it tn) (hc : Y.calm = true) (hu : Y.A.units + 64 < cLine) (hx : Y.xe = fun _ _ => False) (idle : Idle Y fp) (pg : PG Y tg g) (pk : PE Y kx tk) (pv : PE Y vx tv)
    (I : Inv Y [] (wipe σ vs) G s) (st : tn i s.heap) (nf : ∀ b ∈ fp, G b = none) (go : J.go i G) (turn : ∀ x G2, J.yld i G x G2 → TurnS Y.prog Y.w g tk tv vs σ D N x G2) :
    wpAny (model Y.prog Y.w) Y.A (pyNext (.ref it)) (fun r s1 => ∃ u, r = some u ∧ wpAny (model Y.prog Y.w) Y.A (letOwnedTupleGo tg (.ref it) u) (fun _ s2 => wpAny (model Y.prog Y.w) Y.A (assign tg Y.env u) (fun _ s3 =>
      wpAny (model Y.prog Y.w) Y.A (eval kx Y.env) (fun a s4 => wpAny (model Y.prog Y.w) Y.A (eval vx Y.env) (fun b s5 => wpAny (model Y.prog Y.w) Y.A (dictSet D a b) (fun _ s6 => Next Y fp tn (wipe σ vs) (i + 1) N s6) Y.xe s5) Y.xe s4) Y.xe s3) Y.xe s2) Y.xe s1) Y.xe s := by
  refine thn (T.item Y rfl rfl rfl hc i [] s _ G Y.xe I (idle I nf) st go) fun r s1 ⟨u, hr, h1⟩ => ⟨u, hr, thn h1 fun _ s2 zz => ?_⟩
  obtain ⟨x, G2, I2, ru, yl, st2, nf2⟩ := zz
  have I2p := I2.pinned (idle I2 nf2) (T.obj _ _ st2)
  refine thn (pg.run _ s2 _ G2 x u _ I2p ru (turn x G2 yl)) fun _ s3 ⟨τ, G3, I3, hw, q3⟩ => ?_
  refine thn (pk.run _ s3 τ G3 _ I3 q3) fun a s4 ⟨y, G4, I4, ry, q4⟩ => thn (pv.run _ s4 τ G4 _ I4 q4) fun b s5 zz => ?_
  obtain ⟨z, G5, I5, rz, p, k, n, es, ey, ez, DA, hp, hl, q5⟩ := zz
  subst ey ez
  cases ry
  exact ds_dictSet hu I5 DA hp rz hl fun s6 I6 => turn_ends T st2 I6 hw q5
end
section
variable {X : Cx}
theorem blk_idle {s0 : Shared} {G0 : Hp} {scope : Scope} {ce : Env} {fp : List Addr} : Idle (X.blk s0 G0 scope ce fp) fp := by
  intro τ G s I nf b hb
  have own := I.ok.exf b hb
  exact ⟨nf b hb, own.1, I.ok.exfs b hb, .inl hb, fun y c e => own.2 y c e, fun q hq => by cases hq⟩
theorem pe_dcS {kx vx tg iter : Expr} {scope : Scope} {own : List (Str × Nat)} {pos : Pos} {wi : TI} {g : TG} {tk tv : TE} (hc : X.calm = true) (hu : X.A.units + 64 < cLine) (hN : X.N.Nodup) (hi : PI X tg iter wi) (ok : BlkOk X.N X.env.scope scope own)
    (hg : ∀ (s : Shared) (G : Hp) (C : Addr) (cl : List (Str × Addr)) (fp : List Addr), PG (X.blk s G scope (compEnvC scope cl C X.env) fp) tg g) (hk : ∀ (s : Shared) (G : Hp) (C : Addr) (cl : List (Str × Addr)) (fp : List Addr), PE (X.blk s G scope (compEnvC scope cl C X.env) fp) kx tk)
    (hv : ∀ (s : Shared) (G : Hp) (C : Addr) (cl : List (Str × Addr)) (fp : List Addr), PE (X.blk s G scope (compEnvC scope cl C X.env) fp) vx tv) (hf : ∀ y, foldedSetIterable iter X.env y = pure y := by intro _; rfl) :
    PE X (.DictComp kx vx [⟨tg, iter, [], 0⟩] scope pos) (tDcS X.prog X.w wi g tk tv (own.map (·.2))) := by
  refine ⟨fun pins s σ H Q I h => ?_⟩
  rw [arm_eval_DictComp]
  have cells : ∀ y ∈ scope.names, y.2 = .free → ∃ c, X.env.cells.lookup y.1 = some c := fun y hy e => (ok.free y hy e).elim (fun z => I.ok.has _ (.inl z)) fun z => I.ok.has _ (.inr z)
  refine wpAny_comprehension_free (use := none) rfl hf (closure_ok cells) ok.kind (fun y hy e => (ok.uniq y hy).trans (congrArg some e)) (thn (hi.run pins s σ H _ I h) fun _ s1 h1 => thn h1 fun _ s2 h2 => ?_)
  obtain ⟨it, fp, tn, J, G, rfl, I2, T, st, fpo, q⟩ := h2
  refine wpAny_newObj_type (newEnv_comp ?_)
  -- the new dict, tracked
  obtain ⟨W, ⟨m0, w0⟩, turn⟩ := q s2.heap.objs.size (I2.hok.fresh (Nat.le_refl _))
  have I3 : Inv X pins σ (upd G s2.heap.objs.size (DS X.prog X.w s2.heap.objs.size [])) { s2 with heap := s2.heap.push { cls := .type "dict", data := .dict #[] } } := by
    refine I2.laid (t' := s2.toks) (fun _ _ e => Heap.get?_push_of_some _ e) (Nat.le_refl _) (ds_obj ⟨?_, Nat.zero_le _, [], .nil, _, #[], 0, Heap.get?_push_size _ rfl, ⟨rfl, rfl, rfl⟩, rfl, rfl, List.nodup_nil⟩)
    exact beq_eq_false_iff_ne.mpr (Nat.ne_of_gt I2.big)
  have low : ∀ b ∈ fp, b < s2.heap.objs.size := fun b hb => let ⟨_, e, _⟩ := T.obj _ _ st b hb; Heap.lt_size e
  have st3 : tn 0 (s2.heap.push { cls := .type "dict", data := .dict #[] }) := T.keep _ _ _ st fun _ _ _ e => Heap.get?_push_of_some _ e
  generalize hD : s2.heap.objs.size = D at I3 w0 turn low ⊢
  have fp3 : ∀ b ∈ fp, FpOk X pins (upd G D (DS X.prog X.w D [])) b := fun b hb => ⟨(upd_ne (Nat.ne_of_lt (low b hb))).trans (fpo b hb).1, (fpo b hb).2⟩
  generalize upd G D (DS X.prog X.w D []) = G3 at I3 w0 fp3
  have big : D < (s2.heap.push { cls := .type "dict", data := .dict #[] }).objs.size := by
    rw [Heap.size_push, hD]
    exact Nat.lt_succ_self _
  generalize hs3 : ({ s2 with heap := s2.heap.push { cls := .type "dict", data := .dict #[] } } : Shared) = s3 at I3 ⊢
  have st3 : tn 0 s3.heap := by rw [← hs3]; exact st3
  have big : D < s3.heap.objs.size := by rw [← hs3]; exact big
  have I4 := block_start I3 ok hN fun b hb => ⟨fp3 b hb, Nat.lt_trans (low b hb) big⟩
  have pg := hg s3 G3 s3.heap.objs.size (cellsFrom (s3.heap.objs.size + 1) scope.names (cloFrom X.env.cells scope.names [])) fp
  have pk := hk s3 G3 s3.heap.objs.size (cellsFrom (s3.heap.objs.size + 1) scope.names (cloFrom X.env.cells scope.names [])) fp
  have pv := hv s3 G3 s3.heap.objs.size (cellsFrom (s3.heap.objs.size + 1) scope.names (cloFrom X.env.cells scope.names [])) fp
  have st4 : tn 0 (pushCells (s3.heap.push { cls := .type "dict", data := .dict #[] }) scope.names) := T.keep _ _ _ st3 fun _ _ _ e => pushCells_keeps _ _ _ _ (Heap.get?_push_of_some _ e)
  have locs : (compEnvC scope (cellsFrom (s3.heap.objs.size + 1) scope.names (cloFrom X.env.cells scope.names [])) s3.heap.objs.size X.env).locals = s3.heap.objs.size := rfl
  show codeAny (model X.prog X.w) X.A (.compStart _ 0 (.ref it) (.ref D) (compEnvC scope (cellsFrom (s3.heap.objs.size + 1) scope.names (cloFrom X.env.cells scope.names [])) s3.heap.objs.size X.env)) (compPost (model X.prog X.w) X.A X.xe none (EP X pins σ Q) (.ref D) s3.heap.objs.size) _
  generalize compEnvC scope (cellsFrom (s3.heap.objs.size + 1) scope.names (cloFrom X.env.cells scope.names [])) s3.heap.objs.size X.env = ce at I4 pg pk pv locs ⊢
  -- the loop
  have goes : codeAny (model X.prog X.w) X.A (.compLoop (.DictComp kx vx [⟨tg, iter, [], 0⟩] scope pos) 0 (.ref it) (.ref D) ce) (compPost (model X.prog X.w) X.A X.xe none (EP X pins σ Q) (.ref D) s3.heap.objs.size) { s3 with heap := pushCells (s3.heap.push { cls := .type "dict", data := .dict #[] }) scope.names } := by
    refine compLoop_anyD (fun n s' => ∃ i, Next (X.blk s3 G3 scope ce fp) fp tn (wipe σ (own.map (·.2))) i (W i n) s') ?_ m0 ⟨0, G3, I4, st4, fun b hb => (fp3 b hb).1, w0⟩
    rintro n s5 ⟨i, G5, I5, st5, nf5, w5⟩
    rcases turn i n G5 w5 with ⟨stop, fin⟩ | ⟨go, step⟩
    · refine thnF (T.done (X.blk s3 G3 scope ce fp) rfl rfl rfl hc i [] s5 _ G5 (fun _ _ => False) I5 (blk_idle I5 nf5) st5 stop) fun r s6 ⟨hr, I6⟩ => ?_
      subst hr
      have back : Inv X pins σ G5 s6 := I3.call' (ch := fp) I6.os I6.base I6.hok I6.bare fun b hb => by
        obtain ⟨_, f1, _, f3, f4, f5⟩ := fp3 b hb
        exact ⟨f3, f1, f4, f5⟩
      have free : G5 s3.heap.objs.size = none := by
        rw [← locs]
        exact I6.free
      obtain ⟨mm, ns, _⟩ := I6.loc
      have ns : s6.heap.Ns s3.heap.objs.size mm := by
        rw [← locs]
        exact ns
      obtain ⟨f0, f1, _, f3, f4, f5⟩ := I3.fpOk (H' := G5) (Nat.le_refl _) free
      exact ⟨mm, ns, fun h' sb => ⟨.ref D, G5, back.turned (t' := s6.toks) (fun b o hb e => (sb.2 b hb).trans e) f0 f1 f3 f4 f5, rfl, fin⟩⟩
    · refine thnF (turn_goes (Y := X.blk s3 G3 scope ce fp) (N := fun G => ∃ m', m' < n ∧ W (i + 1) m' G) T hc hu rfl blk_idle pg pk pv I5 st5 nf5 go step) fun r s6 ⟨u, hr, h6⟩ => ?_
      subst hr
      refine thnF h6 fun _ s7 h7 => thnF h7 fun _ s8 h8 => ?_
      refine wpAny_pure ?_
      rw [if_pos rfl]
      refine thnF h8 fun a s9 h9 => thnF h9 fun b s10 h10 => thnF h10 fun _ s11 ⟨G', I', st', nf', m', hm, w'⟩ => ⟨m', hm, i + 1, G', I', st', nf', w'⟩
  exact codeAny_compStart_dict goes (T.self X.A 0 _ _ _ st4 goes)
end
/-! ### entries: what is put, sums, the sorted ones -/
def keysD (es : DEs) : List Sh := es.map (·.1)
theorem valD_cons (e : Sh × Addr × Int) (es : DEs) (y : Sh) : valD (e :: es) y = if e.1 = y then some e.2.2 else valD es y := by
  unfold valD
  by_cases h : e.1 = y
  · simp [List.find?_cons, h]
  · simp [List.find?_cons, h]
theorem valD_none {es : DEs} {y : Sh} : valD es y = none ↔ y ∉ keysD es := by
  induction es with
  | nil => simp [valD, keysD]
  | cons e es ih =>
    rw [valD_cons]
    show _ ↔ y ∉ e.1 :: keysD es
    rw [List.mem_cons, not_or, ← ih]
    by_cases h : e.1 = y
    · simp [h]
    · rw [if_neg h]
      exact ⟨fun z => ⟨fun q => h q.symm, z⟩, fun z => z.2⟩
theorem valD_mem {es : DEs} (n : (keysD es).Nodup) : ∀ {e : Sh × Addr × Int}, e ∈ es → valD es e.1 = some e.2.2 := by
  induction es with
  | nil => intro e h; cases h
  | cons f es ih =>
    intro e h
    have n' : f.1 ∉ keysD es ∧ (keysD es).Nodup := List.nodup_cons.mp n
    rw [valD_cons]
    rcases List.mem_cons.mp h with rfl | h
    · rw [if_pos rfl]
    · rw [if_neg fun z => n'.1 (by rw [z]; exact List.mem_map.mpr ⟨e, h, rfl⟩)]
      exact ih n'.2 h
theorem valD_some {es : DEs} {y : Sh} {n : Int} (h : valD es y = some n) : ∃ e ∈ es, e.1 = y ∧ e.2.2 = n := by
  induction es with
  | nil => cases h
  | cons e es ih =>
    rw [valD_cons] at h
    by_cases z : e.1 = y
    · rw [if_pos z] at h
      exact ⟨e, List.mem_cons_self, z, Option.some.inj h⟩
    · rw [if_neg z] at h
      obtain ⟨f, hf, r⟩ := ih h
      exact ⟨f, List.mem_cons_of_mem _ hf, r⟩
theorem keysD_put (es : DEs) (x : Sh) (p : Addr) (n : Int) : keysD (putD es x p n) = if (valD es x).isSome then keysD es else keysD es ++ [x] := by
  unfold putD
  split
  · unfold keysD
    rw [List.map_map]
    refine List.map_congr_left fun e _ => ?_
    show (if e.1 = x then (e.1, e.2.1, n) else e).1 = e.1
    split <;> rfl
  · unfold keysD
    rw [List.map_append]
    rfl
theorem put_nodup {es : DEs} (h : (keysD es).Nodup) (x : Sh) (p : Addr) (n : Int) : (keysD (putD es x p n)).Nodup := by
  rw [keysD_put]
  cases e : valD es x with
  | some v => exact h
  | none =>
    have := valD_none.mp e
    show (keysD es ++ [x]).Nodup
    rw [List.nodup_append]
    refine ⟨h, by simp, fun a ha b hb => ?_⟩
    rw [List.mem_singleton.mp hb]
    intro z
    rw [z] at ha
    exact this ha
theorem valD_repl (x y : Sh) (n : Int) : ∀ es : DEs, valD (es.map fun e => if e.1 = x then (e.1, e.2.1, n) else e) y = if y = x then (valD es x).map (fun _ => n) else valD es y
  | [] => by simp [valD]
  | e :: es => by
    rw [List.map_cons, valD_cons, valD_repl x y n es, valD_cons, valD_cons]
    by_cases h1 : e.1 = x
    · by_cases h2 : y = x
      · simp [h1, h2]
      · have h3 : ¬ x = y := fun z => h2 z.symm
        simp [h1, h2, h3]
    · by_cases h2 : y = x
      · subst h2
        simp [h1]
      · simp [h1, h2]
theorem valD_app (es fs : DEs) (y : Sh) : valD (es ++ fs) y = (valD es y).or (valD fs y) := by
  induction es with
  | nil => rfl
  | cons e es ih =>
    rw [List.cons_append, valD_cons, valD_cons, ih]
    split <;> rfl
theorem valD_put (es : DEs) (x : Sh) (p : Addr) (n : Int) (y : Sh) : valD (putD es x p n) y = if y = x then some n else valD es y := by
  unfold putD
  cases e : valD es x with
  | some v =>
    rw [if_pos (show (some v : Option Int).isSome = true from rfl), valD_repl, e]
    rfl
  | none =>
    rw [if_neg (show ¬ (none : Option Int).isSome = true by simp), valD_app, valD_cons]
    by_cases h : y = x
    · subst h
      rw [e, if_pos rfl, if_pos rfl]
      rfl
    · rw [if_neg h, if_neg fun z => h z.symm]
      show (valD es y).or none = _
      simp
/-- the sum of a measure, each times its number -/
def wsum (φ : Sh → Int) (es : DEs) : Int := (es.map fun e => e.2.2 * φ e.1).sum
theorem wsum_cons (φ : Sh → Int) (e : Sh × Addr × Int) (es : DEs) : wsum φ (e :: es) = e.2.2 * φ e.1 + wsum φ es := by
  unfold wsum
  rw [List.map_cons, List.sum_cons]
theorem wsum_app (φ : Sh → Int) : ∀ es fs : DEs, wsum φ (es ++ fs) = wsum φ es + wsum φ fs
  | [], fs => by simp [wsum]
  | e :: es, fs => by
    rw [List.cons_append, wsum_cons, wsum_cons, wsum_app φ es fs]
    omega
theorem wsum_perm {φ : Sh → Int} {es fs : DEs} (h : es.Perm fs) : wsum φ es = wsum φ fs := by
  induction h with
  | nil => rfl
  | cons x _ ih => rw [wsum_cons, wsum_cons, ih]
  | swap x y l => rw [wsum_cons, wsum_cons, wsum_cons, wsum_cons]; omega
  | trans _ _ a b => exact a.trans b
theorem wsum_repl {φ : Sh → Int} {x : Sh} {n v : Int} : ∀ {es : DEs}, (keysD es).Nodup → valD es x = some v → wsum φ (es.map fun e => if e.1 = x then (e.1, e.2.1, n) else e) = wsum φ es + (n - v) * φ x
  | [], _, h => by cases h
  | e :: es, nd, h => by
    have nd' : e.1 ∉ keysD es ∧ (keysD es).Nodup := List.nodup_cons.mp nd
    rw [List.map_cons, wsum_cons, wsum_cons]
    rw [valD_cons] at h
    by_cases z : e.1 = x
    · rw [if_pos z] at h
      have h := Option.some.inj h
      have stay : (es.map fun f => if f.1 = x then (f.1, f.2.1, n) else f) = es := by
        rw [List.map_congr_left (g := id) fun f hf => ?_, List.map_id]
        show (if f.1 = x then (f.1, f.2.1, n) else f) = f
        rw [if_neg fun q => nd'.1 (List.mem_map.mpr ⟨f, hf, q.trans z.symm⟩)]
      rw [stay, if_pos z]
      show n * φ e.1 + _ = _
      rw [z, h]
      grind
    · rw [if_neg z] at h
      rw [wsum_repl nd'.2 h, if_neg z]
      omega
theorem wsum_put {φ : Sh → Int} {es : DEs} (nd : (keysD es).Nodup) (x : Sh) (p : Addr) (c : Int) : wsum φ (putD es x p ((valD es x).getD 0 + c)) = wsum φ es + c * φ x := by
  unfold putD
  cases e : valD es x with
  | some v =>
    rw [if_pos (show (some v : Option Int).isSome = true from rfl), wsum_repl nd e]
    show _ + (v + c - v) * φ x = _
    rw [show v + c - v = c by omega]
  | none =>
    rw [if_neg (show ¬ (none : Option Int).isSome = true by simp), wsum_app, wsum_cons]
    show _ + ((0 + c) * φ x + 0) = _
    rw [Int.zero_add, Int.add_zero]
/-- the entries in ascending order -/
def sortK (es : DEs) : List (Sh × Addr) := (es.map fun e => (e.1, e.2.1)).mergeSort fun a b => leS a.1 b.1
def sortE (es : DEs) : DEs := (sortK es).map fun b => (b.1, b.2, (valD es b.1).getD 0)
theorem sortK_perm (es : DEs) : (sortK es).Perm (es.map fun e => (e.1, e.2.1)) := List.mergeSort_perm _ _
theorem sortE_perm {es : DEs} (nd : (keysD es).Nodup) : (sortE es).Perm es := by
  refine ((sortK_perm es).map _).trans ?_
  rw [List.map_map, List.map_congr_left (g := id) fun e he => ?_, List.map_id]
  show (e.1, e.2.1, (valD es e.1).getD 0) = e
  rw [valD_mem nd he]
  rfl
theorem keys_perm {es fs : DEs} (h : es.Perm fs) : (keysD es).Perm (keysD fs) := h.map _
theorem sortE_keys {es : DEs} (nd : (keysD es).Nodup) : (keysD (sortE es)).Nodup := (keys_perm (sortE_perm nd)).nodup_iff.mpr nd
theorem ltS_of {x y : Sh} (h : leS x y = true) (n : x ≠ y) : ltS x y := by
  by_cases z : ltS x y
  · exact z
  · refine absurd (leS_antisymm h ?_) n
    unfold leS
    rw [decide_eq_false z]
    rfl
theorem sortE_up {es : DEs} (nd : (keysD es).Nodup) : (sortE es).Pairwise fun a b => ltS a.1 b.1 := by
  have h1 : (sortK es).Pairwise fun a b => leS a.1 b.1 = true := List.pairwise_mergeSort (fun a b c => leS_trans a.1 b.1 c.1) (fun a b => leS_total a.1 b.1) _
  have h2 : ((sortK es).map (·.1)).Nodup := by
    have := sortE_keys nd
    unfold keysD sortE at this
    rw [List.map_map] at this
    exact this
  have h3 : (sortK es).Pairwise fun a b => a.1 ≠ b.1 := List.pairwise_map.mp h2
  unfold sortE
  rw [List.pairwise_map]
  exact (h1.and h3).imp fun h => ltS_of h.1 h.2
theorem valD_perm {es fs : DEs} (nd : (keysD es).Nodup) (h : es.Perm fs) (y : Sh) : valD es y = valD fs y := by
  have nd' : (keysD fs).Nodup := (keys_perm h).nodup_iff.mp nd
  cases e : valD es y with
  | some n =>
    obtain ⟨f, hf, rfl, rfl⟩ := valD_some e
    exact (valD_mem nd' (h.mem_iff.mp hf)).symm
  | none =>
    refine (valD_none.mpr fun z => valD_none.mp e ?_).symm
    exact (keys_perm h).mem_iff.mpr z
/-! ### for sheet in d, while d is locked -/
def ItS (P : Program) (w : World) (d : Addr) (o : Obj) (es : DEs) : It where
  go := fun i H => DRd P w H d es ∧ H d = some (.frz o (DS P w d es)) ∧ i < es.length
  yld := fun i H x H' => H' = H ∧ ∃ e, es[i]? = some e ∧ x = .ref e.2.1
  stop := fun i H => H d = some (.frz o (DS P w d es)) ∧ es.length ≤ i
/-- what the lock tells: the very object, and its entries -/
theorem locked {P : Program} {w : World} {H : Hp} {h : Heap} {d : Addr} {o : Obj} {es : DEs} (ok : HOk P w H h) (e : H d = some (.frz o (DS P w d es))) :
    (d == sysModules) = false ∧ h.get? d = some o ∧ o.ExactDict ∧ ∃ en ep, o.data = .dict en ep ∧ en.size = es.length ∧ ∀ (j : Nat) (x : Sh × Addr × Int), es[j]? = some x → ∃ z : DictEntry, en[j]? = some z ∧ z.key = .ref x.2.1 := by
  obtain ⟨ho, ⟨lo, _, xs, r, o', en, ep, ho', hx, hdat, he, _⟩, _⟩ := ok d _ e
  obtain rfl : o = o' := Option.some.inj (ho.symm.trans ho')
  refine ⟨lo, ho, hx, en, ep, hdat, ds_size he r, fun j x hj => ?_⟩
  obtain ⟨hs, v, hz, _⟩ := ds_ent he r hj
  exact ⟨_, hz, rfl⟩
section
variable {X : Cx}
theorem turnDS {P : Program} {w : World} {K : PySem.W.Frag} {tg : Expr} {d it : Addr} {o : Obj} {es : DEs} {en : Array DictEntry} {ep : Nat} (ne : it ≠ d) (hdat : o.data = .dict en ep) (hsz : en.size = es.length)
    (hk : ∀ (j : Nat) (x : Sh × Addr × Int), es[j]? = some x → ∃ z : DictEntry, en[j]? = some z ∧ z.key = .ref x.2.1) : Turn P w K tg (ItS P w d o es) [it] it (fun i h => h.IsKeyIter it d i en.size ep) where
  mem := List.mem_cons_self
  obj := fun i h st b hb => by
    rw [List.mem_singleton.mp hb]
    obtain ⟨oi, e, _, dd⟩ := st
    exact ⟨oi, e, fun v z => by rw [dd] at z; cases z⟩
  keep := fun i h h' st k => st.at fun oi e => k it List.mem_cons_self oi e
  self := fun A i s Q E st q => wpAny_pyIter_keyiter st q
  item := by
    intro Y hP hw hK hc i pins s σ H E I hf st go
    subst hP hw hK
    obtain ⟨D, hd, hi⟩ := go
    obtain ⟨x, hx⟩ : ∃ x, es[i]? = some x := ⟨es[i], List.getElem?_eq_getElem hi⟩
    obtain ⟨z, hz, hkey⟩ := hk i x hx
    have od := (locked I.hok hd).2.1
    refine next_key_item st od hdat rfl hz fun h' st' sb => ⟨_, rfl, ?_⟩
    obtain ⟨f0, f1, _, f3, f4, f5⟩ := hf it List.mem_cons_self
    have I' : Inv Y pins σ H { s with heap := h' } := I.turned (t' := s.toks) (fun b ob hb e => (sb.2 b hb).trans e) f0 f1 f3 f4 f5
    obtain ⟨oi, e, ci, di⟩ := id st'
    refine go_of (s := { s with heap := h' }) e ci di (by decide) ⟨.ref x.2.1, H, I', hkey, ⟨rfl, x, hx, rfl⟩, st', fun b hb => ?_⟩
    rw [List.mem_singleton.mp hb]
    exact f0
  done := by
    intro Y hP hw hK hc i pins s σ H E I hf st stop
    subst hP hw hK
    have od := (locked I.hok stop.1).2.1
    have hge := stop.2
    refine next_key_end (I.ok.hd hc) st od hdat rfl (by omega) fun h' sb => ⟨rfl, ?_⟩
    obtain ⟨f0, f1, _, f3, f4, f5⟩ := hf it List.mem_cons_self
    exact I.turned (t' := s.toks) (fun b ob hb e => sb b ob hb e) f0 f1 f3 f4 f5
def iKeysDS (P : Program) (w : World) (td : TE) : TI := fun σ H R => td σ H fun v G => ∃ d o es, v = .ref d ∧ G d = some (.frz o (DS P w d es)) ∧ R (ItS P w d o es) G
theorem pi_keysDS {tg e : Expr} {td : TE} (he : PE X e td) : PI X tg e (iKeysDS X.prog X.w td) := by
  refine ⟨fun pins s σ H R I h => thn (he.run pins s σ H _ I h) fun u s1 ⟨v, G, I1, rv, d, o, es, ev, hd, q⟩ => ?_⟩
  subst ev
  cases rv
  obtain ⟨lo, ho, hx, en, ep, hdat, hsz, hk⟩ := locked I1.hok hd
  refine iter_keys lo ho hx hdat ?_
  have ne : s1.heap.objs.size ≠ d := Nat.ne_of_gt (Heap.lt_size ho)
  refine ⟨s1.heap.objs.size, [s1.heap.objs.size], _, _, G, rfl, I1.kept (t' := s1.toks) fun b ob z => Heap.get?_push_of_some _ z, turnDS ne hdat hsz hk, ⟨_, Heap.get?_push_size _ rfl, rfl, rfl⟩, fun b hb => ?_, q⟩
  rw [List.mem_singleton.mp hb]
  exact I1.fpOk (Nat.le_refl _) (I1.hok.fresh (Nat.le_refl _))
/-- a for over it -/
theorem for_keysDS {P : Program} {w : World} {d : Addr} {o : Obj} {es : DEs} {g : TG} {tb : TS} {D : Ends} {σ : L2.St} {H : Hp} (Pv : Nat → L2.St → Hp → Prop) (h0 : Pv 0 σ H) (hl : ∀ i τ G, i ≤ es.length → Pv i τ G → G d = some (.frz o (DS P w d es)) ∧ ∀ x ∈ es, ShAt G x.2.1 x.1)
    (turn : ∀ i x τ G, es[i]? = some x → Pv i τ G → g (.ref x.2.1) τ G fun τ2 G2 => tb { D with nx := Pv (i + 1), ct := Pv (i + 1), bk := D.nx } τ2 G2) (fin : ∀ τ G, Pv es.length τ G → D.nx τ G) :
    ∃ W : Nat → Nat → L2.St → Hp → Prop, (∃ m, W 0 m σ H) ∧ ∀ i m τ G, W i m τ G → ((ItS P w d o es).stop i G ∧ D.nx τ G) ∨ ((ItS P w d o es).go i G ∧ ∃ N : L2.St → Hp → Prop, (∀ τ' G', N τ' G' → ∃ m', m' < m ∧ W (i + 1) m' τ' G') ∧
      ∀ x G', (ItS P w d o es).yld i G x G' → g x τ G' fun τ2 G2 => tb { D with nx := N, ct := N, bk := D.nx } τ2 G2) := by
  refine ⟨fun i m τ G => m = es.length - i ∧ i ≤ es.length ∧ Pv i τ G, ⟨_, rfl, Nat.zero_le _, h0⟩, ?_⟩
  rintro i m τ G ⟨rfl, hi, pv⟩
  obtain ⟨hd, ks⟩ := hl i τ G hi pv
  rcases Nat.lt_or_ge i es.length with lt | ge
  · refine .inr ⟨⟨⟨.inr ⟨o, hd⟩, ks⟩, hd, lt⟩, Pv (i + 1), fun τ' G' z => ⟨_, Nat.sub_lt_sub_left lt (Nat.lt_succ_self i), rfl, lt, z⟩, ?_⟩
    rintro x G' ⟨rfl, e, he, rfl⟩
    exact turn i e τ _ he pv
  · obtain rfl : i = es.length := Nat.le_antisymm hi ge
    exact .inl ⟨⟨hd, Nat.le_refl _⟩, fin τ G pv⟩
/-- sorted(xs), a list of sheets -/
def rSortedLS : List V → Hp → VK → Prop := fun vs H Q => ∃ (a : Addr) (bs : List (Sh × Addr)), vs = [.ref a] ∧ H a = some (.lst (bs.map fun b : Sh × Addr => V.ref b.2)) ∧ (∀ b ∈ bs, ShAt H b.2 b.1) ∧ ∀ p, H p = none → Q (.ref p) (upd H p (.lst ((bs.mergeSort fun a b => leS a.1 b.1).map fun b => V.ref b.2)))
theorem cr_sortedLS (hu : X.A.units + 64 < cLine) : CallR X (.builtin "sorted") rSortedLS := by
  intro pins s σ H vs us Q I r q
  obtain ⟨a, bs, rfl, ha, hk, q⟩ := q
  obtain ⟨u, rfl, rx⟩ := r.one
  cases rx
  obtain ⟨hz, its, c, rv, ho⟩ := I.hok a _ ha
  rw [List.length_map] at hz
  have ei : its = bs.map fun b => Value.ref b.2 := by
    have e : ((bs.map fun b : Sh × Addr => b.2).map V.ref) = bs.map fun b => V.ref b.2 := by rw [List.map_map]; rfl
    rw [← e] at rv
    rw [refs_at rv, List.map_map]
    rfl
  subst ei
  have hl : s.heap.IsList a (bs.map fun b => Value.ref b.2).toArray := PySem.IsL.isList ho
  refine PySem.W.sorted_data (enc := fun b : Sh × Addr => encS b.1) (R := fun v b => v = Value.ref b.2) hl (each_of fun b hb => rfl) (each_of fun b hb => ⟨[], sh_reads I.hok (hk b hb)⟩) (PySem.W.AllAlike.of fun _ _ => by simp [PySem.W.alike, PySem.W.alikeAll, encS]) (PySem.W.Sortable.tuples fun _ => ⟨_, _, rfl⟩) hz (fun b _ => ?_) fun out hlen eo => ?_
  · have : (encS b.1).depth = 2 := by simp [encS, PyData.depth, PyData.depthAll]
    omega
  · rw [le_encS (fun b : Sh × Addr => b.1)] at eo
    have eo := each_refs eo
    obtain ⟨c', hat⟩ := PyProof.Rows.sortedAll_at s.heap (bs.map fun b => Value.ref b.2) out.toArray
    refine ⟨.ref (s.heap.objs.size + 1), _, I.laid (t' := s.toks) (o := .lst ((bs.mergeSort fun a b => leS a.1 b.1).map fun b => V.ref b.2)) ?_ (Nat.le_succ _) ?_, rfl, q _ (I.hok.fresh (Nat.le_succ _))⟩
    · intro b u e
      exact PyProof.Rows.sortedAll_old e
    · refine ⟨by rw [List.length_map, List.length_mergeSort]; exact hz, out, c', ?_, hat⟩
      rw [eo, show ((bs.mergeSort fun a b => leS a.1 b.1).map fun b => V.ref b.2) = ((bs.mergeSort fun a b => leS a.1 b.1).map (·.2)).map V.ref by rw [List.map_map]; rfl, show ((bs.mergeSort fun a b => leS a.1 b.1).map fun b => Value.ref b.2) = ((bs.mergeSort fun a b => leS a.1 b.1).map (·.2)).map Value.ref by rw [List.map_map]; rfl]
      exact vals_refs _
end
/-- a comprehension of sheets over a list that stays -/
theorem dcS_list {P : Program} {w : World} {K : PySem.W.Frag} {a : Addr} {xs : List V} {g : TG} {tk tv : TE} {vs : List Nat} {σ : L2.St} {D : Addr} {G0 : Hp} {Qd : Hp → Prop} (Pv : Nat → Hp → Prop) (h0 : Pv 0 G0) (hl : ∀ i G, i ≤ xs.length → Pv i G → SqL K G a xs)
    (turn : ∀ i x G, xs[i]? = some x → Pv i G → TurnS P w g tk tv vs σ D (Pv (i + 1)) x G) (fin : ∀ G, Pv xs.length G → Qd G) (mono : ∀ (N N' : Hp → Prop) x G, (∀ G', N G' → N' G') → TurnS P w g tk tv vs σ D N x G → TurnS P w g tk tv vs σ D N' x G) :
    ∃ W : Nat → Nat → Hp → Prop, (∃ m, W 0 m G0) ∧ ∀ i m G, W i m G → ((Itl K a).stop i G ∧ Qd G) ∨ ((Itl K a).go i G ∧ ∀ x G2, (Itl K a).yld i G x G2 → TurnS P w g tk tv vs σ D (fun G3 => ∃ m', m' < m ∧ W (i + 1) m' G3) x G2) := by
  refine ⟨fun i m G => m = xs.length - i ∧ i ≤ xs.length ∧ Pv i G, ⟨_, rfl, Nat.zero_le _, h0⟩, ?_⟩
  rintro i m G ⟨rfl, hi, pv⟩
  have sq := hl i G hi pv
  rcases Nat.lt_or_ge i xs.length with lt | ge
  · refine .inr ⟨⟨xs, xs[i], sq, List.getElem?_eq_getElem lt⟩, ?_⟩
    rintro x G2 ⟨rfl, at_⟩
    exact mono _ _ _ _ (fun G' z => ⟨_, Nat.sub_lt_sub_left lt (Nat.lt_succ_self i), rfl, lt, z⟩) (turn i x _ (at_ xs sq) pv)
  · obtain rfl : i = xs.length := Nat.le_antisymm hi ge
    exact .inl ⟨⟨xs, sq, Nat.le_refl _⟩, fin G pv⟩
/-! ### enumerate of an empty tuple; a walk of one kind or another -/
section
variable {X : Cx}
/-- enumerate(v), where iter(v) is told by B -/
theorem enum_new {P : Program} {w : World} {A : Around} {E : Value → Shared → Prop} {s : Shared} {v : Value} {Q : Fin → Shared → Prop} (h : wpAny (model P w) A (pyIter v) (fun it s1 => wpAny (model P w) A (newObj (.type "enumerate") (.fields #[.none, .bool false, it, rawInt 0, .none, .none])) (fun e s2 => Q (.done (.ret e)) s2) E s1) E s) :
    wpAny (model P w) A (Builtin.«enumerate.__new__» ⟨[.type "enumerate", v], []⟩) Q E s := by
  have cls : Builtin.SmallTypes.newClass "enumerate" ⟨[.type "enumerate", v], []⟩ = pure (.type "enumerate", [v]) := by
    simp only [Builtin.SmallTypes.newClass, PySem.sub_enumerate]
    rfl
  unfold Builtin.«enumerate.__new__»
  refine wpAny_bind (wpAny_of_eq cls ?_)
  show wpAny _ _ (Builtin.SmallTypes.calledThroughType (.type "enumerate") >>= _) _ _ _
  refine wpAny_bind (wpAny_bind (wpAny_stack_any fun st => wpAny_pure ?_))
  dsimp only
  split <;> try split
  all_goals
    refine wpAny_bind (wpAny_of_eq (a := (v, none)) rfl ?_)
    refine wpAny_bind (wpAny_mono h (fun it s1 h1 => ?_) fun _ _ z => z)
    exact wpAny_bind (wpAny_mono h1 (fun e s2 h2 => wpAny_pure h2) fun _ _ z => z)
/-- nothing to draw -/
def ItN (K : PySem.W.Frag) (a : Addr) : It where
  go := fun _ _ => False
  yld := fun _ _ _ _ => False
  stop := fun _ H => SqT K H a []
theorem turnN {P : Program} {w : World} {K : PySem.W.Frag} {tg : Expr} {a e it : Addr} (na : a ≠ it) : Turn P w K tg (ItN K a) [e, it] e (fun i h => i = 0 ∧ IsEnum h e it 0 .none ∧ h.IsTupleIter it a 0) where
  mem := List.mem_cons_self
  obj := by
    rintro i h ⟨_, he, oi, h1, _, h3⟩ b hb
    rcases List.mem_cons.mp hb with rfl | hb
    · exact ⟨_, he, fun _ z => nomatch z⟩
    · rw [List.mem_singleton.mp hb]
      exact ⟨oi, h1, fun _ z => by rw [h3] at z; cases z⟩
  keep := fun i h h' st k => ⟨st.1, k e List.mem_cons_self _ st.2.1, st.2.2.at fun o z => k it (List.mem_cons_of_mem _ List.mem_cons_self) o z⟩
  item := fun _ _ _ _ _ _ _ _ _ _ _ _ _ _ go => go.elim
  done := by
    intro Y hP hw hK hc i pins s σ H E I hf st stop
    subst hP hw hK
    obtain ⟨rfl, he, hi⟩ := st
    obtain ⟨its, rv, p, _⟩ := I.tuple stop
    cases rv
    obtain ⟨f0, f1, _, f3, f4, f5⟩ := hf it (List.mem_cons_of_mem _ List.mem_cons_self)
    exact wpAny_pyNext_enum_endD (Draws.tuple (A := Y.A.in1) (I.ok.hd hc) it a na #[]) he ⟨hi, p⟩ fun h' eb => ⟨rfl, I.turned (t' := s.toks) (fun b o hb z => eb b o hb z) f0 f1 f3 f4 f5⟩
  self := fun A i s Q E st q => wpAny_pyIter_enum st.2.1 q
def iEnumN (K : PySem.W.Frag) (ta : TA) : TI := fun σ H R => ta σ H fun vs G => ∃ a, vs = [.ref a] ∧ SqT K G a [] ∧ R (ItN K a) G
theorem pi_enumN {e : Expr} {ta : TA} {p pos : Pos} {tg : Expr} (hg : Gl X "enumerate") (hm : X.mg "enumerate" = none) (ha : PA X [e] ta) (hs : starEach [e] X.env = [(false, eval e X.env)] := by rfl) : PI X tg (.Call (.Name "enumerate" p) [e] [] pos) (iEnumN X.K ta) := by
  refine ⟨fun pins s σ H R I h => Call_ (ld_blt I hg hm boot_enumerate (PyProof.Rows.callWith_type1 (thn (ha.run pos pins s σ H _ I h) ?_) hs rfl))⟩
  rintro us s1 ⟨vs, G, I1, r, a, rfl, sq, q⟩
  obtain ⟨u, rfl, ru⟩ := r.one
  cases ru
  obtain ⟨its, rv, tp, _⟩ := I1.tuple sq
  cases rv
  have la : a < s1.heap.objs.size := let ⟨_, z, _⟩ := tp; Heap.lt_size z
  refine callType_new (S := fun A R s => s.heap.IsTuple a #[] ∧ R (.ok (.ret (.ref (s.heap.objs.size + 1)))) { s with heap := (s.heap.push { cls := .type "tuple_iterator", data := .fields #[.ref a, .int 0 0] }).push { cls := .type "enumerate", data := .fields #[.none, .bool false, .ref s.heap.objs.size, rawInt 0, .none, .none] } })
    F.called_enumerate (by decide) (F.typeCall_enumerate_1 _) (F.newCall_enumerate_1 _) (fun obj => F.args_object_init_2 obj _) F.entry_enumerate_new (.of_wp fun P w A R s z => enum_new (wpAny_pyIter_tuple z.1 (wpAny_newObj_type ⟨_, rfl, ?_⟩))) ⟨tp, ?_⟩
  · have := z.2
    rwa [← Heap.size_push] at this
  have he : IsEnum ((s1.heap.push { cls := .type "tuple_iterator", data := .fields #[.ref a, .int 0 0] }).push { cls := .type "enumerate", data := .fields #[.none, .bool false, .ref s1.heap.objs.size, rawInt 0, .none, .none] }) (s1.heap.objs.size + 1) s1.heap.objs.size 0 .none := by
    have z := Heap.get?_push_size (s1.heap.push { cls := .type "tuple_iterator", data := .fields #[.ref a, .int 0 0] }) (o := { cls := .type "enumerate", data := .fields #[.none, .bool false, .ref s1.heap.objs.size, rawInt 0, .none, .none] }) rfl
    rwa [Heap.size_push] at z
  refine ⟨⟨_, he, rfl⟩, wpAny_pyIter_enum he ⟨s1.heap.objs.size + 1, [s1.heap.objs.size + 1, s1.heap.objs.size], _, _, G, rfl, I1.kept (t' := s1.toks) fun b o z => Heap.get?_push_of_some _ (Heap.get?_push_of_some _ z), turnN (Nat.ne_of_lt la), ⟨rfl, he, _, Heap.get?_push_of_some _ (Heap.get?_push_size _ rfl), rfl, rfl⟩, fun b hb => ?_, q⟩⟩
  have le : s1.heap.objs.size ≤ b := by
    rcases List.mem_cons.mp hb with rfl | hb
    · exact Nat.le_succ _
    · rw [List.mem_singleton.mp hb]
      exact Nat.le_refl _
  exact I1.fpOk le (I1.hok.fresh le)
theorem PI.or {tg e : Expr} {a b : TI} (h1 : PI X tg e a) (h2 : PI X tg e b) : PI X tg e (fun σ H R => a σ H R ∨ b σ H R) := ⟨fun pins s σ H R I h => h.elim (h1.run pins s σ H R I) (h2.run pins s σ H R I)⟩
end
/-! ### enumerate of a tuple -/
def ItU (K : PySem.W.Frag) (a : Addr) : It where
  go := fun i H => ∃ (xs : List V) (x : V), SqT K H a xs ∧ xs[i]? = some x
  yld := fun i H v H' => ∃ T x, v = .ref T ∧ H T = none ∧ H' = upd H T (.tup [.int (i : Nat), x]) ∧ ∀ xs, SqT K H a xs → xs[i]? = some x
  stop := fun i H => ∃ xs : List V, SqT K H a xs ∧ xs.length = i
section
variable {X : Cx}
theorem turnU {P : Program} {w : World} {K : PySem.W.Frag} {elts : List Expr} {kk : Nat} {tpos : Pos} {a e it : Addr} (ne : e ≠ it) (na : a ≠ it) (nb : a ≠ e) : Turn P w K (.Tuple elts kk tpos) (ItU K a) [e, it] e (fun i h => (∃ old, IsEnum h e it ((i : Nat) : Int) old) ∧ h.IsTupleIter it a i) where
  mem := List.mem_cons_self
  obj := by
    rintro i h ⟨⟨old, he⟩, oi, h1, _, h3⟩ b hb
    rcases List.mem_cons.mp hb with rfl | hb
    · exact ⟨_, he, fun _ z => nomatch z⟩
    · rw [List.mem_singleton.mp hb]
      exact ⟨oi, h1, fun _ z => by rw [h3] at z; cases z⟩
  keep := by
    rintro i h h' ⟨⟨old, he⟩, hi⟩ k
    exact ⟨⟨old, k e List.mem_cons_self _ he⟩, hi.at fun o z => k it (List.mem_cons_of_mem _ List.mem_cons_self) o z⟩
  self := by
    rintro A i s Q E ⟨⟨old, he⟩, _⟩ q
    exact wpAny_pyIter_enum he q
  item := by
    intro Y hP hw hK hc i pins s σ H E I hf st go
    subst hP hw hK
    obtain ⟨⟨old, he⟩, hi⟩ := st
    obtain ⟨xs, x, sq, hx⟩ := go
    obtain ⟨its, rv, tp, _⟩ := I.tuple sq
    obtain ⟨u, hu, ru⟩ := rv.get hx
    have lt : i < its.toArray.size := by
      rw [List.size_toArray]
      exact (List.getElem?_eq_some_iff.mp hu).1
    refine wpAny_pyNext_enum_itemD (Draws.tuple (A := Y.A.in1) (I.ok.hd hc) it a na its.toArray) he ⟨hi, tp⟩ lt ne (by simp [ne, nb.symm]) ?_
    intro y h' tk hy out st' hT hsz hk
    obtain rfl : u = y := by
      have : its.toArray[i]? = some u := by simpa using hu
      exact Option.some.inj (this.symm.trans hy)
    refine ⟨_, rfl, wpAny_letOwnedTupleGo_enum (s := { s with heap := h', toks := tk + 1 }) out ?_⟩
    intro h2 he2 sb
    have low : e < s.heap.objs.size := Heap.lt_size he
    have tup2 : h2.get? s.heap.objs.size = some { cls := .type "tuple", data := .seq #[.int i tk, u] } := (sb.2 _ (Nat.ne_of_gt low)).trans hT
    have new : ObjOk Y.prog Y.w (upd H s.heap.objs.size (.tup [.int (i : Nat), x])) h2 s.heap.objs.size (.tup [.int (i : Nat), x]) := ⟨by show 2 ≤ sizeLine; decide, _, .cons ⟨_, rfl⟩ (.cons ru .nil), ⟨_, tup2, rfl, _, rfl⟩⟩
    have stay : ∀ b ob, b ∉ [e, it] → s.heap.get? b = some ob → h2.get? b = some ob := by
      intro b ob hb z
      rw [List.mem_cons, List.mem_singleton, not_or] at hb
      exact (sb.2 b hb.1).trans (hk b ob hb.1 hb.2 z)
    refine ⟨.ref s.heap.objs.size, _, I.turnedNew stay hf (Nat.le_refl _) new, rfl, ⟨_, x, rfl, I.hok.fresh (Nat.le_refl _), rfl, fun ys hys => by rw [I.tuple_inj hys sq]; exact hx⟩, ⟨⟨u, ?_⟩, st'.1.at fun o z => (sb.2 it ne.symm).trans z⟩, fun b hb => ?_⟩
    · rw [Int.natCast_add]
      exact he2
    · have lb : b < s.heap.objs.size := by
        rcases List.mem_cons.mp hb with rfl | hb
        · exact low
        · rw [List.mem_singleton.mp hb]
          obtain ⟨_, z, _⟩ := hi
          exact Heap.lt_size z
      rw [upd_ne (Nat.ne_of_lt lb)]
      exact (hf b hb).1
  done := by
    intro Y hP hw hK hc i pins s σ H E I hf st stop
    subst hP hw hK
    obtain ⟨⟨old, he⟩, hi⟩ := st
    obtain ⟨xs, sq, hx⟩ := stop
    obtain ⟨its, rv, tp, _⟩ := I.tuple sq
    obtain ⟨f0, f1, _, f3, f4, f5⟩ := hf it (List.mem_cons_of_mem _ List.mem_cons_self)
    have here : i = its.toArray.size := by
      rw [List.size_toArray, ← rv.length]
      exact hx.symm
    refine wpAny_pyNext_enum_endD (Draws.tuple (A := Y.A.in1) (I.ok.hd hc) it a na its.toArray) he ⟨by rw [← here]; exact hi, tp⟩ fun h' eb => ⟨rfl, ?_⟩
    exact I.turned (t' := s.toks) (fun b o hb z => eb b o hb z) f0 f1 f3 f4 f5
def iEnumT (K : PySem.W.Frag) (ta : TA) : TI := fun σ H R => ta σ H fun vs G => ∃ a xs, vs = [.ref a] ∧ SqT K G a xs ∧ R (ItU K a) G
theorem pi_enumT {e : Expr} {ta : TA} {p pos tpos : Pos} {elts : List Expr} {kk : Nat} (hg : Gl X "enumerate") (hm : X.mg "enumerate" = none) (ha : PA X [e] ta) (hs : starEach [e] X.env = [(false, eval e X.env)] := by rfl) : PI X (.Tuple elts kk tpos) (.Call (.Name "enumerate" p) [e] [] pos) (iEnumT X.K ta) := by
  refine ⟨fun pins s σ H R I h => Call_ (ld_blt I hg hm boot_enumerate (PyProof.Rows.callWith_type1 (thn (ha.run pos pins s σ H _ I h) ?_) hs rfl))⟩
  rintro us s1 ⟨vs, G, I1, r, a, xs, rfl, sq, q⟩
  obtain ⟨u, rfl, ru⟩ := r.one
  cases ru
  obtain ⟨its, rv, tp, _⟩ := I1.tuple sq
  have la : a < s1.heap.objs.size := let ⟨_, z, _⟩ := tp; Heap.lt_size z
  have tp' : s1.heap.IsTuple a its.toArray := tp
  refine callType_new (S := fun A R s => s.heap.IsTuple a its.toArray ∧ R (.ok (.ret (.ref (s.heap.objs.size + 1)))) { s with heap := (s.heap.push { cls := .type "tuple_iterator", data := .fields #[.ref a, .int 0 0] }).push { cls := .type "enumerate", data := .fields #[.none, .bool false, .ref s.heap.objs.size, rawInt 0, .none, .none] } })
    F.called_enumerate (by decide) (F.typeCall_enumerate_1 _) (F.newCall_enumerate_1 _) (fun obj => F.args_object_init_2 obj _) F.entry_enumerate_new (.of_wp fun P w A R s z => enum_new (wpAny_pyIter_tuple z.1 (wpAny_newObj_type ⟨_, rfl, ?_⟩))) ⟨tp', ?_⟩
  · have := z.2
    rwa [← Heap.size_push] at this
  have he : IsEnum ((s1.heap.push { cls := .type "tuple_iterator", data := .fields #[.ref a, .int 0 0] }).push { cls := .type "enumerate", data := .fields #[.none, .bool false, .ref s1.heap.objs.size, rawInt 0, .none, .none] }) (s1.heap.objs.size + 1) s1.heap.objs.size ((0 : Nat) : Int) .none := by
    have z := Heap.get?_push_size (s1.heap.push { cls := .type "tuple_iterator", data := .fields #[.ref a, .int 0 0] }) (o := { cls := .type "enumerate", data := .fields #[.none, .bool false, .ref s1.heap.objs.size, rawInt 0, .none, .none] }) rfl
    rwa [Heap.size_push] at z
  have hit : ((s1.heap.push { cls := .type "tuple_iterator", data := .fields #[.ref a, .int 0 0] }).push { cls := .type "enumerate", data := .fields #[.none, .bool false, .ref s1.heap.objs.size, rawInt 0, .none, .none] }).IsTupleIter s1.heap.objs.size a 0 := ⟨_, Heap.get?_push_of_some _ (Heap.get?_push_size _ rfl), rfl, rfl⟩
  refine ⟨⟨_, he, rfl⟩, wpAny_pyIter_enum he ⟨s1.heap.objs.size + 1, [s1.heap.objs.size + 1, s1.heap.objs.size], _, _, G, rfl, I1.kept (t' := s1.toks) fun b o z => Heap.get?_push_of_some _ (Heap.get?_push_of_some _ z), turnU (Nat.succ_ne_self _) (Nat.ne_of_lt la) (Nat.ne_of_lt (Nat.lt_succ_of_lt la)), ⟨⟨.none, he⟩, hit⟩, fun b hb => ?_, q⟩⟩
  have le : s1.heap.objs.size ≤ b := by
    rcases List.mem_cons.mp hb with rfl | hb
    · exact Nat.le_succ _
    · rw [List.mem_singleton.mp hb]
      exact Nat.le_refl _
  exact I1.fpOk le (I1.hok.fresh le)
end
/-- a for over it, where the tuple stays -/
theorem for_enumT {K : PySem.W.Frag} {a : Addr} {xs : List V} {g : TG} {tb : TS} {D : Ends} {σ : L2.St} {H : Hp} (Pv : Nat → L2.St → Hp → Prop) (h0 : Pv 0 σ H) (hl : ∀ i τ G, i ≤ xs.length → Pv i τ G → SqT K G a xs)
    (turn : ∀ i x τ G T, xs[i]? = some x → Pv i τ G → G T = none → g (.ref T) τ (upd G T (.tup [.int (i : Nat), x])) fun τ2 G2 => tb { D with nx := Pv (i + 1), ct := Pv (i + 1), bk := D.nx } τ2 G2) (fin : ∀ τ G, Pv xs.length τ G → D.nx τ G) :
    ∃ W : Nat → Nat → L2.St → Hp → Prop, (∃ m, W 0 m σ H) ∧ ∀ i m τ G, W i m τ G → ((ItU K a).stop i G ∧ D.nx τ G) ∨ ((ItU K a).go i G ∧ ∃ N : L2.St → Hp → Prop, (∀ τ' G', N τ' G' → ∃ m', m' < m ∧ W (i + 1) m' τ' G') ∧
      ∀ x G', (ItU K a).yld i G x G' → g x τ G' fun τ2 G2 => tb { D with nx := N, ct := N, bk := D.nx } τ2 G2) := by
  refine ⟨fun i m τ G => i + m = xs.length ∧ Pv i τ G, ⟨xs.length, Nat.zero_add _, h0⟩, ?_⟩
  rintro i m τ G ⟨hm, pv⟩
  have sq := hl i τ G (by omega) pv
  rcases Nat.eq_zero_or_pos m with rfl | hp
  · obtain rfl : i = xs.length := hm
    exact .inl ⟨⟨xs, sq, rfl⟩, fin τ G pv⟩
  · have lt : i < xs.length := by omega
    refine .inr ⟨⟨xs, xs[i], sq, List.getElem?_eq_getElem lt⟩, Pv (i + 1), fun τ' G' z => ⟨m - 1, by omega, by omega, z⟩, ?_⟩
    rintro x G' ⟨T, y, rfl, hT, rfl, at_⟩
    exact turn i y τ G T (at_ xs sq) pv hT
/-! ### rows put together -/
theorem putD_new {es : DEs} {x : Sh} {p : Addr} {n : Int} (h : valD es x = none) : putD es x p n = es ++ [(x, p, n)] := by
  unfold putD
  rw [h]
  rfl
theorem take_put {fs : DEs} (nd : (keysD fs).Nodup) {i : Nat} {e : Sh × Addr × Int} (he : fs[i]? = some e) : putD (fs.take i) e.1 e.2.1 e.2.2 = fs.take (i + 1) := by
  have hn : valD (fs.take i) e.1 = none := by
    refine valD_none.mpr fun z => ?_
    obtain ⟨f, hf, hfe⟩ := List.mem_map.mp z
    obtain ⟨j, hj⟩ := List.mem_iff_getElem?.mp hf
    have hji : j < i := by
      rcases Nat.lt_or_ge j i with l | l
      · exact l
      · rw [List.getElem?_eq_none (by rw [List.length_take]; omega)] at hj
        cases hj
    rw [List.getElem?_take_of_lt hji] at hj
    have k1 : (keysD fs)[j]? = some e.1 := by
      unfold keysD
      rw [List.getElem?_map, hj, ← hfe]
      rfl
    have k2 : (keysD fs)[i]? = some e.1 := by
      unfold keysD
      rw [List.getElem?_map, he]
      rfl
    obtain ⟨l1, g1⟩ := List.getElem?_eq_some_iff.mp k1
    have := (List.getElem?_inj l1 nd).mp (k1.trans k2.symm)
    omega
  rw [putD_new hn, List.take_add_one, he]
  rfl
theorem putD_in {es : DEs} {x : Sh} {p : Addr} {n : Int} {y : Sh × Addr × Int} (h : y ∈ putD es x p n) : (y.1 = x ∧ y.2.2 = n) ∨ y ∈ es := by
  unfold putD at h
  split at h
  · obtain ⟨z, hz, rfl⟩ := List.mem_map.mp h
    split
    · rename_i e
      exact .inl ⟨e, rfl⟩
    · exact .inr hz
  · rcases List.mem_append.mp h with h | h
    · exact .inr h
    · rw [List.mem_singleton.mp h]
      exact .inl ⟨rfl, rfl⟩
def addE (acc : DEs) (e : Sh × Addr × Int) : DEs := putD acc e.1 e.2.1 ((valD acc e.1).getD 0 + e.2.2)
def mergeTo (es : DEs) (i : Nat) : DEs := (es.take i).foldl addE []
def mergeD (es : DEs) : DEs := es.foldl addE []
theorem mergeTo_all (es : DEs) : mergeTo es es.length = mergeD es := by
  unfold mergeTo mergeD
  rw [List.take_length]
theorem mergeTo_succ {es : DEs} {i : Nat} {e : Sh × Addr × Int} (he : es[i]? = some e) : mergeTo es (i + 1) = addE (mergeTo es i) e := by
  unfold mergeTo
  rw [List.take_add_one, he, List.foldl_append]
  rfl
theorem fold_nodup : ∀ (es acc : DEs), (keysD acc).Nodup → (keysD (es.foldl addE acc)).Nodup
  | [], _, h => h
  | e :: es, acc, h => fold_nodup es (addE acc e) (put_nodup h _ _ _)
theorem merge_nodup (es : DEs) : (keysD (mergeD es)).Nodup := fold_nodup es [] List.nodup_nil
theorem fold_wsum (φ : Sh → Int) : ∀ (es acc : DEs), (keysD acc).Nodup → wsum φ (es.foldl addE acc) = wsum φ acc + wsum φ es
  | [], acc, h => by
    show wsum φ acc = wsum φ acc + 0
    omega
  | e :: es, acc, h => by
    rw [List.foldl_cons, fold_wsum φ es (addE acc e) (put_nodup h _ _ _), wsum_cons]
    unfold addE
    rw [wsum_put h]
    omega
theorem merge_wsum (φ : Sh → Int) (es : DEs) : wsum φ (mergeD es) = wsum φ es := by
  unfold mergeD
  rw [fold_wsum φ es [] List.nodup_nil]
  show 0 + wsum φ es = _
  omega
theorem fold_len : ∀ (es acc : DEs), (es.foldl addE acc).length ≤ acc.length + es.length
  | [], acc => by simp
  | e :: es, acc => by
    have h1 := fold_len es (addE acc e)
    have h2 : (addE acc e).length ≤ acc.length + 1 := putD_len _ _ _ _
    rw [List.foldl_cons, List.length_cons]
    omega
theorem mergeTo_len (es : DEs) (i : Nat) : (mergeTo es i).length ≤ i := by
  have h1 := fold_len (es.take i) []
  have h2 : (es.take i).length ≤ i := by
    rw [List.length_take]
    omega
  unfold mergeTo
  simp only [List.length_nil] at h1
  omega
theorem merge_len (es : DEs) : (mergeD es).length ≤ es.length := by
  have := fold_len es []
  simpa [mergeD] using this
/-- each number from 1 to M, each sheet by S -/
def Within (S : Sh → Prop) (M : Int) (es : DEs) : Prop := ∀ e ∈ es, S e.1 ∧ 1 ≤ e.2.2 ∧ e.2.2 ≤ M
theorem Within.up {S : Sh → Prop} {M N : Int} {es : DEs} (h : Within S M es) (l : M ≤ N) : Within S N es := fun e he => ⟨(h e he).1, (h e he).2.1, Int.le_trans (h e he).2.2 l⟩
theorem Within.perm {S : Sh → Prop} {M : Int} {es fs : DEs} (h : Within S M es) (p : fs.Perm es) : Within S M fs := fun e he => h e (p.mem_iff.mp he)
theorem fold_within {S : Sh → Prop} {M : Int} (hM : 0 ≤ M) : ∀ (es acc : DEs) (N : Int), 0 ≤ N → Within S N acc → Within S M es → Within S (N + es.length * M) (es.foldl addE acc)
  | [], acc, N, hN, ha, _ => by simpa using ha
  | e :: es, acc, N, hN, ha, he => by
    have h1 : Within S (N + M) (addE acc e) := by
      intro y hy
      rcases putD_in hy with ⟨e1, e2⟩ | z
      · obtain ⟨s1, s2, s3⟩ := he e List.mem_cons_self
        have hv : 0 ≤ (valD acc e.1).getD 0 ∧ (valD acc e.1).getD 0 ≤ N := by
          cases hv : valD acc e.1 with
          | none => exact ⟨Int.le_refl _, hN⟩
          | some v =>
            obtain ⟨f, hf, _, rfl⟩ := valD_some hv
            have := ha f hf
            exact ⟨by show 0 ≤ f.2.2; omega, this.2.2⟩
        rw [e1, e2]
        exact ⟨s1, by omega, by omega⟩
      · have := ha y z
        exact ⟨this.1, this.2.1, by omega⟩
    have h2 := fold_within hM es (addE acc e) (N + M) (by omega) h1 fun y hy => he y (List.mem_cons_of_mem _ hy)
    rw [List.foldl_cons, List.length_cons]
    refine h2.up (Int.le_of_eq ?_)
    have : ((es.length + 1 : Nat) : Int) * M = es.length * M + M := by
      rw [Int.natCast_add, Int.add_mul]
      simp
    omega
theorem merge_within {S : Sh → Prop} {M : Int} {es : DEs} (hM : 0 ≤ M) (h : Within S M es) : Within S (es.length * M) (mergeD es) := by
  have := fold_within hM es [] 0 (Int.le_refl _) (fun e he => by cases he) h
  rwa [Int.zero_add] at this
/-! ### d == e, for dicts of sheets -/
def eqE (fs : DEs) (e : Sh × Addr × Int) : Bool := decide (valD fs e.1 = some e.2.2)
def eqD (es fs : DEs) : Bool := decide (es.length = fs.length) && es.all (eqE fs)
theorem drel_keys {fs : DEs} {ys : List (NestedKey × Addr × Value)} (r : Paired DRel fs ys) : ys.map (·.1) = fs.map fun f => shK f.1 := by
  induction r with
  | nil => rfl
  | cons h _ ih => rw [List.map_cons, List.map_cons, ih, h.1]
theorem drel_nodup {fs : DEs} {ys : List (NestedKey × Addr × Value)} (r : Paired DRel fs ys) (n : (ys.map (·.1)).Nodup) : (keysD fs).Nodup := by
  rw [drel_keys r] at n
  exact List.pairwise_map.mpr ((List.pairwise_map.mp n).imp fun ne z => ne (congrArg shK z))
section
variable {X : Cx} {pins : List (Addr × Obj)} {σ : L2.St} {H : Hp} {s : Shared} {a b : Addr} {es fs : DEs} {A : Around} {E : Value → Shared → Prop}
/-- one entry, looked up in the other dict -/
theorem ds_hit {e : Sh × Addr × Int} {v : Value} {ob : Obj} {eb : Array DictEntry} {pb : Nat} {ys : List (NestedKey × Addr × Value)} {Q : Bool → Shared → Prop} (hu : A.units + 8 < cLine) (I : Inv X pins σ H s) (he : ShAt H e.2.1 e.1) (rv : RelV (.int e.2.2) v)
    (ry : Paired DRel fs ys) (hb : s.heap.get? b = some ob) (db : ob.data = .dict eb pb) (tb : eb.toList = ys.map (entryOfKey (nestedKind X.prog X.w))) (kb : ∀ y ∈ ys, (nestedKind X.prog X.w).is s.heap y.1 y.2.1) (nb : (ys.map (·.1)).Nodup) (q : Q (eqE fs e) s) :
    wpAny (model X.prog X.w) A (do
      let some j ← dictFind b (.ref e.2.1) ((nestedKind X.prog X.w).hash (shK e.1)) | pure false
      let some f := (← dictEntries b)[j]? | unsupported "internal:dict-equal"
      holding [f.val] (eqBool v f.val)) Q E s := by
  refine wpAny_bind (wpAny_dictFind_heap (show A.units + 8 < cLine from hu) (sh_key I.hok he) hb db tb kb nb (fun no => ?_) fun j p hj => ?_)
  · have vn : valD fs e.1 = none := by
      cases z : valD fs e.1 with
      | none => rfl
      | some n =>
        obtain ⟨f, hf, f1, _⟩ := valD_some z
        obtain ⟨i, hi⟩ := List.mem_iff_getElem?.mp hf
        obtain ⟨y, hy, y1, _⟩ := Paired.getL ry hi
        refine absurd hy (fun hy => no i y.2 ?_)
        rw [hy, ← f1, ← y1]
    refine wpAny_pure ?_
    unfold eqE at q
    rwa [vn, decide_eq_false (by simp)] at q
  · obtain ⟨f, hf, f1, f2, f3⟩ := Paired.getR ry (List.mem_of_getElem? hj)
    have fe : f.1 = e.1 := shK_inj f1.symm
    have vs : valD fs e.1 = some f.2.2 := by
      rw [← fe]
      exact valD_mem (drel_nodup ry nb) hf
    have at_ : eb[j]? = some ⟨(nestedKind X.prog X.w).hash (shK e.1), .ref p.1, p.2⟩ := by
      rw [entry_at tb j, hj]
      rfl
    refine wpAny_bind (wpAny_dictEntries hb db ?_)
    simp only [at_]
    obtain ⟨t1, rfl⟩ := rv
    obtain ⟨t2, e2⟩ := f3
    replace e2 : p.2 = .int f.2.2 t2 := e2
    rw [e2]
    refine wpAny_holding (wpAny_eqBool_int ?_)
    unfold eqE at q
    rw [vs] at q
    have : (e.2.2 == f.2.2) = decide (some f.2.2 = some e.2.2) := by
      by_cases z : e.2.2 = f.2.2
      · rw [z]
        simp
      · rw [beq_eq_false_iff_ne.mpr z, decide_eq_false fun w => z (Option.some.inj w).symm]
    rwa [this]
theorem ds_samePairs {nm : String} {Q : Bool → Shared → Prop} (hu : A.units + 8 < cLine) (I : Inv X pins σ H s) (D : DRd X.prog X.w H a es) (F : DRd X.prog X.w H b fs) (q : Q (eqD es fs) s) : wpAny (model X.prog X.w) A (Builtin.Dict.samePairs nm a b) Q E s := by
  obtain ⟨la, _, xs, rx, oa, ea, pa, ha, _, da, ta, _, _⟩ := ds_of I.hok D
  obtain ⟨lb, _, ys, ry, ob, eb, pb, hb, _, db, tb, kb, nb⟩ := ds_of I.hok F
  have sa : ea.size = es.length := ds_size ta rx
  have sb : eb.size = fs.length := ds_size tb ry
  have sh : ∀ d, (d == sysModules) = false → Builtin.Dict.showsAll d = pure () := by
    intro d z
    unfold Builtin.Dict.showsAll
    rw [z]
    rfl
  unfold Builtin.Dict.samePairs
  refine wpAny_bind (wpAny_of_eq (sh a la) (wpAny_bind (wpAny_of_eq (sh b lb) ?_)))
  refine wpAny_bind (wpAny_dictEntries ha da (wpAny_bind (wpAny_dictEntries hb db ?_)))
  unfold eqD at q
  rw [sa, sb]
  by_cases hz : es.length = fs.length
  · rw [decide_eq_true hz, Bool.true_and] at q
    rw [if_neg (by rw [hz]; simp)]
    refine wpAny_bind (wpAny_dictEpoch ha da ?_)
    refine wpAny_bind ?_
    rw [Std.Legacy.Range.forIn_eq_forIn_range']
    refine wpAny_forIn_list _ (fun rest st s' => s' = s ∧ st = (none, ()) ∧ ∃ i, rest = List.range' i rest.length ∧ i + rest.length = es.length ∧ es.all (eqE fs) = (es.drop i).all (eqE fs)) _ ?_ ?_ _ _ ⟨rfl, rfl, 0, ?_, ?_, ?_⟩
    · rintro x rest st s' ⟨rfl, rfl, i, hr, hn, hall⟩
      rw [List.length_cons] at hr hn
      rw [List.range'_succ] at hr
      obtain ⟨rfl, hr⟩ := List.cons.inj hr
      obtain ⟨e, he⟩ : ∃ e, es[x]? = some e := ⟨es[x]'(by omega), List.getElem?_eq_getElem (by omega)⟩
      obtain ⟨y, hy, y1, y2, y3⟩ := Paired.getL rx he
      have at_ : ea[x]? = some ⟨(nestedKind X.prog X.w).hash (shK e.1), .ref e.2.1, y.2.2⟩ := by
        rw [entry_at ta x, hy, ← y1, ← y2]
        rfl
      have dr : (es.drop x).all (eqE fs) = (eqE fs e && (es.drop (x + 1)).all (eqE fs)) := by
        rw [List.drop_eq_getElem?_toList_append, he]
        rfl
      refine wpAny_bind (wpAny_dictEntries ha da ?_)
      simp only [at_]
      refine wpAny_bind (wpAny_holding (ds_hit hu I (D.ks e (List.mem_of_getElem? he)) y3 ry hb db tb kb nb ?_))
      cases hq : eqE fs e with
      | false =>
        rw [hall, dr, hq, Bool.false_and] at q
        exact wpAny_pure (wpAny_pure q)
      | true =>
        rw [if_neg (by decide)]
        refine wpAny_bind (wpAny_dictEpoch ha da ?_)
        rw [if_neg (by simp)]
        refine wpAny_pure ⟨rfl, rfl, x + 1, hr, by omega, ?_⟩
        rw [hall, dr, hq, Bool.true_and]
    · rintro st s' ⟨rfl, rfl, i, hr, hn, hall⟩
      have : i = es.length := by simpa using hn
      subst this
      rw [hall, List.drop_length] at q
      exact wpAny_pure q
    · simp
    · simp [Std.Legacy.Range.size]
    · rw [List.drop_zero]
  · rw [decide_eq_false hz, Bool.false_and] at q
    rw [if_pos (by simpa using hz)]
    exact wpAny_bind (wpAny_rule (wpAny_pure q))
theorem ds_eq {Q : Value → Shared → Prop} (hu : A.units + 9 < cLine) (I : Inv X pins σ H s) (D : DRd X.prog X.w H a es) (F : DRd X.prog X.w H b fs) (q : Q (.bool (eqD es fs)) s) : wpAny (model X.prog X.w) A (compareOp .Eq (.ref a) (.ref b)) Q E s := by
  have ta := (ds_dict (X := X) I D).1
  have tb := (ds_dict (X := X) I F).1
  refine wpAny_richCompare_same_room (op := .Eq) ta tb PySem.F.slot_dict_eq (wpAny_call_entry PySem.F.slot_dict_eq ta PySem.F.entry_dict_eq ?_ (PySem.F.args_dict_eq_2 _ _)) (by omega)
  have args : wpAny (model X.prog X.w) A.in1 (Builtin.Dict.dictSlotArgs "__eq__" ⟨[.ref a, .ref b], []⟩) (fun r s' => r = (.ref a, .ref b) ∧ s' = s) E s := by
    unfold Builtin.Dict.dictSlotArgs
    refine wpAny_bind (wpAny_notOrdered_dict ta ?_)
    exact wpAny_pure ⟨rfl, rfl⟩
  refine wpAny_bind (m := Builtin.Dict.dictSlotArgs "__eq__" ⟨[.ref a, .ref b], []⟩) (wpAny_mono args ?_ fun _ _ z => z)
  rintro r s' ⟨rfl, rfl⟩
  refine wpAny_bind (wpAny_isInstance (T := "dict") tb PySem.F.sub_dict_dict ?_)
  simp only [Bool.not_true, Bool.false_eq_true, if_false]
  refine wpAny_bind (wpAny_pure (wpAny_bind (wpAny_pure (wpAny_bind (ds_samePairs (show A.in1.units + 8 < cLine from by show A.units + 1 + 8 < cLine; omega) I D F ?_)))))
  exact wpAny_pure ⟨_, rfl, by simp, by simpa using q⟩
end
def rEqDS (P : Program) (w : World) : R2 := fun x y H Q => ∃ a b es fs, x = .ref a ∧ y = .ref b ∧ DRd P w H a es ∧ DRd P w H b fs ∧ Q (.bl (eqD es fs)) H
theorem op_eqDS {X : Cx} (hu : X.A.units + 64 < cLine) : OpR X (compareOp .Eq) (rEqDS X.prog X.w) := by
  intro pins s σ H x y u v Q I rx ry q
  obtain ⟨a, b, es, fs, rfl, rfl, D, F, q⟩ := q
  cases rx
  cases ry
  exact ds_eq (by omega) I D F ⟨.bl (eqD es fs), H, I, rfl, q⟩
/-! ### len(d), bool(d), for dicts of sheets -/
section
variable {X : Cx} {pins : List (Addr × Obj)} {σ : L2.St} {H : Hp} {s : Shared} {d : Addr} {es : DEs} {A : Around} {E : Value → Shared → Prop}
theorem ds_lenSlot {Q : Value → Shared → Prop} (I : Inv X pins σ H s) (D : DRd X.prog X.w H d es) (q : ∀ t s', Inv X pins σ H s' → Q (.int es.length t) s') : wpAny (model X.prog X.w) A (call (.builtin "dict.__len__") [.ref d]) Q E s := by
  have ty := (ds_dict (X := X) I D).1
  obtain ⟨low, _, xs, r, o, en, ep, ho, _, hd, he, _, _⟩ := ds_of I.hok D
  have few : en.size = es.length := ds_size he r
  refine wpAny_call_entry PySem.F.slot_dict_len ty PySem.F.entry_dict_len ?_ (PySem.F.args_dict_len_1 _)
  have self : wpAny (model X.prog X.w) A.in1 (Builtin.Dict.dictSlotNone "__len__" ⟨[.ref d], []⟩) (fun v s' => v = .ref d ∧ s' = s) E s := by
    unfold Builtin.Dict.dictSlotNone
    exact wpAny_bind (wpAny_notOrdered_dict ty (wpAny_pure ⟨rfl, rfl⟩))
  unfold Builtin.«dict.__len__»
  refine wpAny_bind (wpAny_mono self ?_ fun _ _ z => z)
  rintro v s' ⟨rfl, rfl⟩
  refine wpAny_bind (wpAny_pure ?_)
  unfold dictSize
  refine wpAny_bind (wpAny_bind (wpAny_dictEntries ho hd (wpAny_pure ?_)))
  have none : Builtin.Dict.pendingCount d = pure 0 := by
    unfold Builtin.Dict.pendingCount
    rw [low]
    rfl
  refine wpAny_bind (wpAny_of_eq none ?_)
  rw [few, show (es.length : Int) + ((0 : Nat) : Int) = (es.length : Int) by simp]
  exact wpAny_bind (wpAny_mkInt (wpAny_pure ⟨_, rfl, q _ _ (I.tok _)⟩))
theorem ds_lenBody {Q : Fin → Shared → Prop} (I : Inv X pins σ H s) (D : DRd X.prog X.w H d es) (q : ∀ t s', Inv X pins σ H s' → Q (.done (.ret (.int es.length t))) s') : wpAny (model X.prog X.w) A (Builtin.«len» ⟨[.ref d], []⟩) Q E s := by
  have few : (es.length : Int) < 2 ^ 63 := by
    have z : es.length ≤ sizeLine := (ds_of I.hok D).2.1
    have := line63
    omega
  unfold Builtin.«len»
  refine wpAny_bind (m := oneArg "len" _) (wpAny_pure ?_)
  refine wpAny_bind (m := callSpecial? (.ref d) (Str.ofString "__len__")) (wpAny_callSpecial?_slot (name := Str.ofString "__len__") (ds_dict (X := X) I D).1 PySem.F.slot_dict_len (ds_lenSlot I D fun t s' I' => ?_))
  refine wpAny_bind (wpAny_holding (wpAny_pure (wpAny_bind (wpAny_letGo ?_))))
  dsimp only
  rw [if_neg (show ¬ (es.length : Int) < 0 by omega), if_neg (show ¬ (es.length : Int) ≥ 2 ^ 63 by omega)]
  exact wpAny_bind (wpAny_mkInt (wpAny_pure (q _ _ (I'.tok _))))
theorem ds_truthy {Q : Bool → Shared → Prop} (I : Inv X pins σ H s) (D : DRd X.prog X.w H d es) (q : ∀ s', Inv X pins σ H s' → Q (!es.isEmpty) s') : wpAny (model X.prog X.w) A (truthy (.ref d)) Q E s := by
  have ty := (ds_dict (X := X) I D).1
  have size : wpAny (model X.prog X.w) A (runValue (.builtin "len" ⟨[.ref d], []⟩)) (fun r s' => ∃ t, r = .int es.length t ∧ Inv X pins σ H s') E s := by
    refine wpAny_runValue (codeAny_builtin entry_len ?_)
    rw [Around.under_plainId plain_len _]
    exact ds_lenBody I D fun t s' I' => ⟨t, rfl, I'⟩
  have ans : ((es.length : Int) != 0) = !es.isEmpty := by
    cases es with
    | nil => rfl
    | cons e es =>
      rw [List.length_cons]
      show (((es.length + 1 : Nat) : Int) != 0) = true
      rw [bne_iff_ne]
      omega
  unfold truthy
  refine wpAny_bind (wpAny_callSpecial?_none (name := Str.ofString "__bool__") ty noBool_dict ?_)
  refine wpAny_bind (wpAny_specialOf (name := Str.ofString "__len__") ty PySem.F.slot_dict_len.lookup ?_)
  refine wpAny_bind (wpAny_mono size ?_ fun _ _ z => z)
  rintro r s' ⟨t, rfl, I'⟩
  refine wpAny_pure ?_
  show Q ((es.length : Int) != 0) s'
  rw [ans]
  exact q s' I'
end
def rLenDS (P : Program) (w : World) : List V → Hp → VK → Prop := fun vs H Q => ∃ d es, vs = [.ref d] ∧ DRd P w H d es ∧ Q (.int es.length) H
theorem call_len_DS {X : Cx} : CallR X (.builtin "len") (rLenDS X.prog X.w) := by
  intro pins s σ H vs us Q I r q
  obtain ⟨d, es, rfl, D, q⟩ := q
  obtain ⟨u, rfl, ru⟩ := r.one
  cases ru
  exact Calls.call_function_entry kind_len plain_len entry_len (args_len1 _) (ds_lenBody I D fun t s' I' => ⟨_, rfl, .int es.length, H, I', ⟨t, rfl⟩, q⟩)
/-- bool(v), by the truth of v -/
theorem bool_truth {P : Program} {w : World} {A : Around} {E : Value → Shared → Prop} {s : Shared} {v : Value} {Q : Value → Shared → Prop} (tr : wpAny (model P w) A.in1.in1 (truthy v) (fun k s₁ => Q (.bool k) s₁) E s) : wpAny (model P w) A (call (.type "bool") [v]) Q E s := by
  refine callType_codes (T := "bool") (Bi := Builtin.«object.__init__») (Q₁ := fun r s₁ => ∃ k, r = Value.bool k ∧ Q r s₁) PySem.F.called_bool (PySem.F.typeCall_bool_1 _) PySem.F.entry_object_init ?_ ?_
  · refine codeAny_of_tree ?_
    show wpAny _ A.in1.in1 (do checkBuiltinCall "bool.__new__" ⟨[.type "bool", v], []⟩; again (.builtin "bool.__new__" ⟨[.type "bool", v], []⟩)) _ _ s
    refine wpAny_bind (wpAny_of_eq (PySem.F.newCall_bool_1 _) (wpAny_pure ⟨plainId_quiet (by decide +kernel) _, codeAny_builtin PySem.F.entry_bool_new ?_⟩))
    rw [Around.under_plainId (by decide +kernel) _]
    obtain ⟨hp, g, d, tk, os⟩ := s
    have f1 := F.conv_sub_bool
    repeat (any_goals (first | assumption | (with_reducible refine wpAny_mono tr (fun k s₁ q => ?_) fun _ _ z => z) | wp_step))
    all_goals first | exact ⟨_, rfl, q⟩ | skip
  · rintro obj s₁ ⟨k, rfl, hq⟩
    exact ⟨rfl, PySem.F.args_object_init_2 _ _, object_init_meets PySem.F.called_bool.init.lookup PySem.F.called_bool.made (by decide) P w A.in1 _ s₁ ⟨rfl, rfl, hq⟩⟩
def rBoolDS (P : Program) (w : World) : List V → Hp → VK → Prop := fun vs H Q => ∃ d es, vs = [.ref d] ∧ DRd P w H d es ∧ Q (.bl (!es.isEmpty)) H
theorem call_bool_DS {X : Cx} : CallR X (.type "bool") (rBoolDS X.prog X.w) := by
  intro pins s σ H vs us Q I r q
  obtain ⟨d, es, rfl, D, q⟩ := q
  obtain ⟨u, rfl, ru⟩ := r.one
  cases ru
  exact bool_truth (ds_truthy I D fun s' I' => ⟨.bl (!es.isEmpty), H, I', rfl, q⟩)
/-! ### the law's own draws -/
section
variable {base : Heap} {K : PySem.W.Frag} {mg : Str → Option Value} {P : Program} {w : World}
def spPull : Sp := fun vs H Q _ => ∃ (b sb : Addr) (n : Int), vs = [.ref b, .int n] ∧ Bag H b sb ∧ 0 < n ∧ n.natAbs < 2 ^ 100 ∧ ∀ z H', 0 ≤ z → z < n → Bag H' b sb → Keep b H H' → Q (.int z) H'
theorem ok_pull (T : Txt K mg) : FnOk P w K mg base CX0 1 T.f_pull T.d_pull ["_law_bag", "_law_size"] spPull := by
  refine T.F_pull.ok sc_pull (fun vs H Q E h => ?_) (fun cdv A outer s H vs Q E hr h => ?_)
  · obtain ⟨b, sb, n, rfl, _⟩ := h
    rfl
  · obtain ⟨b, s1, n, rfl, ⟨ns, i, j, m, c, B⟩, h0, h1, q⟩ := h
    refine ⟨_, (pss_cons (ps_asg (pe_op op_add (pe_ix ix_list (pv 0) pe_int (fun _ _ => rfl)) pe_int) (pg_sub (pv 0) pe_int set_list))
      (Evl.pss_cut (ps_if (PW.pt (pw_and (pt_cmpR op_eq (pe_ix ix_list (pv 0) pe_int (fun _ _ => rfl)) pe_int (nomark _)) (pw_and1 (pt_cmpR op_lt (pe_ix ix_list (pv 0) pe_int (fun _ _ => rfl)) (pe_callB call_len_seq (by rfl) T.n_len (by decide +kernel) (pa_cons (pe_ix ix_list (pv 0) pe_int (fun _ _ => rfl)) pa_nil)) (nomark _))))) (pss_cons (ps_set (i := 3) sc_pull.nd rfl (Or.inl rfl) (pe_ix ix_list (pe_ix ix_list (pv 0) pe_int (fun _ _ => rfl)) (pe_ix ix_list (pv 0) pe_int (fun _ _ => rfl)) (fun _ _ => rfl)))
      (pss_cons (ps_asg (pe_op op_add (pe_ix ix_list (pv 0) pe_int (fun _ _ => rfl)) pe_int) (pg_sub (pv 0) pe_int set_list))
      (pss_one (ps_if (pt_cmpR op_ge (pv 3) (pe_op op_pow pe_int pe_int) (nomark _)) (pss_one (ps_asg (pv 3) (pg_sub (pv 0) pe_int set_list))) (pss_cons (ps_set (i := 2) sc_pull.nd rfl (Or.inl rfl) (pe_op op_add (pe_op op_mul (pe_ix ix_list (pv 0) pe_int (fun _ _ => rfl)) pe_int) (pe_op op_mul (pe_op op_mod (pv 3) pe_int) pe_int)))
      (pss_one (ps_asg (pe_op op_mod (pe_op op_add (pv 2) pe_int) pe_int) (pg_sub (pv 0) pe_int set_list)))))))) pss_nil)
      (pss_cons (ps_if (pt_cmpR op_gt (pe_ix ix_list (pv 0) pe_int (fun _ _ => rfl)) pe_int (nomark _)) (pss_cons (ps_set (i := 4) sc_pull.nd rfl (Or.inl rfl) (pe_op op_mod (pe_ix ix_list (pv 0) pe_int (fun _ _ => rfl)) (pv 1)))
      (pss_cons (ps_asg (pe_op op_fdivW (pe_ix ix_list (pv 0) pe_int (fun _ _ => rfl)) (pv 1)) (pg_sub (pv 0) pe_int set_list))
      (pss_one (ps_ret (pv 4))))) pss_nil)
      (pss_cons (ps_set (i := 2) sc_pull.nd rfl (Or.inl rfl) (pe_op op_add (pe_op op_mul (pe_op op_mul (pe_ix ix_list (pv 0) pe_int (fun _ _ => rfl)) (pe_ix ix_list (pv 0) pe_int (fun _ _ => rfl))) pe_int) (pe_op op_mul (pe_ix ix_list (pv 0) pe_int (fun _ _ => rfl)) pe_int)))
      (pss_cons (ps_asg (pe_op op_mod (pe_op op_add (pv 2) (pe_op op_mul pe_int (pe_ix ix_list (pv 0) pe_int (fun _ _ => rfl)))) pe_int) (pg_sub (pv 0) pe_int set_list))
      (pss_one (ps_ret (pe_op op_mod (pe_op op_fdiv (pe_ix ix_list (pv 0) pe_int (fun _ _ => rfl)) pe_int) (pv 1))))))))), ?_⟩
    -- the count of the draws
    have B1 := B.put (j' := j) (c' := c + 1) B.i0 B.i1 B.m0 B.m1
    refine ⟨.ref b, rfl, b, _, 4, .int c, rfl, rfl, SqL.of B.hb, atI_nat (j := 4) rfl, c, 1, rfl, rfl, .ref b, rfl, b, _, 4, 4, rfl, rfl, B.hb, rfl, ?_⟩
    refine ⟨fun σ H' => ∃ y2 y3 y4, σ = [some (.ref b), some (.int n), y2, y3, y4] ∧ Bag H' b s1 ∧ Keep b H H', ?_, ?_⟩
    · -- the next cell of the script
      refine ⟨.ref b, rfl, b, _, 2, .int j, rfl, rfl, SqL.of B1.hb, atI_nat (j := 2) rfl, rfl, _, rfl, ite2 (fun e => ?_) (fun e => ?_)⟩
      · refine ⟨.ref b, rfl, b, _, 1, .int i, rfl, rfl, SqL.of B1.hb, atI_nat (j := 1) rfl, .ref b, rfl, b, _, 0, .ref s1, rfl, rfl, SqL.of B1.hb, atI_nat (j := 0) rfl, s1, _, rfl, .inl (SqL.of B1.hs), i, _, rfl, rfl, _, rfl, ite2 (fun e2 => ?_) (fun e2 => ?_)⟩
        · have e3 : i < (ns.length : Int) := by
            have := of_decide_eq_true e2
            rw [List.length_map] at this
            exact this
          obtain ⟨z, hz⟩ := at_ex B.i0 e3
          have B2 := B1.put (j' := j) (c' := c + 1) (show 0 ≤ i + 1 by have := B.i0; omega) (show i + 1 ≤ (ns.length : Int) by omega) B.m0 B.m1
          refine ⟨.ref b, rfl, b, _, 0, .ref s1, rfl, rfl, SqL.of B1.hb, atI_nat (j := 0) rfl, .ref b, rfl, b, _, 1, .int i, rfl, rfl, SqL.of B1.hb, atI_nat (j := 1) rfl, s1, _, i, _, rfl, rfl, SqL.of B1.hs, hz, ?_⟩
          refine ⟨.ref b, rfl, b, _, 1, .int i, rfl, rfl, SqL.of B1.hb, atI_nat (j := 1) rfl, i, 1, rfl, rfl, .ref b, rfl, b, _, 1, 1, rfl, rfl, B1.hb, rfl, ?_⟩
          refine ⟨_, rfl, 10, 18, rfl, rfl, ⟨by decide, by decide, by decide⟩, z, _, rfl, rfl, _, rfl, ite2 (fun e4 => ?_) (fun e4 => ?_)⟩
          · have B3 := B2.put (j' := z) (c' := c + 1) (show 0 ≤ i + 1 by have := B.i0; omega) (show i + 1 ≤ (ns.length : Int) by omega) B.m0 B.m1
            refine ⟨_, rfl, .ref b, rfl, b, _, 2, 2, rfl, rfl, B2.hb, rfl, ?_⟩
            exact ⟨_, _, _, rfl, ⟨ns, _, _, _, _, B3⟩, keep_put.trans (keep_put.trans keep_put)⟩
          · refine ⟨.ref b, rfl, b, _, 3, .int m, rfl, rfl, SqL.of B2.hb, atI_nat (j := 3) rfl, m, 40014, rfl, rfl, .inr ⟨by decide, by decide⟩, _, rfl, z, 2147483399, rfl, rfl, (by show (0 : Int) < 2147483399; decide), _, 69069, rfl, rfl, .inr ⟨by decide, by decide⟩, _, _, rfl, rfl, ?_⟩
            refine ⟨_, rfl, _, 11, rfl, rfl, _, 2147483399, rfl, rfl, (by show (0 : Int) < 2147483399; decide), .ref b, rfl, b, _, 3, 3, rfl, rfl, B2.hb, rfl, ?_⟩
            have B3 := B2.put (j' := j) (m' := (m * 40014 + z % 2147483399 * 69069 + 11) % 2147483399) (c' := c + 1) (show 0 ≤ i + 1 by have := B.i0; omega) (show i + 1 ≤ (ns.length : Int) by omega) (by omega) (by omega)
            exact ⟨_, _, _, rfl, ⟨ns, _, _, _, _, B3⟩, keep_put.trans (keep_put.trans keep_put)⟩
        · exact ⟨_, _, _, rfl, ⟨ns, _, _, _, _, B1⟩, keep_put⟩
      · exact ⟨_, _, _, rfl, ⟨ns, _, _, _, _, B1⟩, keep_put⟩
    · rintro σ H' ⟨y2, y3, y4, rfl, ⟨ns2, i2, j2, m2, c2, B2⟩, k2⟩
      refine ⟨.ref b, rfl, b, _, 2, .int j2, rfl, rfl, SqL.of B2.hb, atI_nat (j := 2) rfl, j2, 0, rfl, rfl, _, rfl, ite2 (fun e => ?_) (fun e => ?_)⟩
      · have B3 := B2.put (j' := j2 / n) (c' := c2) B2.i0 B2.i1 B2.m0 B2.m1
        refine ⟨.ref b, rfl, b, _, 2, .int j2, rfl, rfl, SqL.of B2.hb, atI_nat (j := 2) rfl, .int n, rfl, j2, n, rfl, rfl, h0, ?_⟩
        refine ⟨.ref b, rfl, b, _, 2, .int j2, rfl, rfl, SqL.of B2.hb, atI_nat (j := 2) rfl, .int n, rfl, j2, n, rfl, rfl, wide_div h0 h1 (by decide) (by decide), .ref b, rfl, b, _, 2, 2, rfl, rfl, B2.hb, rfl, ?_⟩
        exact ⟨_, rfl, q _ _ (Int.emod_nonneg _ (by omega)) (Int.emod_lt_of_pos _ h0) ⟨ns2, _, _, _, _, B3⟩ (k2.trans keep_put)⟩
      · have hm : -(2 ^ 64) < m2 ∧ m2 < 2 ^ 64 := ⟨by have := B2.m0; omega, by have := B2.m1; omega⟩
        refine ⟨.ref b, rfl, b, _, 3, .int m2, rfl, rfl, SqL.of B2.hb, atI_nat (j := 3) rfl, .ref b, rfl, b, _, 3, .int m2, rfl, rfl, SqL.of B2.hb, atI_nat (j := 3) rfl, m2, m2, rfl, rfl, .inl hm, _, 7, rfl, rfl, .inr ⟨by decide, by decide⟩,
          .ref b, rfl, b, _, 3, .int m2, rfl, rfl, SqL.of B2.hb, atI_nat (j := 3) rfl, m2, 40692, rfl, rfl, .inr ⟨by decide, by decide⟩, _, _, rfl, rfl, ?_⟩
        refine ⟨_, rfl, .ref b, rfl, b, _, 4, .int c2, rfl, rfl, SqL.of B2.hb, atI_nat (j := 4) rfl, 1013904223, c2, rfl, rfl, .inl ⟨by decide, by decide⟩, _, _, rfl, rfl, _, 2147483399, rfl, rfl, (by show (0 : Int) < 2147483399; decide), .ref b, rfl, b, _, 3, 3, rfl, rfl, B2.hb, rfl, ?_⟩
        have B3 := B2.put (j' := j2) (m' := (m2 * m2 * 7 + m2 * 40692 + 1013904223 * c2) % 2147483399) (c' := c2) B2.i0 B2.i1 (Int.emod_nonneg _ (by decide)) (Int.emod_lt_of_pos _ (by decide))
        refine ⟨.ref b, rfl, b, _, 3, _, rfl, rfl, SqL.of B3.hb, atI_nat (j := 3) rfl, _, 37, rfl, rfl, ⟨by decide, by decide⟩, .int n, rfl, _, n, rfl, rfl, h0, ?_⟩
        exact q _ _ (Int.emod_nonneg _ (by omega)) (Int.emod_lt_of_pos _ h0) ⟨ns2, _, _, _, _, B3⟩ (k2.trans keep_put)
def spOf : Sp := fun vs H Q _ => ∃ (b sb l : Addr) (xs : List V), vs = [.ref b, .ref l] ∧ Bag H b sb ∧ H l = some (.lst xs) ∧ l ≠ b ∧ 0 < xs.length ∧ xs.length ≤ 1000 ∧ ∀ (i : Nat) (v : V) (H' : Hp), xs[i]? = some v → Bag H' b sb → Keep b H H' → Q v H'
theorem ok_of (T : Txt K mg) : FnOk P w K mg base CX0 2 T.f_of T.d_of ["_law_bag", "_law_some"] spOf := by
  refine T.F_of.ok sc_of (fun vs H Q E h => ?_) (fun cdv A outer s H vs Q E hr h => ?_)
  · obtain ⟨b, sb, l, xs, rfl, _⟩ := h
    rfl
  · obtain ⟨b, sb, l, xs, rfl, B, hl, nl, h0, h1, q⟩ := h
    refine ⟨_, (pss_one (ps_ret (pe_ix ix_list (pv 1) (pe_call (ok_pull T) (hr.mono (by decide)) (by rfl) T.g_pull T.F_pull.kp T.b_pull .nil pass0 (pa_cons (pv 0) (pa_cons (pe_callB call_len_seq (by rfl) T.n_len (by decide +kernel) (pa_cons (pv 1) pa_nil)) pa_nil))) (fun _ _ => rfl)))), ?_⟩
    have hn : ((xs.length : Int)).natAbs < 2 ^ 100 := Nat.lt_of_le_of_lt (show (xs.length : Int).natAbs ≤ 1000 by omega) (by decide)
    refine ⟨.ref l, rfl, .ref b, rfl, .ref l, rfl, l, xs, rfl, .inl (SqL.of hl), b, sb, _, rfl, B, (by show (0 : Int) < (xs.length : Int); omega), hn, fun z H' z0 z1 B' k' => ?_⟩
    obtain ⟨v, e1, e2⟩ := at_some z0 z1
    exact ⟨l, xs, z, v, rfl, rfl, k'.list nl hl, e2, q _ _ _ e1 B' k'⟩
end
section
variable {base : Heap} {K : PySem.W.Frag} {mg : Str → Option Value} {P : Program} {w : World}
def okR (x : Int) : Bool := !inV (.int x) [.int 4, .int 9, .int 16, .int 25, .int 36, .int 49, .int 64, .int 81]
def rootsTo : Nat → List Int
  | 0 => []
  | n + 1 => if okR (2 + (n : Int)) = true then rootsTo n ++ [2 + (n : Int)] else rootsTo n
theorem rootsTo_len : ∀ n, (rootsTo n).length ≤ n
  | 0 => Nat.le_refl _
  | n + 1 => by
    have := rootsTo_len n
    unfold rootsTo
    split
    · rw [List.length_append]
      simp
      omega
    · omega
def IsRoot (d : Int) : Prop := 2 ≤ d ∧ d ≤ 99 ∧ ∃ k : Int, 0 ≤ k ∧ k * k < d ∧ d < (k + 1) * (k + 1)
def kOf (d : Int) : Int := if d < 4 then 1 else if d < 9 then 2 else if d < 16 then 3 else if d < 25 then 4 else if d < 36 then 5 else if d < 49 then 6 else if d < 64 then 7 else if d < 81 then 8 else 9
theorem roots_are {d : Int} (h : d ∈ rootsTo 98) : IsRoot d := by
  have z : ∀ d ∈ rootsTo 98, 2 ≤ d ∧ d ≤ 99 ∧ 0 ≤ kOf d ∧ kOf d * kOf d < d ∧ d < (kOf d + 1) * (kOf d + 1) := by decide +kernel
  obtain ⟨a, b, c⟩ := z d h
  exact ⟨a, b, kOf d, c⟩
theorem isRoot_by {d : Int} (h : 2 ≤ d ∧ d ≤ 99 ∧ 0 ≤ kOf d ∧ kOf d * kOf d < d ∧ d < (kOf d + 1) * (kOf d + 1)) : IsRoot d := ⟨h.1, h.2.1, kOf d, h.2.2⟩
def spRoots : Sp := fun vs H Q _ => vs = [] ∧ ∀ p H', H p = none → Same H H' → H' p = some (.lst ((rootsTo 98).map V.int)) → Q (.ref p) H'
theorem ok_roots (T : Txt K mg) : FnOk P w K mg base CX0 1 T.f_roots T.d_roots [] spRoots := by
  refine T.F_roots.ok sc_roots (fun vs H Q E h => ?_) (fun cdv A outer s H vs Q E hr h => ?_)
  · obtain ⟨rfl, _⟩ := h
    rfl
  · obtain ⟨rfl, q⟩ := h
    refine ⟨_, (pss_one (ps_ret (pe_lc (own := [("_law_d", 0)]) (g := (gName 0)) (tt := tTest (tOp (rIn K true) _ _)) (by rfl) sc_roots.nd (pi_range2 (by rfl) T.n_range (pa_cons pe_int (pa_cons pe_int pa_nil))) (blkOk_by (own := [("_law_d", 0)]) (N := ["_law_d"]) (sc := defScope s_roots) (by decide +kernel)) (fun _ _ _ _ _ => (pg_name (i := 0) sc_roots.nd rfl (Or.inl rfl))) (fun _ _ _ _ _ => (pts_one (pt_cmpR op_notIn_seq (pv 0) (pe_tup (pa_cons pe_int (pa_cons pe_int (pa_cons pe_int (pa_cons pe_int (pa_cons pe_int (pa_cons pe_int (pa_cons pe_int (pa_cons pe_int pa_nil))))))))) (by rfl)))) (fun _ _ _ _ _ => (pv 0))))), ?_⟩
    refine ⟨2, 100, rfl, ⟨by decide, by decide, by decide, by decide⟩, fun D hD => ?_⟩
    refine lc_range (lo := 2) (n := 98) (fun i H' => Same H H' ∧ H' D = some (.lst ((rootsTo i).map V.int))) ⟨same_new hD, upd_same⟩ ?_ ?_
    · rintro i H' hi ⟨sm, hd⟩
      refine ⟨rfl, _, rfl, (by show 8 ≤ sizeLine; decide), fun t ht => ?_⟩
      refine ⟨t, _, rfl, .inr (SqT.of upd_same), rfl, rfl, _, rfl, ?_⟩
      have hd2 : (upd H' t (.tup [.int 4, .int 9, .int 16, .int 25, .int 36, .int 49, .int 64, .int 81])) D = some (.lst ((rootsTo i).map V.int)) := (upd_ne (ne_of_none hd ht)).trans hd
      refine ite2 (fun e => ?_) (fun e => ?_)
      · refine ⟨_, rfl, _, hd2, ?_, ?_, ?_⟩
        · rw [List.length_map]
          have := rootsTo_len i
          exact small1000 (by omega)
        · exact fun a o z => (upd_ne (ne_of_none z hD)).trans ((sm.trans (same_new ht)) a o z)
        · rw [upd_same]
          have e' : okR (2 + (i : Int)) = true := e
          rw [show rootsTo (i + 1) = rootsTo i ++ [2 + (i : Int)] by
            show (if okR (2 + (i : Int)) = true then rootsTo i ++ [2 + (i : Int)] else rootsTo i) = _
            rw [if_pos e'], List.map_append]
          rfl
      · refine ⟨sm.trans (same_new ht), ?_⟩
        have e' : ¬ okR (2 + (i : Int)) = true := e
        rw [show rootsTo (i + 1) = rootsTo i by
          show (if okR (2 + (i : Int)) = true then rootsTo i ++ [2 + (i : Int)] else rootsTo i) = _
          rw [if_neg e']]
        exact hd2
    · rintro H' ⟨sm, hd⟩
      exact q D H' hD sm hd
end
section
variable {base : Heap} {K : PySem.W.Frag} {mg : Str → Option Value} {P : Program} {w : World}
def spARoot : Sp := fun vs H Q _ => ∃ b sb : Addr, vs = [.ref b] ∧ Bag H b sb ∧ ∀ d H', IsRoot d → Bag H' b sb → Keep b H H' → Q (.int d) H'
theorem root_in {i : Nat} {v : V} (h : ((rootsTo 98).map V.int)[i]? = some v) : ∃ d, v = .int d ∧ IsRoot d := by
  rw [List.getElem?_map] at h
  cases e : (rootsTo 98)[i]? with
  | none =>
    rw [e] at h
    cases h
  | some d =>
    rw [e] at h
    exact ⟨d, (Option.some.inj h).symm, roots_are (List.mem_of_getElem? e)⟩
theorem ok_a_root (T : Txt K mg) : FnOk P w K mg base CX0 3 T.f_a_root T.d_a_root ["_law_bag"] spARoot := by
  refine T.F_a_root.ok sc_a_root (fun vs H Q E h => ?_) (fun cdv A outer s H vs Q E hr h => ?_)
  · obtain ⟨b, sb, rfl, _⟩ := h
    rfl
  · obtain ⟨b, sb, rfl, B, q⟩ := h
    refine ⟨_, (pss_one (ps_ret (pe_call (ok_of T) (hr.mono (by decide)) (by rfl) T.g_of T.F_of.kp T.b_of .nil pass0 (pa_cons (pv 0) (pa_cons (pe_lst (pa_cons pe_int (pa_cons pe_int (pa_cons pe_int (pa_cons pe_int (pa_cons (pe_call (ok_of T) (hr.mono (by decide)) (by rfl) T.g_of T.F_of.kp T.b_of .nil pass0 (pa_cons (pv 0) (pa_cons (pe_call0 (ok_roots T) (hr.mono (by decide)) (by rfl) T.g_roots T.F_roots.kp T.b_roots .nil pass0) pa_nil))) (pa_cons (pe_call (ok_of T) (hr.mono (by decide)) (by rfl) T.g_of T.F_of.kp T.b_of .nil pass0 (pa_cons (pv 0) (pa_cons (pe_call0 (ok_roots T) (hr.mono (by decide)) (by rfl) T.g_roots T.F_roots.kp T.b_roots .nil pass0) pa_nil))) pa_nil))))))) pa_nil))))), ?_⟩
    have hz : ((rootsTo 98).map V.int).length = 90 := by decide +kernel
    refine ⟨.ref b, rfl, .ref b, rfl, rfl, fun p H1 hp s1 h1 => ?_⟩
    refine ⟨b, sb, p, _, rfl, B.same s1, h1, B.ne hp, by omega, by omega, fun i v H2 hv B2 k2 => ?_⟩
    obtain ⟨r1, rfl, i1⟩ := root_in hv
    refine ⟨.ref b, rfl, rfl, fun p' H3 hp' s3 h3 => ?_⟩
    refine ⟨b, sb, p', _, rfl, B2.same s3, h3, B2.ne hp', by omega, by omega, fun i' v' H4 hv' B4 k4 => ?_⟩
    obtain ⟨r2, rfl, i2⟩ := root_in hv'
    refine ⟨(by show 6 ≤ sizeLine; decide), fun l hl => ?_⟩
    refine ⟨b, sb, l, _, rfl, B4.new hl, upd_same, B4.ne hl, by simp, by simp, fun i v H5 hv B5 k5 => ?_⟩
    have kk : Keep b H H5 := (keep_of s1).trans (k2.trans ((keep_of s3).trans (k4.trans ((keep_new hl).trans k5))))
    match i, hv with
    | 0, hv => cases hv; exact q 2 H5 (isRoot_by (by decide)) B5 kk
    | 1, hv => cases hv; exact q 3 H5 (isRoot_by (by decide)) B5 kk
    | 2, hv => cases hv; exact q 5 H5 (isRoot_by (by decide)) B5 kk
    | 3, hv => cases hv; exact q 99 H5 (isRoot_by (by decide)) B5 kk
    | 4, hv => cases hv; exact q r1 H5 i1 B5 kk
    | 5, hv => cases hv; exact q r2 H5 i2 B5 kk
    | n + 6, hv => simp at hv
end
section
variable {base : Heap} {K : PySem.W.Frag} {mg : Str → Option Value} {P : Program} {w : World}
def spAnyPair : Sp := fun vs H Q _ => ∃ b sb : Addr, vs = [.ref b] ∧ Bag H b sb ∧ ∀ x y p H', -(10 ^ 6) ≤ x → x ≤ 10 ^ 6 → -(10 ^ 6) ≤ y → y ≤ 10 ^ 6 → H p = none → H' p = some (.tup [.int x, .int y]) → Bag H' b sb → Keep b H H' → Q (.ref p) H'
theorem ok_any_pair (T : Txt K mg) : FnOk P w K mg base CX0 3 T.f_any_pair T.d_any_pair ["_law_bag"] spAnyPair := by
  refine T.F_any_pair.ok sc_any_pair (fun vs H Q E h => ?_) (fun cdv A outer s H vs Q E hr h => ?_)
  · obtain ⟨b, sb, rfl, _⟩ := h
    rfl
  · obtain ⟨b, sb, rfl, B, q⟩ := h
    refine ⟨_, (pss_cons (ps_set (i := 1) sc_any_pair.nd rfl (Or.inl rfl) (pe_call (ok_of T) (hr.mono (by decide)) (by rfl) T.g_of T.F_of.kp T.b_of .nil pass0 (pa_cons (pv 0) (pa_cons (pe_lst (pa_cons pe_int (pa_cons pe_int (pa_cons pe_int (pa_cons pe_int (pa_cons (pe_op op_pow pe_int pe_int) pa_nil)))))) pa_nil))))
      (pss_one (ps_ret (pe_tup (pa_cons (pe_op op_sub (pe_call (ok_pull T) (hr.mono (by decide)) (by rfl) T.g_pull T.F_pull.kp T.b_pull .nil pass0 (pa_cons (pv 0) (pa_cons (pe_op op_add (pe_op op_mul pe_int (pv 1)) pe_int) pa_nil))) (pv 1)) (pa_cons (pe_op op_sub (pe_call (ok_pull T) (hr.mono (by decide)) (by rfl) T.g_pull T.F_pull.kp T.b_pull .nil pass0 (pa_cons (pv 0) (pa_cons (pe_op op_add (pe_op op_mul pe_int (pv 1)) pe_int) pa_nil))) (pv 1)) pa_nil)))))), ?_⟩
    refine ⟨.ref b, rfl, 10, 6, rfl, rfl, ⟨by decide, by decide, by decide⟩, (by show 5 ≤ sizeLine; decide), fun l hl => ?_⟩
    refine ⟨b, sb, l, _, rfl, B.new hl, upd_same, B.ne hl, by decide, by decide, fun i v H1 hv B1 k1 => ?_⟩
    obtain ⟨n, rfl, n0, n1⟩ : ∃ n : Int, v = .int n ∧ 1 ≤ n ∧ n ≤ 10 ^ 6 := by
      match i, hv with
      | 0, hv => cases hv; exact ⟨2, rfl, by decide, by decide⟩
      | 1, hv => cases hv; exact ⟨5, rfl, by decide, by decide⟩
      | 2, hv => cases hv; exact ⟨9, rfl, by decide, by decide⟩
      | 3, hv => cases hv; exact ⟨30, rfl, by decide, by decide⟩
      | 4, hv => cases hv; exact ⟨10 ^ 6, rfl, by decide, by decide⟩
      | n + 5, hv => simp at hv
    have hn : (2 * n + 1).natAbs < 2 ^ 100 := Nat.lt_of_le_of_lt (show (2 * n + 1).natAbs ≤ 2000001 by omega) (by decide)
    refine ⟨.ref b, rfl, _, rfl, 2, n, rfl, rfl, .inl ⟨by decide, by decide⟩, _, 1, rfl, rfl, b, sb, _, rfl, B1, (show (0 : Int) < 2 * n + 1 by omega), hn, fun z H2 z0 z1 B2 k2 => ?_⟩
    refine ⟨_, rfl, z, n, rfl, rfl, .ref b, rfl, _, rfl, 2, n, rfl, rfl, .inl ⟨by decide, by decide⟩, _, 1, rfl, rfl, b, sb, _, rfl, B2, (show (0 : Int) < 2 * n + 1 by omega), hn, fun z' H3 z0' z1' B3 k3 => ?_⟩
    refine ⟨_, rfl, z', n, rfl, rfl, (by show 2 ≤ sizeLine; decide), fun p hp => ?_⟩
    have kk : Keep b H H3 := (keep_new hl).trans (k1.trans (k2.trans k3))
    have hpn : H p = none := by
      cases e : H p with
      | none => rfl
      | some o => exact absurd (kk p o (B3.ne hp) e) (by rw [hp]; simp)
    exact q _ _ p _ (by omega) (by omega) (by omega) (by omega) hpn upd_same (B3.new hp) (kk.trans (keep_new hp))
end
section
variable {base : Heap} {K : PySem.W.Frag} {mg : Str → Option Value} {P : Program} {w : World}
def spSource (K : PySem.W.Frag) : Sp := fun vs H Q _ => ∃ (a : Addr) (ns : List Int), vs = [.ref a] ∧ SqL K H a (ns.map V.int) ∧ ns.length ≤ 63 ∧ ∀ b sb H', H b = none → Same H H' → Bag H' b sb → Q (.ref b) H'
theorem ok_source (T : Txt K mg) : FnOk P w K mg base CX0 1 T.f_source T.d_source ["_law_script"] (spSource K) := by
  refine T.F_source.ok sc_source (fun vs H Q E h => ?_) (fun cdv A outer s H vs Q E hr h => ?_)
  · obtain ⟨a, ns, rfl, _⟩ := h
    rfl
  · obtain ⟨a, ns, rfl, hS, hlen, q⟩ := h
    refine ⟨_, (pss_cons (ps_set (i := 1) sc_source.nd rfl (Or.inl rfl) pe_int)
      (pss_cons (ps_for PassesOwn.never rfl (pi_list (pe_slice sl_list (pv 0) po_none (po_some pe_int))) (pg_name (i := 2) sc_source.nd rfl (Or.inl rfl)) (pss_one (ps_set (i := 1) sc_source.nd rfl (Or.inl rfl) (pe_op op_mod (pe_op op_add (pe_op op_add (pe_op op_mul (pv 1) pe_int) (pe_op op_mod (pv 2) pe_int)) pe_int) pe_int))))
      (pss_one (ps_ret (pe_lst (pa_cons (pe_callTy call_list_of (by rfl) T.n_list (by decide +kernel) (pa_cons (pe_slice sl_list (pv 0) po_none (po_some pe_int)) pa_nil)) (pa_cons pe_int (pa_cons pe_int (pa_cons (pv 1) (pa_cons pe_int pa_nil)))))))))), ?_⟩
    have hcut : cutV (ns.map V.int) none (some 63) = ns.map V.int := by
      unfold cutV
      rw [HT.sIx_none, show HT.sIx (ns.map V.int).length (ns.map V.int).length (some 63) = min 63 (ns.map V.int).length from HT.sIx_nat _ _ 63]
      rw [List.drop_zero, List.length_map, Nat.sub_zero, Nat.min_eq_right hlen]
      exact List.take_of_length_le (by rw [List.length_map]; exact Nat.le_refl _)
    refine ⟨.ref a, rfl, 63, rfl, a, _, rfl, hS, fun p hp => ?_⟩
    rw [hcut]
    refine ⟨p, rfl, ⟨_, SqL.of upd_same⟩, for_list (K := K) (a := p) (xs := ns.map V.int) (fun i σ H2 => ∃ (m : Int) (y : Option V), σ = [some (.ref a), some (.int m), y] ∧ 0 ≤ m ∧ m < 2147483399 ∧ H2 = upd H p (.lst (ns.map V.int)))
      ⟨3812, none, rfl, by decide, by decide, rfl⟩ (fun i σ H2 _ ⟨_, _, _, _, _, e⟩ => by rw [e]; exact SqL.of upd_same) ?_ ?_⟩
    · rintro i x σ H2 hx ⟨m, y, rfl, m0, m1, rfl⟩
      obtain ⟨z, rfl⟩ : ∃ z, x = V.int z := by
        rw [List.getElem?_map] at hx
        cases e : ns[i]? with
        | none =>
          rw [e] at hx
          cases hx
        | some z =>
          rw [e] at hx
          exact ⟨z, (Option.some.inj hx).symm⟩
      refine ⟨_, rfl, m, 40692, rfl, rfl, .inr ⟨by decide, by decide⟩, _, rfl, z, 2147483399, rfl, rfl, (by show (0 : Int) < 2147483399; decide), _, _, rfl, rfl, _, 17, rfl, rfl, _, 2147483399, rfl, rfl, (by show (0 : Int) < 2147483399; decide), ?_⟩
      exact ⟨_, _, rfl, Int.emod_nonneg _ (by decide), Int.emod_lt_of_pos _ (by decide), rfl⟩
    · rintro σ H2 ⟨m, y, rfl, m0, m1, rfl⟩
      have hS2 : SqL K (upd H p (.lst (ns.map V.int))) a (ns.map V.int) := (same_new hp).seq hS
      refine ⟨.ref a, rfl, 63, rfl, a, _, rfl, hS2, fun p2 hp2 => ?_⟩
      rw [hcut]
      refine ⟨p2, _, rfl, .inl (SqL.of upd_same), fun l hl => ?_⟩
      refine ⟨_, rfl, (by show 5 ≤ sizeLine; decide), fun b hb => ?_⟩
      have sm : Same H (upd (upd (upd (upd H p (.lst (ns.map V.int))) p2 (.lst (ns.map V.int))) l (.lst (ns.map V.int))) b (.lst [.ref l, .int 0, .int 0, .int m, .int 0])) := (same_new hp).trans ((same_new hp2).trans ((same_new hl).trans (same_new hb)))
      exact q b l _ (((same_new hp).trans ((same_new hp2).trans (same_new hl))).free hb) sm ⟨ns, 0, 0, m, 0, upd_same, same_new hb _ _ upd_same, Int.le_refl _, by omega, m0, m1⟩
end
/-! ### the field of a caught error -/
/-- the error of the class cls with its dict at d: its word, its other field -/
structure ErrIs (K : PySem.W.Frag) (H : Hp) (cls : Value) (d : Option Addr) (w : Str) (fs : List (Str × V)) : Prop where
  ex : ∃ C dd : Addr, cls = .ref C ∧ d = some dd ∧ XfC K C ∧ H dd = some (.xd fs) ∧ ∀ f v, fs.lookup f = some v → PySem.W.findIn K (.ref C) f = some none
  wd : fs.lookup ("word" : Str) = some (.str w)
theorem ErrIs.same {K : PySem.W.Frag} {H H' : Hp} {cls : Value} {d : Option Addr} {w : Str} {fs : List (Str × V)} (h : ErrIs K H cls d w fs) (s : Same H H') : ErrIs K H' cls d w fs := by
  obtain ⟨⟨C, dd, e1, e2, x, hd, no⟩, wd⟩ := h
  exact ⟨⟨C, dd, e1, e2, x, s _ _ hd, no⟩, wd⟩
/-- a field is read -/
theorem ErrIs.read {K : PySem.W.Frag} {H : Hp} {a : Addr} {cls : Value} {d : Option Addr} {w : Str} {fs : List (Str × V)} (h : ErrIs K H cls d w fs) {f : Str} {v : V} {R : V → Prop} (hl : fs.lookup f = some v) (q : R v) :
    (V.ref a) = .ref a ∧ ∃ (C dd : Addr) (fs : List (Str × V)) (v : V), cls = .ref C ∧ d = some dd ∧ XfC K C ∧ PySem.W.findIn K (.ref C) f = some none ∧ H dd = some (.xd fs) ∧ fs.lookup f = some v ∧ R v := by
  obtain ⟨⟨C, dd, e1, e2, x, hd, no⟩, wd⟩ := h
  exact ⟨rfl, C, dd, fs, v, e1, e2, x, no _ _ hl, hd, hl, q⟩
def fieldOf (w : Str) : Option Str :=
  if inV (.str w) [.str "BadRoot", .str "BadCount", .str "NotLinked"] = true then some "number"
  else if inV (.str w) [.str "BadLength", .str "BadRow", .str "BadStep", .str "BadText", .str "BadDeed"] = true then some "at"
  else if inV (.str w) [.str "BadName", .str "Taken"] = true then some "name"
  else if inV (.str w) [.str "TooGreat", .str "Full"] = true then some "most"
  else if decide (V.str w = .str "NoSquares") = true then some "reason" else none
theorem fo0 {w : Str}  (e : inV (.str w) [.str "BadRoot", .str "BadCount", .str "NotLinked"] = true) : fieldOf w = some ("number" : Str) := by unfold fieldOf; rw [if_pos e]
theorem fo1 {w : Str} (b0 : ¬ (inV (.str w) [.str "BadRoot", .str "BadCount", .str "NotLinked"] = true)) (e : inV (.str w) [.str "BadLength", .str "BadRow", .str "BadStep", .str "BadText", .str "BadDeed"] = true) : fieldOf w = some ("at" : Str) := by unfold fieldOf; rw [if_neg b0, if_pos e]
theorem fo2 {w : Str} (b0 : ¬ (inV (.str w) [.str "BadRoot", .str "BadCount", .str "NotLinked"] = true)) (b1 : ¬ (inV (.str w) [.str "BadLength", .str "BadRow", .str "BadStep", .str "BadText", .str "BadDeed"] = true)) (e : inV (.str w) [.str "BadName", .str "Taken"] = true) : fieldOf w = some ("name" : Str) := by unfold fieldOf; rw [if_neg b0, if_neg b1, if_pos e]
theorem fo3 {w : Str} (b0 : ¬ (inV (.str w) [.str "BadRoot", .str "BadCount", .str "NotLinked"] = true)) (b1 : ¬ (inV (.str w) [.str "BadLength", .str "BadRow", .str "BadStep", .str "BadText", .str "BadDeed"] = true)) (b2 : ¬ (inV (.str w) [.str "BadName", .str "Taken"] = true)) (e : inV (.str w) [.str "TooGreat", .str "Full"] = true) : fieldOf w = some ("most" : Str) := by unfold fieldOf; rw [if_neg b0, if_neg b1, if_neg b2, if_pos e]
theorem fo4 {w : Str} (b0 : ¬ (inV (.str w) [.str "BadRoot", .str "BadCount", .str "NotLinked"] = true)) (b1 : ¬ (inV (.str w) [.str "BadLength", .str "BadRow", .str "BadStep", .str "BadText", .str "BadDeed"] = true)) (b2 : ¬ (inV (.str w) [.str "BadName", .str "Taken"] = true)) (b3 : ¬ (inV (.str w) [.str "TooGreat", .str "Full"] = true)) (e : decide (V.str w = .str "NoSquares") = true) : fieldOf w = some ("reason" : Str) := by unfold fieldOf; rw [if_neg b0, if_neg b1, if_neg b2, if_neg b3, if_pos e]
theorem fo5 {w : Str} (b0 : ¬ (inV (.str w) [.str "BadRoot", .str "BadCount", .str "NotLinked"] = true)) (b1 : ¬ (inV (.str w) [.str "BadLength", .str "BadRow", .str "BadStep", .str "BadText", .str "BadDeed"] = true)) (b2 : ¬ (inV (.str w) [.str "BadName", .str "Taken"] = true)) (b3 : ¬ (inV (.str w) [.str "TooGreat", .str "Full"] = true)) (b4 : ¬ (decide (V.str w = .str "NoSquares") = true)) : fieldOf w = none := by unfold fieldOf; rw [if_neg b0, if_neg b1, if_neg b2, if_neg b3, if_neg b4]
def fieldVal (w : Str) (fs : List (Str × V)) : Option V := match fieldOf w with
  | some f => fs.lookup f
  | none => some .non
section
variable {base : Heap} {K : PySem.W.Frag} {mg : Str → Option Value} {P : Program} {w : World}
def spFld (K : PySem.W.Frag) : Addr → Value → Option Addr → Sp := fun a cls d vs H Q _ => ∃ (wd : Str) (fs : List (Str × V)) (v : V), vs = [.ref a] ∧ ErrIs K H cls d wd fs ∧ fieldVal wd fs = some v ∧ ∀ H', Same H H' → Q v H'
theorem ok_field_of (T : Txt K mg) : FnP P w K mg base 1 T.f_field_of T.d_field_of ["_law_e"] (spFld K) := by
  refine fn_ofP T.F_field_of sc_field_of (fun a cls d vs H Q E h => ?_) (fun cdv A outer s H vs Q E p cls d zc dat hr h => ?_)
  · obtain ⟨wd, fs, v, rfl, _⟩ := h
    rfl
  · obtain ⟨wd, fs, v, rfl, E0, hv, q⟩ := h
    refine ⟨_, (pss_cons (ps_if (pt_cmpR op_in_seq (pe_xfG (a := p.1) (oe := p.2) (cls := cls) (d := d) List.mem_cons_self zc dat (pv 0)) (pe_tup (pa_cons pe_str (pa_cons pe_str (pa_cons pe_str pa_nil)))) (by rfl)) (pss_one (ps_ret (pe_xfG (a := p.1) (oe := p.2) (cls := cls) (d := d) List.mem_cons_self zc dat (pv 0)))) pss_nil)
      (pss_cons (ps_if (pt_cmpR op_in_seq (pe_xfG (a := p.1) (oe := p.2) (cls := cls) (d := d) List.mem_cons_self zc dat (pv 0)) (pe_tup (pa_cons pe_str (pa_cons pe_str (pa_cons pe_str (pa_cons pe_str (pa_cons pe_str pa_nil)))))) (by rfl)) (pss_one (ps_ret (pe_xfG (a := p.1) (oe := p.2) (cls := cls) (d := d) List.mem_cons_self zc dat (pv 0)))) pss_nil)
      (pss_cons (ps_if (pt_cmpR op_in_seq (pe_xfG (a := p.1) (oe := p.2) (cls := cls) (d := d) List.mem_cons_self zc dat (pv 0)) (pe_tup (pa_cons pe_str (pa_cons pe_str pa_nil))) (by rfl)) (pss_one (ps_ret (pe_xfG (a := p.1) (oe := p.2) (cls := cls) (d := d) List.mem_cons_self zc dat (pv 0)))) pss_nil)
      (pss_cons (ps_if (pt_cmpR op_in_seq (pe_xfG (a := p.1) (oe := p.2) (cls := cls) (d := d) List.mem_cons_self zc dat (pv 0)) (pe_tup (pa_cons pe_str (pa_cons pe_str pa_nil))) (by rfl)) (pss_one (ps_ret (pe_xfG (a := p.1) (oe := p.2) (cls := cls) (d := d) List.mem_cons_self zc dat (pv 0)))) pss_nil)
      (pss_one (ps_ret (pe_ifExp (pt_cmpR op_eq (pe_xfG (a := p.1) (oe := p.2) (cls := cls) (d := d) List.mem_cons_self zc dat (pv 0)) pe_str (nomark _)) (pe_xfG (a := p.1) (oe := p.2) (cls := cls) (d := d) List.mem_cons_self zc dat (pv 0)) pe_non))))))), ?_⟩
    have fv : ∀ {f : Str}, fieldOf wd = some f → fs.lookup f = some v := fun {f} e => by
      unfold fieldVal at hv
      rw [e] at hv
      exact hv
    refine ⟨_, rfl, E0.read E0.wd ?_⟩
    refine ⟨by show 3 ≤ sizeLine; decide, fun t0 n0 => ?_⟩
    have S1 := same_new (o := .tup [.str "BadRoot", .str "BadCount", .str "NotLinked"]) n0
    have E1 := E0.same S1
    refine ⟨t0, _, rfl, .inr (SqT.of upd_same), rfl, rfl, _, rfl, ite2 (fun e => ?_) (fun b0 => ?_)⟩
    · exact ⟨_, rfl, E1.read (fv (fo0  e)) (q _ S1)⟩
    refine ⟨_, rfl, E1.read E1.wd ?_⟩
    refine ⟨by show 5 ≤ sizeLine; decide, fun t1 n1 => ?_⟩
    have S2 := S1.trans (same_new (o := .tup [.str "BadLength", .str "BadRow", .str "BadStep", .str "BadText", .str "BadDeed"]) n1)
    have E2 := E0.same S2
    refine ⟨t1, _, rfl, .inr (SqT.of upd_same), rfl, rfl, _, rfl, ite2 (fun e => ?_) (fun b1 => ?_)⟩
    · exact ⟨_, rfl, E2.read (fv (fo1 b0 e)) (q _ S2)⟩
    refine ⟨_, rfl, E2.read E2.wd ?_⟩
    refine ⟨by show 2 ≤ sizeLine; decide, fun t2 n2 => ?_⟩
    have S3 := S2.trans (same_new (o := .tup [.str "BadName", .str "Taken"]) n2)
    have E3 := E0.same S3
    refine ⟨t2, _, rfl, .inr (SqT.of upd_same), rfl, rfl, _, rfl, ite2 (fun e => ?_) (fun b2 => ?_)⟩
    · exact ⟨_, rfl, E3.read (fv (fo2 b0 b1 e)) (q _ S3)⟩
    refine ⟨_, rfl, E3.read E3.wd ?_⟩
    refine ⟨by show 2 ≤ sizeLine; decide, fun t3 n3 => ?_⟩
    have S4 := S3.trans (same_new (o := .tup [.str "TooGreat", .str "Full"]) n3)
    have E4 := E0.same S4
    refine ⟨t3, _, rfl, .inr (SqT.of upd_same), rfl, rfl, _, rfl, ite2 (fun e => ?_) (fun b3 => ?_)⟩
    · exact ⟨_, rfl, E4.read (fv (fo3 b0 b1 b2 e)) (q _ S4)⟩
    refine ⟨_, rfl, E4.read E4.wd ?_⟩
    refine ⟨rfl, _, rfl, ite2 (fun e => ?_) (fun b4 => ?_)⟩
    · exact ⟨_, rfl, E4.read (fv (fo4 b0 b1 b2 b3 e)) (q _ S4)⟩
    · have e : fieldOf wd = none := fo5 b0 b1 b2 b3 b4
      have ev : v = .non := by
        unfold fieldVal at hv
        rw [e] at hv
        exact (Option.some.inj hv).symm
      rw [ev] at q
      exact q _ S4
end
/-! ### the def that asks, and tells what was raised -/
section
variable {K : PySem.W.Frag} {mg : Str → Option Value}
/-- what is told of an answer, of an error of the first, of the second, of the third kind -/
def Told (Q : VK) (w : Str) (v : V) (H : Hp) : Prop := ∀ H' p, Same H H' → H' p = some (.tup [.str w, v]) → Q (.ref p) H'
def Raised (K : PySem.W.Frag) (G : Addr) (Q : VK) : XK := fun cls d H => PySem.W.exmOne K cls (.ref G) = some true ∧ ∃ (w : Str) (fs : List (Str × V)) (v : V), ErrIs K H cls d w fs ∧ fieldVal w fs = some v ∧ Told Q w v H
def TTry (K : PySem.W.Frag) (G : Addr) : (XK → Hp → VK → Prop) → Hp → VK → Prop := fun tl H Q => tl (Raised K G Q) H fun v H1 => [V.str "told", v].length ≤ sizeLine ∧ ∀ p, H1 p = none → Q (.ref p) (upd H1 p (.tup [.str "told", v]))
end
section
variable {base : Heap} {K : PySem.W.Frag} {mg : Str → Option Value} {w : World}
theorem try_gives {X : Cx} (T : Txt K mg) (hP : X.K = K) (hm : X.mg = mg) {k : Nat} (hr : Room (k + 3) X.A) {cdg : Value} {q : Str} :
    LamX.GivesTo X ["_law_ask", "_law_e"] "_law_try" (defScope s_try) T.f_try cdg (defBody s_try) "_law_ask" q (TTry K T.r_GrainError) := by
  subst hP
  subst hm
  intro f c' s H Q tl act hc h
  have hr2 : Room (k + 2) (X.A.deeper (envOfC "_law_try" (defScope s_try) s.heap.objs.size T.f_try cdg)) := hr.deeper _
  refine ⟨_, pss_one (ps_tryAs (X := (cxOf CX0 X.prog X.w X.K X.mg X.base ["_law_ask", "_law_e"] "_law_try" (defScope s_try) T.f_try cdg X.A X.stack s H E0).nox) (i := 1)
      (tb := fun W D σ H => ∃ Ech : XK, (∀ cls d σ' H', Ech cls d H' → W cls d σ' H') ∧ σ[0]? = some (some (.ref f)) ∧ H c' = some (LamX.CodeO c' q) ∧ tl Ech H fun v H1 => [V.str "told", v].length ≤ sizeLine ∧ ∀ p, H1 p = none → D.rt (.ref p) (upd H1 p (.tup [.str "told", v])))
      rfl rfl sc_try.nd rfl rfl (fun W pn xe tk _ => ?_)
      (.cons (c := .ref T.r_GrainError) (ts := fun a cls d => tRet (tTup (tCons (tXfA X.K a cls d "word" (tVar 1)) (tCons (fun σ H Q => tCons (tVar 1) tNil σ H fun vs H1 => spFld X.K a cls d vs H1 Q E0) tNil)))) ⟨by rfl, by decide, .inl T.g_GrainError⟩ (fun a oe cls d pn zc dat => pss_one (ps_ret (pe_tup (pa_cons (pe_xfG (a := a) (oe := oe) (cls := cls) (d := d) List.mem_cons_self zc dat (pv 1)) (pa_cons (pe_callP (a := a) (oe := oe) (cls := cls) (d := d) List.mem_cons_self zc dat (ok_field_of T) ?_ (by rfl) T.g_field_of T.F_field_of.kp T.b_field_of (pa_cons (pv 1) pa_nil)) pa_nil)))))
      (.cons (c := .ref T.r_GrainMissing) (ts := fun a cls d => tRet (tTup (tCons (tXfA X.K a cls d "word" (tVar 1)) (tCons (tIf (tTest (tOp rEq (tXfA X.K a cls d "word" (tVar 1)) (tC (.str "NoSheet")))) (tXfA X.K a cls d "sheet" (tVar 1)) (tXfA X.K a cls d "name" (tVar 1))) tNil)))) ⟨by rfl, by decide, .inl T.g_GrainMissing⟩ (fun a oe cls d pn zc dat => pss_one (ps_ret (pe_tup (pa_cons (pe_xfG (a := a) (oe := oe) (cls := cls) (d := d) List.mem_cons_self zc dat (pv 1)) (pa_cons (pe_ifExp (pt_cmpR op_eq (pe_xfG (a := a) (oe := oe) (cls := cls) (d := d) List.mem_cons_self zc dat (pv 1)) pe_str (nomark _)) (pe_xfG (a := a) (oe := oe) (cls := cls) (d := d) List.mem_cons_self zc dat (pv 1)) (pe_xfG (a := a) (oe := oe) (cls := cls) (d := d) List.mem_cons_self zc dat (pv 1))) pa_nil)))))
      (.cons (c := .ref T.e_NothingLeft.C) (ts := fun a cls d => tRet (tTup (tCons (tXfA X.K a cls d "word" (tVar 1)) (tCons (tC .non) tNil)))) ⟨by rfl, by decide, .inl T.e_NothingLeft.g⟩ (fun a oe cls d pn zc dat => pss_one (ps_ret (pe_tup (pa_cons (pe_xfG (a := a) (oe := oe) (cls := cls) (d := d) List.mem_cons_self zc dat (pv 1)) (pa_cons pe_non pa_nil))))) .nil)))), ?_⟩
  · constructor
    intro pins s' σ H' D I h'
    obtain ⟨Ech, hW, h1, h2, h3⟩ := h'
    have asked := fun p1 p2 => act W pn xe Ech p1 p2 tk hW
    exact (pss_one (ps_ret (pe_tup (pa_cons pe_str (pa_cons (asked _ _) pa_nil))))).run pins s' σ H' D I ⟨h1, h2, h3⟩
  · exact ⟨by have := hr.dp; show X.A.depth + 1 + 3 * 1 + 5 < _; omega, by have := hr.un; show X.A.units + 3 + 16 * 1 + 200 < _; omega⟩
  · refine ⟨Raised X.K T.r_GrainError Q, fun cls d σ' H' hR => ?_, rfl, hc, h⟩
    obtain ⟨em, wd, fs, v, er, fv, q1⟩ := hR
    refine ⟨true, em, fun _ a na hl => ?_, fun z => nomatch z⟩
    have at1 : (σ'.set 1 (some (V.ref a)))[1]? = some (some (V.ref a)) := by
      rw [List.getElem?_set_self hl]
    refine ⟨_, at1, er.read er.wd ?_⟩
    refine ⟨_, at1, wd, fs, v, rfl, er, fv, fun H2 s2 => ⟨by show 2 ≤ sizeLine; decide, fun p hp => q1 _ p (s2.trans (same_new hp)) upd_same⟩⟩
end
/-! ### calls of a def with a star parameter -/
section
variable {X : Cx}
theorem pe_callR {CX : CXT} {k : Nat} {f : Addr} {sp : Sp} {E : XK} {x : Str} {p pos : Pos} {e : Expr} {es : List Expr} {t : TA}
    (F : FnR X.prog X.w X.K X.mg X.base CX k f sp) (hr : Room k X.A) (hg : Gl X x) (hm : X.mg x = some (.ref f)) (hk : PySem.W.keepIn X.K (.ref f) = true) (hx : Passes CX X E) (ha : PA X (e :: es) t)
    (hdb : (x == ("__debug__" : Str)) = false := by decide) (he : starEach (e :: es) X.env = (false, eval e X.env) :: starEach es X.env := by rfl)
    (hpl : (backTo pos (starEach es X.env)).any (·.1) = false := by rfl) :
    PE X (.Call (.Name x p) (e :: es) [] pos) (fun σ H Q => t σ H fun vs H1 => sp vs H1 Q E) :=
  ⟨fun pins s σ H Q I h => wpAny_Call_Name_kw (ld_glob I hg hm (PySem.W.callWith_K (h₀ := X.base) I.ok.mod.kin hk
    (thn (ha.run pos pins s σ H _ I h) fun us s1 ⟨vs, H1, I1, r, q⟩ => ⟨I1.kIn, wpAny_call (run_fnR F hr hx I1 r q)⟩) he hpl) hdb)⟩
theorem pe_callR0 {CX : CXT} {k : Nat} {f : Addr} {sp : Sp} {E : XK} {x : Str} {p pos : Pos}
    (F : FnR X.prog X.w X.K X.mg X.base CX k f sp) (hr : Room k X.A) (hg : Gl X x) (hm : X.mg x = some (.ref f)) (hk : PySem.W.keepIn X.K (.ref f) = true) (hx : Passes CX X E)
    (hdb : (x == ("__debug__" : Str)) = false := by decide) : PE X (.Call (.Name x p) [] [] pos) (fun _ H Q => sp [] H Q E) :=
  ⟨fun pins s σ H Q I h => wpAny_Call_Name_kw (ld_glob I hg hm (PySem.W.callWith_K0 I.kIn hk (wpAny_call (run_fnR (us := []) F hr hx I .nil h))) hdb)⟩
end
/-! ### lists of ints that comprehensions make -/
def Pt (H : Hp) (D : Addr) (ns : List Int) (i : Nat) (H' : Hp) : Prop := Same H H' ∧ H' D = some (.lst ((ns.take i).map V.int))
theorem pt_step {H H' : Hp} {D : Addr} {ns : List Int} {i : Nat} {z : Int} (h : Pt H D ns i H') (hD : H D = none) (hz : ns[i]? = some z) : Pt H D ns (i + 1) (upd H' D (.lst ((ns.take i).map V.int ++ [.int z]))) := by
  refine ⟨fun a o e => (upd_ne (ne_of_none e hD)).trans (h.1 a o e), ?_⟩
  rw [upd_same, List.take_add_one, hz, List.map_append]
  rfl
theorem pt_size {ns : List Int} {i : Nat} (h : ns.length ≤ 1000) : ((ns.take i).map V.int).length < sizeLine := by
  rw [List.length_map, List.length_take]
  exact small1000 (by omega)
theorem pt_end {H H' : Hp} {D : Addr} {ns : List Int} {i : Nat} (h : Pt H D ns i H') (hi : ns.length ≤ i) : Same H H' ∧ H' D = some (.lst (ns.map V.int)) := by
  have := h.2
  rw [List.take_of_length_le hi] at this
  exact ⟨h.1, this⟩
/-! ### pairs -/
def PairAt (K : PySem.W.Frag) (H : Hp) (v : V) (x y : Int) : Prop := ∃ t : Addr, v = .ref t ∧ SqT K H t [.int x, .int y]
theorem PairAt.same {K : PySem.W.Frag} {H H' : Hp} {v : V} {x y : Int} (h : PairAt K H v x y) (s : Same H H') : PairAt K H' v x y := by
  obtain ⟨t, e, h⟩ := h
  exact ⟨t, e, Evl.ex_t (show Evl.Ex H H' from s) h⟩
inductive PairsAt (K : PySem.W.Frag) (H : Hp) : List V → List (Int × Int) → Prop
  | nil : PairsAt K H [] []
  | cons {v : V} {vs : List V} {x y : Int} {ps : List (Int × Int)} : PairAt K H v x y → PairsAt K H vs ps → PairsAt K H (v :: vs) ((x, y) :: ps)
theorem PairsAt.get {K : PySem.W.Frag} {H : Hp} : ∀ {vs : List V} {ps : List (Int × Int)}, PairsAt K H vs ps → ∀ {i : Nat} {v : V}, vs[i]? = some v → ∃ x y, ps[i]? = some (x, y) ∧ PairAt K H v x y := by
  intro vs ps h
  induction h with
  | nil =>
    intro i v h
    simp at h
  | cons p t ih =>
    intro i v h
    cases i with
    | zero =>
      cases h
      exact ⟨_, _, rfl, p⟩
    | succ i => exact ih (i := i) (by simpa using h)
theorem PairsAt.same {K : PySem.W.Frag} {H H' : Hp} (s : Same H H') : ∀ {vs : List V} {ps : List (Int × Int)}, PairsAt K H vs ps → PairsAt K H' vs ps := by
  intro vs ps h
  induction h with
  | nil => exact .nil
  | cons p t ih => exact .cons (p.same s) ih
theorem PairsAt.len {K : PySem.W.Frag} {H : Hp} : ∀ {vs : List V} {ps : List (Int × Int)}, PairsAt K H vs ps → vs.length = ps.length
  | _, _, .nil => rfl
  | _, _, .cons p t => congrArg Nat.succ t.len
def s1 (ps : List (Int × Int)) : Int := (ps.map (·.1)).sum
def s2 (ps : List (Int × Int)) : Int := (ps.map (·.2)).sum
/-- a new pair -/
def NewPair (H : Hp) (x y : Int) (Q : VK) : Prop := ∀ p H', H p = none → Same H H' → H' p = some (.tup [.int x, .int y]) → Q (.ref p) H'
/-! ### added -/
section
variable {base : Heap} {K : PySem.W.Frag} {mg : Str → Option Value} {P : Program} {w : World}
def spAdded (K : PySem.W.Frag) : Sp := fun vs H Q _ => ∃ ps : List (Int × Int), PairsAt K H vs ps ∧ ps.length ≤ 1000 ∧ NewPair H (s1 ps) (s2 ps) Q
def spAddedB (K : PySem.W.Frag) : Sp := fun vs H Q _ => ∃ (t : Addr) (xs : List V) (ps : List (Int × Int)), vs = [.ref t] ∧ H t = some (.tup xs) ∧ PairsAt K H xs ps ∧ ps.length ≤ 1000 ∧ NewPair H (s1 ps) (s2 ps) Q
theorem ok_added (T : Txt K mg) : FnR P w K mg base CX0 1 T.f_added (spAdded K) := by
  obtain ⟨o1, o2, v1, v2, v3, a1, v4, v5, sl1, e1, r1, r2⟩ := T.F_added.ex
  have r1' := r1
  rw [e1] at r1'
  refine FnR.imp (StX.fn_star (ps := []) (pv := "pairs") (sp := spAddedB K) (N := ["pairs", "a", "b"]) r1' r2 sc_added StX.cxUp_none ?_ ?_) ?_
  · intro us rest hu
    match us, rest, hu with
    | [], [], _ => rfl
    | [], _ :: _, _ => rfl
  · intro A outer s H vs Q E hr h
    obtain ⟨t, xs, ps, rfl, ht, hp, hn, q⟩ := h
    refine ⟨_, PSs.nox (pss_one (ps_ret (pe_tup (pa_cons (pe_callB (cr_sum rfl) (by rfl) T.n_sum (by decide +kernel) (pa_cons (pe_lc (own := [("a", 1), ("b", 2)]) (g := (gTup K 2 (gCons (gName 1) (gCons (gName 2) gNil)))) (tt := tYes) (by rfl) sc_added.nd (pi_tup (pv 0)) (blkOk_by (own := [("a", 1), ("b", 2)]) (N := ["pairs", "a", "b"]) (sc := defScope s_added) (by decide +kernel)) (fun _ _ _ _ _ => (pg_tup (by rfl) (pgs_cons (pg_name (i := 1) sc_added.nd rfl (Or.inl rfl)) (pgs_cons (pg_name (i := 2) sc_added.nd rfl (Or.inl rfl)) pgs_nil)))) (fun _ _ _ _ _ => pts_nil) (fun _ _ _ _ _ => (pv 1))) pa_nil)) (pa_cons (pe_callB (cr_sum rfl) (by rfl) T.n_sum (by decide +kernel) (pa_cons (pe_lc (own := [("a", 1), ("b", 2)]) (g := (gTup K 2 (gCons (gName 1) (gCons (gName 2) gNil)))) (tt := tYes) (by rfl) sc_added.nd (pi_tup (pv 0)) (blkOk_by (own := [("a", 1), ("b", 2)]) (N := ["pairs", "a", "b"]) (sc := defScope s_added) (by decide +kernel)) (fun _ _ _ _ _ => (pg_tup (by rfl) (pgs_cons (pg_name (i := 1) sc_added.nd rfl (Or.inl rfl)) (pgs_cons (pg_name (i := 2) sc_added.nd rfl (Or.inl rfl)) pgs_nil)))) (fun _ _ _ _ _ => pts_nil) (fun _ _ _ _ _ => (pv 2))) pa_nil)) pa_nil))))), ?_⟩
    have hl := hp.len
    refine ⟨_, rfl, t, rfl, ⟨_, SqT.of ht⟩, fun D hD => lc_tup (K := K) (a := t) (xs := xs) (Pt H D (ps.map (·.1))) ⟨same_new hD, upd_same⟩ (fun i H' _ h => SqT.of (h.1 _ _ ht)) (fun i x H' hx hP => ?_) (fun H1 hP => ?_)⟩
    · obtain ⟨c, e, hc, u, rfl, hu⟩ := hp.get hx
      refine ⟨u, _, rfl, Evl.ex_t (show Evl.Ex H H' from hP.1) hu, rfl, .int c, [.int e], rfl, .int e, [], rfl, rfl, rfl, ⟨_, rfl, _, hP.2, pt_size (by rw [List.length_map]; exact hn), pt_step hP hD ?_⟩⟩
      rw [List.getElem?_map, hc]
      rfl
    obtain ⟨e1, f1⟩ := pt_end hP (by rw [List.length_map]; omega)
    refine ⟨D, _, rfl, SqL.of f1, ?_⟩
    refine ⟨_, rfl, t, rfl, ⟨_, SqT.of (e1 _ _ ht)⟩, fun D2 hD2 => lc_tup (K := K) (a := t) (xs := xs) (Pt H1 D2 (ps.map (·.2))) ⟨same_new hD2, upd_same⟩ (fun i H' _ h => SqT.of (h.1 _ _ (e1 _ _ ht))) (fun i x H' hx hP => ?_) (fun H2 hP => ?_)⟩
    · obtain ⟨c, e, hc, u, rfl, hu⟩ := hp.get hx
      refine ⟨u, _, rfl, Evl.ex_t (show Evl.Ex H H' from e1.trans hP.1) hu, rfl, .int c, [.int e], rfl, .int e, [], rfl, rfl, rfl, ⟨_, rfl, _, hP.2, pt_size (by rw [List.length_map]; exact hn), pt_step hP hD2 ?_⟩⟩
      rw [List.getElem?_map, hc]
      rfl
    obtain ⟨e2, f2⟩ := pt_end hP (by rw [List.length_map]; omega)
    exact ⟨D2, _, rfl, SqL.of f2, by show 2 ≤ sizeLine; decide, fun p hp => q p _ ((e1.trans e2).free hp) ((e1.trans e2).trans (same_new hp)) upd_same⟩
  · rintro vs H Q E ⟨ps, hp, hl, q⟩
    refine ⟨[], vs, rfl, rfl, Nat.le_of_lt (small1000 (by rw [hp.len]; exact hl)), fun p hpn => ⟨p, vs, ps, rfl, upd_same, hp.same (same_new hpn), hl, fun p' H' hp' sm h' => ?_⟩⟩
    exact q p' H' ((same_new hpn).free hp') ((same_new hpn).trans sm) h'
end
/-! ### scaled -/
section
variable {base : Heap} {K : PySem.W.Frag} {mg : Str → Option Value} {P : Program} {w : World}
def spScaled (K : PySem.W.Frag) : Sp := fun vs H Q _ => ∃ (v : V) (x y n : Int), vs = [v, .int n] ∧ PairAt K H v x y ∧ x.natAbs < 2 ^ 9000 ∧ y.natAbs < 2 ^ 9000 ∧ n.natAbs < 2 ^ 9000 ∧ NewPair H (x * n) (y * n) Q
theorem ok_scaled (T : Txt K mg) : FnOk P w K mg base CX0 1 T.f_scaled T.d_scaled ["pair", "number"] (spScaled K) := by
  refine T.F_scaled.ok sc_scaled (fun vs H Q E h => ?_) (fun cdv A outer s H vs Q E hr h => ?_)
  · obtain ⟨v, x, y, n, rfl, _⟩ := h
    rfl
  · obtain ⟨v, x, y, n, rfl, ⟨t, rfl, ht⟩, x1, y1, n1, q⟩ := h
    refine ⟨_, (pss_cons (ps_asg (pv 0) (pg_tup (by rfl) (pgs_cons (pg_name (i := 2) sc_scaled.nd rfl (Or.inl rfl)) (pgs_cons (pg_name (i := 3) sc_scaled.nd rfl (Or.inl rfl)) pgs_nil))))
      (pss_one (ps_ret (pe_tup (pa_cons (pe_op op_mulW (pv 2) (pv 1)) (pa_cons (pe_op op_mulW (pv 3) (pv 1)) pa_nil)))))), ?_⟩
    refine ⟨_, rfl, t, _, rfl, ht, rfl, .int x, [.int y], rfl, .int y, [], rfl, rfl, ?_⟩
    exact ⟨_, rfl, _, rfl, x, n, rfl, rfl, wide_mul x1 n1 (by decide) (by decide) (by decide), _, rfl, _, rfl, y, n, rfl, rfl, wide_mul y1 n1 (by decide) (by decide) (by decide), by show 2 ≤ sizeLine; decide, fun p hp => q p _ hp (same_new hp) upd_same⟩
end
/-! ### tuples stay -/
theorem tup_keep {H H' : Hp} {b sb : Addr} (B : Bag H b sb) (k : Keep b H H') (p : Addr) (xs : List V) (h : H p = some (.tup xs)) : H' p = some (.tup xs) := k _ _ (B.tup h) h
theorem tup_put {H : Hp} {l : Addr} {ys zs : List V} (hl : H l = some (.lst ys)) (p : Addr) (xs : List V) (h : H p = some (.tup xs)) : (upd H l (.lst zs)) p = some (.tup xs) := (upd_ne (ne_of h hl (by intro z; cases z))).trans h
theorem tup_same {H H' : Hp} (s : Same H H') (p : Addr) (xs : List V) (h : H p = some (.tup xs)) : H' p = some (.tup xs) := s _ _ h
/-! ### alike, from its parts -/
/-! ### the sign by squares -/
def ab (i : Int) : Int := if i < 0 then -i else i
def vl (a b d : Int) : Int := a * ab a + d * b * ab b
def sgnI (x : Int) : Int := (if decide (0 < x) = true then 1 else 0) - (if decide (x < 0) = true then 1 else 0)
theorem sgnI_pos {x : Int} (h : 0 < x) : sgnI x = 1 := by
  unfold sgnI
  rw [if_pos (decide_eq_true h), if_neg (by simp; omega)]
  rfl
theorem sgnI_neg {x : Int} (h : x < 0) : sgnI x = -1 := by
  unfold sgnI
  rw [if_neg (by simp; omega), if_pos (decide_eq_true h)]
  rfl
theorem sgnI_zero : sgnI 0 = 0 := by decide
theorem ab_abs (i : Int) : (ab i).natAbs = i.natAbs := by
  unfold ab
  split <;> omega
theorem ab_neg {i : Int} (h : i < 0) : ab i = -i := if_pos h
theorem ab_nn {i : Int} (h : 0 ≤ i) : ab i = i := if_neg (by omega)
section
variable {base : Heap} {K : PySem.W.Frag} {mg : Str → Option Value} {P : Program} {w : World}
def spSign (K : PySem.W.Frag) : Sp := fun vs H Q _ => ∃ (t : Addr) (d a b : Int), vs = [.ref t, .int d] ∧ SqT K H t [.int a, .int b] ∧ d.natAbs < 2 ^ 64 ∧ a.natAbs < 2 ^ 9000 ∧ b.natAbs < 2 ^ 9000 ∧ Q (.int (sgnI (vl a b d))) H
theorem ok_lsign (T : Txt K mg) : FnOk P w K mg base CX0 1 T.f_lsign T.d_lsign ["_law_pair", "_law_root_z"] (spSign K) := by
  refine T.F_lsign.ok sc_lsign (fun vs H Q E h => ?_) (fun cdv A outer s H vs Q E hr h => ?_)
  · obtain ⟨t, d, a, b, rfl, _⟩ := h
    rfl
  · obtain ⟨t, d, a, b, rfl, hT, d1, a1, b1, q⟩ := h
    refine ⟨_, (pss_cons (ps_set (i := 2) sc_lsign.nd rfl (Or.inl rfl) (pe_op op_add (pe_op op_mulW (pe_ix ix_tup (pv 0) pe_int (fun _ _ => rfl)) (pe_callB call_abs (by rfl) T.n_abs (by decide +kernel) (pa_cons (pe_ix ix_tup (pv 0) pe_int (fun _ _ => rfl)) pa_nil))) (pe_op op_mulW (pe_op op_mulW (pv 1) (pe_ix ix_tup (pv 0) pe_int (fun _ _ => rfl))) (pe_callB call_abs (by rfl) T.n_abs (by decide +kernel) (pa_cons (pe_ix ix_tup (pv 0) pe_int (fun _ _ => rfl)) pa_nil)))))
      (pss_one (ps_ret (pe_op op_sub (pe_callTy call_int1 (by rfl) T.n_int (by decide +kernel) (pa_cons (pe_cmpR op_gt (pv 2) pe_int (nomark _)) pa_nil)) (pe_callTy call_int1 (by rfl) T.n_int (by decide +kernel) (pa_cons (pe_cmpR op_lt (pv 2) pe_int (nomark _)) pa_nil)))))), ?_⟩
    have a2 : (ab a).natAbs < 2 ^ 9000 := by rw [ab_abs]; exact a1
    have b2 : (ab b).natAbs < 2 ^ 9000 := by rw [ab_abs]; exact b1
    have m1 : (d * b).natAbs < 2 ^ (64 + 9000) := wide_lt d1 b1
    refine ⟨_, rfl, t, _, 0, .int a, rfl, rfl, hT, atI_nat (j := 0) rfl, _, rfl, t, _, 0, .int a, rfl, rfl, hT, atI_nat (j := 0) rfl, a, rfl, a, _, rfl, rfl, wide_mul a1 a2 (by decide) (by decide) (by decide),
      _, rfl, _, rfl, t, _, 1, .int b, rfl, rfl, hT, atI_nat (j := 1) rfl, d, b, rfl, rfl, wide_mul d1 b1 (by decide) (by decide) (by decide), _, rfl, t, _, 1, .int b, rfl, rfl, hT, atI_nat (j := 1) rfl, b, rfl, _, _, rfl, rfl, wide_mul m1 b2 (by decide) (by decide) (by decide), _, _, rfl, rfl, ?_⟩
    exact ⟨_, rfl, vl a b d, 0, rfl, rfl, .inr ⟨_, rfl, _, rfl, vl a b d, 0, rfl, rfl, .inr ⟨_, rfl, _, _, rfl, rfl, q⟩⟩⟩
end
/-! ### sign, compare, is_length -/
section
variable {base : Heap} {K : PySem.W.Frag} {mg : Str → Option Value} {P : Program} {w : World}
def spPSign (K : PySem.W.Frag) : Sp := fun vs H Q _ => ∃ (v : V) (d a b : Int), vs = [v, .int d] ∧ PairAt K H v a b ∧ d.natAbs < 2 ^ 64 ∧ a.natAbs < 2 ^ 9000 ∧ b.natAbs < 2 ^ 9000 ∧ Q (.int (sgnI (vl a b d))) H
theorem ok_sign (T : Txt K mg) : FnOk P w K mg base CX0 1 T.f_sign T.d_sign ["pair", "root"] (spPSign K) := by
  refine T.F_sign.ok sc_sign (fun vs H Q E h => ?_) (fun cdv A outer s H vs Q E hr h => ?_)
  · obtain ⟨t, d, a, b, rfl, _⟩ := h
    rfl
  · obtain ⟨v, d, a, b, rfl, ⟨t, rfl, hT⟩, d1, a1, b1, q⟩ := h
    refine ⟨_, (pss_cons (ps_asg (pv 0) (pg_tup (by rfl) (pgs_cons (pg_name (i := 3) sc_sign.nd rfl (Or.inl rfl)) (pgs_cons (pg_name (i := 4) sc_sign.nd rfl (Or.inl rfl)) pgs_nil))))
      (pss_cons (ps_set (i := 2) sc_sign.nd rfl (Or.inl rfl) (pe_op op_add (pe_op op_mulW (pv 3) (pe_callB call_abs (by rfl) T.n_abs (by decide +kernel) (pa_cons (pv 3) pa_nil))) (pe_op op_mulW (pe_op op_mulW (pv 1) (pv 4)) (pe_callB call_abs (by rfl) T.n_abs (by decide +kernel) (pa_cons (pv 4) pa_nil)))))
      (pss_cons (ps_if (pt_cmpR op_gt (pv 2) pe_int (nomark _)) (pss_one (ps_ret pe_int)) pss_nil)
      (pss_cons (ps_if (pt_cmpR op_lt (pv 2) pe_int (nomark _)) (pss_one (ps_ret (pe_un un_neg pe_int))) pss_nil)
      (pss_one (ps_ret pe_int)))))), ?_⟩
    have a2 : (ab a).natAbs < 2 ^ 9000 := by rw [ab_abs]; exact a1
    have b2 : (ab b).natAbs < 2 ^ 9000 := by rw [ab_abs]; exact b1
    have m1 : (d * b).natAbs < 2 ^ (64 + 9000) := wide_lt d1 b1
    refine ⟨_, rfl, t, _, rfl, hT, rfl, .int a, [.int b], rfl, .int b, [], rfl, rfl, ?_⟩
    refine ⟨_, rfl, _, rfl, a, rfl, a, _, rfl, rfl, wide_mul a1 a2 (by decide) (by decide) (by decide),
      _, rfl, _, rfl, d, b, rfl, rfl, wide_mul d1 b1 (by decide) (by decide) (by decide), _, rfl, b, rfl, _, _, rfl, rfl, wide_mul m1 b2 (by decide) (by decide) (by decide), _, _, rfl, rfl, ?_⟩
    refine ⟨_, rfl, vl a b d, 0, rfl, rfl, _, rfl, ite2 (fun e => ?_) (fun e => ?_)⟩
    · rw [sgnI_pos (of_decide_eq_true e)] at q
      exact q
    · have e1 : ¬ 0 < vl a b d := fun z => e (decide_eq_true z)
      refine ⟨_, rfl, vl a b d, 0, rfl, rfl, _, rfl, ite2 (fun e => ?_) (fun e => ?_)⟩
      · rw [sgnI_neg (of_decide_eq_true e)] at q
        exact ⟨1, rfl, q⟩
      · have e2 : ¬ vl a b d < 0 := fun z => e (decide_eq_true z)
        rw [show vl a b d = 0 by omega, sgnI_zero] at q
        exact q
end
section
variable {base : Heap} {K : PySem.W.Frag} {mg : Str → Option Value} {P : Program} {w : World}
def spIsLen (K : PySem.W.Frag) : Sp := fun vs H Q _ => ∃ (v : V) (d a b : Int), vs = [v, .int d] ∧ PairAt K H v a b ∧ d.natAbs < 2 ^ 64 ∧ a.natAbs < 2 ^ 9000 ∧ b.natAbs < 2 ^ 9000 ∧ Q (.bl (decide (0 < sgnI (vl a b d)))) H
theorem ok_is_length (T : Txt K mg) : FnOk P w K mg base CX0 2 T.f_is_length T.d_is_length ["pair", "root"] (spIsLen K) := by
  refine T.F_is_length.ok sc_is_length (fun vs H Q E h => ?_) (fun cdv A outer s H vs Q E hr h => ?_)
  · obtain ⟨v, d, a, b, rfl, _⟩ := h
    rfl
  · obtain ⟨v, d, a, b, rfl, h1, d1, a1, b1, q⟩ := h
    refine ⟨_, (pss_one (ps_ret (pe_cmpR op_gt (pe_call (ok_sign T) (hr.mono (by decide)) (by rfl) T.g_sign T.F_sign.kp T.b_sign .nil pass0 (pa_cons (pv 0) (pa_cons (pv 1) pa_nil))) pe_int (nomark _)))), ?_⟩
    exact ⟨_, rfl, _, rfl, v, d, a, b, rfl, h1, d1, a1, b1, _, 0, rfl, rfl, q⟩
end
/-! ### whole_root, floor_of -/
theorem bits_up {n : Int} (h : 0 ≤ n) : n < 2 ^ (Builtin.Int.intBits n) := by
  obtain ⟨m, rfl⟩ := Int.eq_ofNat_of_zero_le h
  have h1 : (m : Int).natAbs = m := rfl
  have h2 : m < 2 ^ (Builtin.Int.intBits (m : Int)) := by
    unfold Builtin.Int.intBits
    rw [h1]
    split
    · rename_i z
      have z' : m = 0 := by
        first
          | exact z
          | (have := z; simp at this; omega)
      subst z'
      decide
    · exact Nat.lt_log2_self
  have h3 : ((m : Nat) : Int) < ((2 ^ (Builtin.Int.intBits (m : Int)) : Nat) : Int) := by exact_mod_cast h2
  rw [Int.natCast_pow] at h3
  exact h3
theorem bits_le {n : Int} {k : Nat} (hk : 0 < k) (h : n.natAbs < 2 ^ k) : Builtin.Int.intBits n ≤ k := by
  have := PySem.Flt.log2_lt_of hk h
  unfold Builtin.Int.intBits
  split
  · omega
  · omega
theorem guess_up {n : Int} {k : Nat} (h : 0 ≤ n) (hk : Builtin.Int.intBits n ≤ 2 * k) : n < (1 * 2 ^ k + 1) * (1 * 2 ^ k + 1) := by
  have h1 := bits_up h
  have h2 : (2 : Int) ^ (Builtin.Int.intBits n) ≤ 2 ^ (2 * k) := by
    have : 2 ^ (Builtin.Int.intBits n) ≤ 2 ^ (2 * k) := Nat.pow_le_pow_right (by decide) hk
    exact_mod_cast this
  have h3 : (2 : Int) ^ (2 * k) = 2 ^ k * 2 ^ k := by
    rw [Nat.two_mul, Int.pow_add]
  have h4 : (0 : Int) ≤ 2 ^ k := by
    have : 0 ≤ (2 ^ k : Nat) := Nat.zero_le _
    exact_mod_cast this
  rw [h3] at h2
  generalize (2 : Int) ^ k = x at h2 h4 ⊢
  grind
section
variable {base : Heap} {K : PySem.W.Frag} {mg : Str → Option Value} {P : Program} {w : World}
def spWhole : Sp := fun vs H Q _ => ∃ n : Int, vs = [.int n] ∧ 0 ≤ n ∧ n.natAbs < 2 ^ 8000 ∧ ∀ g : Int, 0 ≤ g → g * g ≤ n → n < (g + 1) * (g + 1) → Q (.int g) H
def WRoot (n : Int) (H : Hp) (m : Nat) (σ : L2.St) (H' : Hp) : Prop := ∃ g : Int, σ = [some (.int n), some (.int g)] ∧ H' = H ∧ 0 ≤ g ∧ g.natAbs < 2 ^ 4002 ∧ n < (g + 1) * (g + 1) ∧ m = g.toNat
theorem ok_whole_root (T : Txt K mg) : FnOk P w K mg base CX0 1 T.f_whole_root T.d_whole_root ["number"] spWhole := by
  refine T.F_whole_root.ok sc_whole_root (fun vs H Q E h => ?_) (fun cdv A outer s H vs Q E hr h => ?_)
  · obtain ⟨n, rfl, _⟩ := h
    rfl
  · obtain ⟨n, rfl, n0, n1, q⟩ := h
    refine ⟨_, (pss_cons (ps_set (i := 1) sc_whole_root.nd rfl (Or.inl rfl) (pe_op op_shl pe_int (pe_op op_fdiv (pe_op op_add (pe_bits (pv 0)) pe_int) pe_int)))
      (pss_cons (ps_while PassesOwn.never (pt_cmpR op_gt (pe_op op_mulW (pv 1) (pv 1)) (pv 0) (nomark _)) (pss_one (ps_set (i := 1) sc_whole_root.nd rfl (Or.inl rfl) (pe_op op_fdiv (pe_op op_add (pv 1) (pe_op op_fdivW (pv 0) (pv 1))) pe_int))))
      (pss_one (ps_ret (pv 1))))), ?_⟩
    have hb := bits_le (by decide) n1
    have e1 : (((Builtin.Int.intBits n : Nat) : Int) + 1) / 2 = (((Builtin.Int.intBits n + 1) / 2 : Nat) : Int) := by omega
    have e2 : ((((Builtin.Int.intBits n : Nat) : Int) + 1) / 2).toNat = (Builtin.Int.intBits n + 1) / 2 := by rw [e1]; rfl
    refine ⟨_, rfl, n, rfl, _, 1, rfl, rfl, _, 2, rfl, rfl, ⟨by decide, by decide⟩, 1, _, rfl, rfl, ⟨by omega, by omega, by decide⟩, ?_⟩
    dsimp only
    rw [e2]
    refine ⟨WRoot n H, ⟨_, (1 * 2 ^ ((Builtin.Int.intBits n + 1) / 2)), rfl, rfl, ?_, ?_, guess_up n0 (by omega), rfl⟩, ?_⟩
    · have : 0 ≤ (2 ^ ((Builtin.Int.intBits n + 1) / 2) : Nat) := Nat.zero_le _
      have z : (0 : Int) ≤ 2 ^ ((Builtin.Int.intBits n + 1) / 2) := by exact_mod_cast this
      omega
    · rw [Int.one_mul, Int.natAbs_pow]
      exact Nat.pow_lt_pow_right (by decide) (by omega)
    · rintro m σ H' ⟨g, rfl, rfl, g0, g1, g2, rfl⟩
      refine ⟨_, rfl, _, rfl, g, g, rfl, rfl, wide_mul g1 g1 (by decide) (by decide) (by decide), _, rfl, _, n, rfl, rfl, _, rfl, ite2 (fun e => ?_) (fun e => ?_)⟩
      · have e' : n < g * g := of_decide_eq_true e
        have gp : 0 < g := by
          rcases Int.lt_or_le 0 g with z | z
          · exact z
          · have : g = 0 := by omega
            rw [this] at e'
            omega
        refine ⟨fun σ' H'' => ∃ m', m' < g.toNat ∧ WRoot n H' m' σ' H'', fun _ _ z => z, ?_⟩
        have d1 := newton_dn gp e'
        have d2 := newton_nn gp n0
        refine ⟨_, rfl, _, rfl, _, rfl, n, g, rfl, rfl, wide_div gp g1 (by decide) (by decide), g, _, rfl, rfl, _, 2, rfl, rfl, ⟨by decide, by decide⟩, ?_⟩
        exact ⟨_, by omega, (g + n / g) / 2, rfl, rfl, d2, Nat.lt_of_le_of_lt (by omega) g1, newton_up gp n0, rfl⟩
      · have e' : ¬ n < g * g := fun z => e (decide_eq_true z)
        exact ⟨_, rfl, q g g0 (by omega) g2⟩
end
/-! ### is_root, check_root -/
def isRB (n : Int) : Bool := decide (2 ≤ n ∧ n ≤ 99) && okR n
theorem sq_dec : ∀ n : Nat, n < 100 → 2 ≤ n → ∀ g : Nat, g < 10 → g * g ≤ n → n < (g + 1) * (g + 1) → (!decide (g * g = n)) = okR (n : Int) := by decide +kernel
theorem isR_of {n g : Int} (h0 : 2 ≤ n) (h1 : n ≤ 99) (g0 : 0 ≤ g) (g1 : g * g ≤ n) (g2 : n < (g + 1) * (g + 1)) : (!decide (V.int (g * g) = V.int n)) = isRB n := by
  obtain ⟨m, rfl⟩ := Int.eq_ofNat_of_zero_le (show 0 ≤ n by omega)
  obtain ⟨k, rfl⟩ := Int.eq_ofNat_of_zero_le g0
  have hk : k < 10 := by
    rcases Nat.lt_or_ge k 10 with z | z
    · exact z
    · have := sq_le (show (0 : Int) ≤ 10 by decide) (show (10 : Int) ≤ (k : Int) by omega)
      omega
  have := sq_dec m (by omega) (by omega) k hk (by exact_mod_cast g1) (by exact_mod_cast g2)
  unfold isRB
  have e99 : decide (2 ≤ (m : Int) ∧ (m : Int) ≤ 99) = true := decide_eq_true ⟨h0, h1⟩
  rw [e99, Bool.true_and, ← this]
  congr 1
  by_cases z : k * k = m
  · rw [decide_eq_true z, decide_eq_true (by subst z; rw [Int.natCast_mul])]
  · rw [decide_eq_false z, decide_eq_false (fun e => z (by have := V.int.inj e; exact_mod_cast this))]
section
variable {base : Heap} {K : PySem.W.Frag} {mg : Str → Option Value} {w : World}
def spIsRoot : Sp := fun vs H Q _ => ∃ n : Int, vs = [.int n] ∧ Q (.bl (isRB n)) H
theorem ok_is_root {P : Program} (T : Txt K mg) : FnOk P w K mg base CX0 2 T.f_is_root T.d_is_root ["number"] spIsRoot := by
  refine T.F_is_root.ok sc_is_root (fun vs H Q E h => ?_) (fun cdv A outer s H vs Q E hr h => ?_)
  · obtain ⟨n, rfl, _⟩ := h
    rfl
  · obtain ⟨n, rfl, q⟩ := h
    refine ⟨_, (pss_cons (ps_if (PW.pt (pw_or (pt_cmpR op_lt (pv 0) pe_int (nomark _)) (pw_or1 (pt_cmpR op_gt (pv 0) pe_int (nomark _))))) (pss_one (ps_ret pe_bl)) pss_nil)
      (pss_cons (ps_set (i := 1) sc_is_root.nd rfl (Or.inl rfl) (pe_call (ok_whole_root T) (hr.mono (by decide)) (by rfl) T.g_whole_root T.F_whole_root.kp T.b_whole_root .nil pass0 (pa_cons (pv 0) pa_nil)))
      (pss_one (ps_ret (pe_cmpR op_ne (pe_op op_mulW (pv 1) (pv 1)) (pv 0) (nomark _)))))), ?_⟩
    refine ⟨_, rfl, n, 2, rfl, rfl, _, rfl, ite2 (fun e => ?_) (fun e => ?_)⟩
    · have : ¬ (2 ≤ n ∧ n ≤ 99) := by have := of_decide_eq_true e; omega
      unfold isRB at q
      rw [decide_eq_false this] at q
      exact q
    refine ⟨_, rfl, n, 99, rfl, rfl, _, rfl, ite2 (fun e2 => ?_) (fun e2 => ?_)⟩
    · have : ¬ (2 ≤ n ∧ n ≤ 99) := by have := of_decide_eq_true e2; omega
      unfold isRB at q
      rw [decide_eq_false this] at q
      exact q
    have h2 : 2 ≤ n := by
      have : ¬ n < 2 := fun z => e (decide_eq_true z)
      omega
    have h99 : n ≤ 99 := by
      have : ¬ n > 99 := fun z => e2 (decide_eq_true z)
      omega
    refine ⟨_, rfl, n, rfl, by omega, Nat.lt_of_le_of_lt (show n.natAbs ≤ 99 by omega) (Nat.lt_of_lt_of_le (show 99 < 2 ^ 7 by decide) (Nat.pow_le_pow_right (by decide) (by decide))), fun g g0 g1 g2 => ?_⟩
    have gb : g.natAbs < 2 ^ 7 := by
      have : g ≤ 99 := by
        rcases Int.lt_or_le 99 g with z | z
        · have := sq_le (show (0 : Int) ≤ 99 by decide) (Int.le_of_lt z)
          omega
        · exact z
      show g.natAbs < 128
      omega
    refine ⟨_, rfl, _, rfl, g, g, rfl, rfl, wide_mul gb gb (by decide) (by decide) (by decide), _, rfl, rfl, ?_⟩
    rw [isR_of h2 h99 g0 g1 g2]
    exact q
end
/-! ### what is asked of the def that asks -/
section
variable {X : Cx} {k : Nat} {c P0 : Addr} {params : Arguments} {body d : Expr} {v0 : V} {scope : Scope} {t : XK → TE} {p lpos pos : Pos} {b : Str}
theorem one_tab {P0 : Addr} {q : Str} : ∀ p ∈ [(P0, q)], p.1 = P0 → p.2 = q := by
  intro p hp _
  rw [List.mem_singleton.mp hp]
theorem pe_try (T : Txt X.K X.mg) (hg : Gl X "_law_try") (TB : LamX.TabB X.base X.mg c P0) (hcode : X.env.code = .ref c) (hr : Room (k + 3) X.A) (L : LamX.LamS X.env.scope scope) (hdef : defaultsOf params X.env = ([], []))
    (hbind : ∀ (q : Str) (cl : List (Str × Addr)) (pm cv ctv : Value), bindArgs (PySem.W.kla_fn "<lambda>" q params body scope cl pm cv ctv) ⟨[], []⟩ = pure [])
    (hbody : ∀ (A : Around) (outer : List Env) (s : Shared) (H : Hp) (E : XK) (f c' : Addr), Room (k + 1) (A.deeper (LamX.lamEnv X scope s.heap.objs.size f c')) → PE (LamX.lamCx X A outer s H E scope f c') body (t E)) :
    PE X (.Call (.Name "_law_try" p) [.Lambda params body scope lpos] [] pos) (LamX.tLam [(P0, X.env.qual ++ "<lambda>")] (TTry X.K T.r_GrainError) t) := by
  obtain ⟨oc2, od2, kV2, doc2, pm2, an2, cdv2, ct2, osl2, eT, lkT, cdT⟩ := T.F_try.ex
  have bT := T.b_try
  rw [eT] at bT
  rw [eT] at lkT
  exact LamX.pe_lamcall hg T.g_try T.F_try.kp lkT cdT bT sc_try rfl (Or.inl rfl) (try_gives T rfl rfl (k := k) hr) TB hcode (List.mem_singleton.mpr rfl) one_tab hr L hdef hbind hbody
theorem pass_never {X : Cx} {P : Program} {w : World} : Passes (L2.CX P w) X (fun _ _ _ => False) := by
  intro pins σ H s e s' I z
  obtain ⟨_, _, _, _, _, _, _, _, _, _, _, _, he⟩ := z
  exact he.elim
end
/-! ### an error of the first kind, told -/
section
variable {P : Program} {K : PySem.W.Frag} {mg : Str → Option Value} {G : Addr} {st : Stmt} {nm qual : Str} {B newId initId : String} {bmB : List Value}
theorem exm_er (T : Er P K mg B newId initId bmB [.ref G] st nm qual) {cg : ClassData} (hg : PySem.W.clsIn K G = some cg) (tg : PySem.W.typeIn K (.ref G) = some (.type "type")) (sb : PySem.W.subIn K (.ref G) (.type "BaseException") = some true) : PySem.W.exmOne K (.ref T.C) (.ref G) = some true := by
  unfold PySem.W.exmOne
  rw [if_pos (by rw [sb]; rfl)]
  unfold PySem.W.kitCls
  dsimp only
  rw [hg, tg, if_pos (show ((some cg).isSome && some (Value.type "type") == some (Value.type "type")) = true from show (true && some (Value.type "type") == some (Value.type "type")) = true by decide +kernel)]
  show PySem.W.mroIn K T.C (.ref G) = _
  obtain ⟨cd, hc, _, hm⟩ := T.cl
  unfold PySem.W.mroIn
  rw [hc, Option.bind_some, hm]
  show some ((Value.ref T.C :: ([Value.ref G] ++ _)).contains (.ref G)) = some true
  congr 1
  rw [List.contains_cons, List.cons_append, List.contains_cons, beq_self_eq_true]
  simp
theorem raised_er (T : Er P K mg B newId initId bmB [.ref G] st nm qual) {cg : ClassData} (hg : PySem.W.clsIn K G = some cg) (tg : PySem.W.typeIn K (.ref G) = some (.type "type")) (sb : PySem.W.subIn K (.ref G) (.type "BaseException") = some true)
    {w : Str} {fs : List (Str × V)} {v : V} (no : ∀ f v, fs.lookup f = some v → PySem.W.findIn K (.ref T.C) f = some none) (wd : fs.lookup ("word" : Str) = some (.str w)) (fv : fieldVal w fs = some v)
    {Q : VK} {d : Addr} {Hf : Hp} (hd : Hf d = some (.xd fs)) (q : Told Q w v Hf) : Raised K G Q (.ref T.C) (some d) Hf :=
  ⟨exm_er T hg tg sb, w, fs, v, ⟨⟨_, d, rfl, rfl, xfc_of T, hd, no⟩, wd⟩, fv, q⟩
theorem no_two {C : Addr} {f1 : Str} {v1 v2 : V} (h1 : PySem.W.findIn K (.ref C) f1 = some none) (h2 : PySem.W.findIn K (.ref C) "word" = some none) : ∀ f v, List.lookup f [(f1, v1), (("word" : Str), v2)] = some v → PySem.W.findIn K (.ref C) f = some none := by
  intro f v e
  simp only [List.lookup] at e
  split at e
  · rename_i z
    rw [eq_of_beq z]
    exact h1
  · split at e
    · rename_i z
      rw [eq_of_beq z]
      exact h2
    · cases e
theorem no_one {C : Addr} {v2 : V} (h2 : PySem.W.findIn K (.ref C) "word" = some none) : ∀ f v, List.lookup f [(("word" : Str), v2)] = some v → PySem.W.findIn K (.ref C) f = some none := by
  intro f v e
  simp only [List.lookup] at e
  split at e
  · rename_i z
    rw [eq_of_beq z]
    exact h2
  · cases e
end
/-! ### what stays where lambdas are made -/
theorem Bag.extN {H H' : Hp} {b sb : Addr} (B : Bag H b sb) (e : LamX.ExtN H H') : Bag H' b sb := by
  obtain ⟨ns, i, j, m, c, h1, h2, h3, h4, h5, h6⟩ := B
  exact ⟨ns, i, j, m, c, e _ _ h1 (fun _ z => by cases z), e _ _ h2 (fun _ z => by cases z), h3, h4, h5, h6⟩
theorem lst_extN {H H' : Hp} {a : Addr} {xs : List V} (h : H a = some (.lst xs)) (e : LamX.ExtN H H') : H' a = some (.lst xs) := e _ _ h (fun _ z => by cases z)
theorem tup_extN {H H' : Hp} {a : Addr} {xs : List V} (h : H a = some (.tup xs)) (e : LamX.ExtN H H') : H' a = some (.tup xs) := e _ _ h (fun _ z => by cases z)
theorem tabs_keep {H H' : Hp} {b sb : Addr} {T : List (Addr × Str)} (t : LamX.Tabs T H) (B : Bag H b sb) (k : Keep b H H') : LamX.Tabs T H' := by
  intro p hp
  obtain ⟨ps, h1, h2, h3⟩ := t p hp
  obtain ⟨ns, i, j, m, c, B⟩ := B
  refine ⟨ps, k _ _ (ne_of h1 B.hb (by intro z; cases z)) h1, h2, fun pos cv hc => ?_⟩
  obtain ⟨c', e1, e2⟩ := h3 pos cv hc
  exact ⟨c', e1, k _ _ (ne_of e2 B.hb (by intro z; unfold LamX.CodeO at z; cases z)) e2⟩
/-! ### tables -/
/-- two pairs, as they are handed in -/
def CellsK (K : PySem.W.Frag) (H : Hp) (r : V) (a b c e : Int) : Prop := ∃ t u v : Addr, r = .ref t ∧ SqT K H t [.ref u, .ref v] ∧ SqT K H u [.int a, .int b] ∧ SqT K H v [.int c, .int e]
/-- two pairs that the program has made -/
def CellsAt (H : Hp) (t : Addr) (a b c e : Int) : Prop := ∃ u v : Addr, H t = some (.tup [.ref u, .ref v]) ∧ H u = some (.tup [.int a, .int b]) ∧ H v = some (.tup [.int c, .int e])
def TabAt (C : Addr) (H : Hp) (p : Addr) (a b c e : Int) : Prop := ∃ dx t : Addr, H p = some (.ins C dx [("cells", .ref t)]) ∧ CellsAt H t a b c e
theorem CellsAt.same {H H' : Hp} {t : Addr} {a b c e : Int} (h : CellsAt H t a b c e) (s : Same H H') : CellsAt H' t a b c e := by
  obtain ⟨u, v, h1, h2, h3⟩ := h
  exact ⟨u, v, s _ _ h1, s _ _ h2, s _ _ h3⟩
theorem CellsAt.k {K : PySem.W.Frag} {H : Hp} {t : Addr} {a b c e : Int} (h : CellsAt H t a b c e) : CellsK K H (.ref t) a b c e := by
  obtain ⟨u, v, h1, h2, h3⟩ := h
  exact ⟨t, u, v, rfl, SqT.of h1, SqT.of h2, SqT.of h3⟩
theorem TabAt.same {C : Addr} {H H' : Hp} {p : Addr} {a b c e : Int} (h : TabAt C H p a b c e) (s : Same H H') : TabAt C H' p a b c e := by
  obtain ⟨dx, t, h1, h2⟩ := h
  exact ⟨dx, t, s _ _ h1, h2.same s⟩
theorem CellsAt.keep {H H' : Hp} {bg sb t : Addr} {a b c e : Int} (h : CellsAt H t a b c e) (B : Bag H bg sb) (k : Keep bg H H') : CellsAt H' t a b c e := by
  obtain ⟨u, v, h1, h2, h3⟩ := h
  exact ⟨u, v, k _ _ (B.tup h1) h1, k _ _ (B.tup h2) h2, k _ _ (B.tup h3) h3⟩
theorem TabAt.keep {C : Addr} {H H' : Hp} {bg sb p : Addr} {a b c e : Int} (h : TabAt C H p a b c e) (B : Bag H bg sb) (k : Keep bg H H') : TabAt C H' p a b c e := by
  obtain ⟨dx, t, h1, h2⟩ := h
  refine ⟨dx, t, k _ _ ?_ h1, h2.keep B k⟩
  obtain ⟨ns, i, j, m, c', B⟩ := B
  exact ne_of h1 B.hb (by intro z; cases z)
section
variable {base : Heap} {K : PySem.W.Frag} {mg : Str → Option Value} {P : Program} {w : World}
def spTInit (K : PySem.W.Frag) (C : Addr) : Sp := fun vs H Q _ => ∃ (p dx : Addr) (r : V) (a b c e : Int), vs = [.ref p, r] ∧ H p = some (.ins C dx []) ∧ CellsK K H r a b c e ∧ ∀ H', TabAt C H' p a b c e → (∀ q o, H q = some o → q ≠ p → H' q = some o) → Q .non H'
theorem ok_Table_init (T : Txt K mg) : FnOk P w K mg base CX0 1 T.f_Table_init T.d_Table_init ["self", "rows"] (spTInit K T.C_Table) := by
  refine T.F_Table_init.ok sc_Table_init (fun vs H Q E h => ?_) (fun cdv A outer s H vs Q E hr h => ?_)
  · obtain ⟨p, dx, r, a, b, c, e, rfl, _⟩ := h
    rfl
  · obtain ⟨p, dx, r, a, b, c, e, rfl, hp, ⟨t, u, v, rfl, ht, hu, hv⟩, q⟩ := h
    refine ⟨_, PSs.nox (pss_cons (ps_asg (pv 1) (pg_tup (by rfl) (pgs_cons (pg_tup (by rfl) (pgs_cons (pg_name (i := 2) sc_Table_init.nd rfl (Or.inl rfl)) (pgs_cons (pg_name (i := 3) sc_Table_init.nd rfl (Or.inl rfl)) pgs_nil))) (pgs_cons (pg_tup (by rfl) (pgs_cons (pg_name (i := 4) sc_Table_init.nd rfl (Or.inl rfl)) (pgs_cons (pg_name (i := 5) sc_Table_init.nd rfl (Or.inl rfl)) pgs_nil))) pgs_nil))))
      (pss_one (ps_fld (pv 0) (pe_tup (pa_cons (pe_tup (pa_cons (pv 2) (pa_cons (pv 3) pa_nil))) (pa_cons (pe_tup (pa_cons (pv 4) (pa_cons (pv 5) pa_nil))) pa_nil))) rfl))), ?_⟩
    refine ⟨_, rfl, t, _, rfl, ht, rfl, .ref u, _, rfl, u, _, rfl, hu, rfl, .int a, _, rfl, .int b, _, rfl, rfl, .ref v, _, rfl, v, _, rfl, hv, rfl, .int c, _, rfl, .int e, _, rfl, rfl, rfl, ?_⟩
    refine ⟨_, rfl, _, rfl, by show 2 ≤ sizeLine; decide, fun u1 n1 => ⟨_, rfl, _, rfl, by show 2 ≤ sizeLine; decide, fun v1 n2 => ⟨by show 2 ≤ sizeLine; decide, fun t1 n3 => ?_⟩⟩⟩
    have e1 := same_new (o := .tup [.int a, .int b]) n1
    have e2 := same_new (o := .tup [.int c, .int e]) n2
    have e3 := same_new (o := .tup [.ref u1, .ref v1]) n3
    have ee := e1.trans (e2.trans e3)
    refine ⟨_, rfl, p, T.C_Table, dx, [], rfl, ee _ _ hp, T.cl_Table, T.n_Table_cells, (by show 0 < 1000; decide), ?_⟩
    have np1 : u1 ≠ p := (ne_of_none hp n1).symm
    have np2 : v1 ≠ p := (ne_of_none (e1 _ _ hp) n2).symm
    have np3 : t1 ≠ p := (ne_of_none ((e1.trans e2) _ _ hp) n3).symm
    refine q _ ⟨dx, t1, upd_same, u1, v1, (upd_ne np3).trans upd_same, (upd_ne np1).trans ((e2.trans e3) _ _ upd_same), (upd_ne np2).trans (e3 _ _ upd_same)⟩ fun q1 o h1 h2 => (upd_ne h2).trans (ee _ _ h1)
theorem mk_tab {C : Addr} {H : Hp} {r : V} {a b c e : Int} {R : Addr → Hp → Prop} {E : XK} (hr : CellsK K H r a b c e) (q : ∀ x H', H x = none → Same H H' → TabAt C H' x a b c e → R x H') :
    ∀ x dx, H x = none → H dx = none → dx ≠ x → spTInit K C [.ref x, r] (upd (upd H dx (.own x)) x (.ins C dx [])) (fun v H2 => v = .non ∧ R x H2) E := by
  intro x dx nx nd ne
  have s1 : Same H (upd (upd H dx (.own x)) x (.ins C dx [])) := fun b o z => by
    rw [upd_ne (ne_of_none z nx), upd_ne (ne_of_none z nd)]
    exact z
  obtain ⟨t, u, v, rfl, h1, h2, h3⟩ := hr
  exact ⟨x, dx, _, a, b, c, e, rfl, upd_same, ⟨t, u, v, rfl, Evl.ex_t s1 h1, Evl.ex_t s1 h2, Evl.ex_t s1 h3⟩, fun H' hT hk => ⟨rfl, q x H' nx (fun p o z => hk p o (s1 p o z) (ne_of_none z nx)) hT⟩⟩
def spRows (C : Addr) : Sp := fun vs H Q _ => ∃ (p : Addr) (a b c e : Int), vs = [.ref p] ∧ TabAt C H p a b c e ∧ ∀ t, CellsAt H t a b c e → Q (.ref t) H
theorem ok_Table_rows (T : Txt K mg) : FnOk P w K mg base CX0 1 T.f_Table_rows T.d_Table_rows ["self"] (spRows T.C_Table) := by
  refine T.F_Table_rows.ok sc_Table_rows (fun vs H Q E h => ?_) (fun cdv A outer s H vs Q E hr h => ?_)
  · obtain ⟨p, a, b, c, e, rfl, _⟩ := h
    rfl
  · obtain ⟨p, a, b, c, e, rfl, ⟨dx, t, hp, ht⟩, q⟩ := h
    exact ⟨_, (pss_one (ps_ret (pe_fld (pv 0) rfl))), _, rfl, p, T.C_Table, dx, _, _, rfl, hp, T.cl_Table, T.n_Table_cells, rfl, q t ht⟩
end
/-! ### bounds -/
def Bd (n : Nat) (xs : List Int) : Prop := ∀ x ∈ xs, x.natAbs < 2 ^ n
theorem bd_w {n m : Nat} {x : Int} (h : x.natAbs < 2 ^ n) (l : n ≤ m) : x.natAbs < 2 ^ m := Nat.lt_of_lt_of_le h (Nat.pow_le_pow_right (by decide) l)
theorem bd_a {n : Nat} {x y : Int} (h1 : x.natAbs < 2 ^ n) (h2 : y.natAbs < 2 ^ n) : (x + y).natAbs < 2 ^ (n + 1) := by
  rw [Nat.pow_succ]
  omega
/-! ### area, determinant -/
section
variable {base : Heap} {K : PySem.W.Frag} {mg : Str → Option Value} {P : Program} {w : World}
def spArea (C : Addr) : Sp := fun vs H Q _ => ∃ (p : Addr) (a b c e d : Int), vs = [.ref p, .int d] ∧ TabAt C H p a b c e ∧ -(2 ^ 64) < d ∧ d < 2 ^ 64 ∧ NewPair H (a + d * e) (b + c) Q
theorem ok_Table_area_for (T : Txt K mg) : FnOk P w K mg base CX0 1 T.f_Table_area_for T.d_Table_area_for ["self", "root"] (spArea T.C_Table) := by
  refine T.F_Table_area_for.ok sc_Table_area_for (fun vs H Q E h => ?_) (fun cdv A outer s H vs Q E hr h => ?_)
  · obtain ⟨p, a, b, c, e, d, rfl, _⟩ := h
    rfl
  · obtain ⟨p, a, b, c, e, d, rfl, ⟨dx, t, hp, u, v, ht, hu, hv⟩, d1, d2, q⟩ := h
    refine ⟨_, (pss_cons (ps_asg (pe_fld (pv 0) rfl) (pg_tup (by rfl) (pgs_cons (pg_tup (by rfl) (pgs_cons (pg_name (i := 2) sc_Table_area_for.nd rfl (Or.inl rfl)) (pgs_cons (pg_name (i := 3) sc_Table_area_for.nd rfl (Or.inl rfl)) pgs_nil))) (pgs_cons (pg_tup (by rfl) (pgs_cons (pg_name (i := 4) sc_Table_area_for.nd rfl (Or.inl rfl)) (pgs_cons (pg_name (i := 5) sc_Table_area_for.nd rfl (Or.inl rfl)) pgs_nil))) pgs_nil))))
      (pss_one (ps_ret (pe_tup (pa_cons (pe_op op_add (pv 2) (pe_op op_mul (pv 1) (pv 5))) (pa_cons (pe_op op_add (pv 3) (pv 4)) pa_nil)))))), ?_⟩
    refine ⟨_, rfl, p, T.C_Table, dx, _, _, rfl, hp, T.cl_Table, T.n_Table_cells, rfl, t, _, rfl, SqT.of ht, rfl, .ref u, _, rfl, u, _, rfl, SqT.of hu, rfl, .int a, _, rfl, .int b, _, rfl, rfl, .ref v, _, rfl, v, _, rfl, SqT.of hv, rfl, .int c, _, rfl, .int e, _, rfl, rfl, rfl, ?_⟩
    exact ⟨_, rfl, _, rfl, _, rfl, d, e, rfl, rfl, .inl ⟨d1, d2⟩, a, _, rfl, rfl, _, rfl, _, rfl, b, c, rfl, rfl, by show 2 ≤ sizeLine; decide, fun p hp => q p _ hp (same_new hp) upd_same⟩
end
/-! ### outer -/
section
variable {base : Heap} {K : PySem.W.Frag} {mg : Str → Option Value} {P : Program} {w : World}
def NewTab (C : Addr) (H : Hp) (a b c e : Int) (Q : VK) : Prop := ∀ x H', H x = none → Same H H' → TabAt C H' x a b c e → Q (.ref x) H'
def spOuter (K : PySem.W.Frag) (C : Addr) : Sp := fun vs H Q _ => ∃ (u v : V) (a b c e : Int), vs = [u, v] ∧ PairAt K H u a b ∧ PairAt K H v c e ∧ Bd 9000 [a, b, c, e] ∧ NewTab C H (c * a) (e * a) (c * b) (e * b) Q
theorem ok_outer (T : Txt K mg) : FnOk P w K mg base CX0 3 T.f_outer T.d_outer ["one", "other"] (spOuter K T.C_Table) := by
  refine T.F_outer.ok sc_outer (fun vs H Q E h => ?_) (fun cdv A outer s H vs Q E hr h => ?_)
  · obtain ⟨u, v, a, b, c, e, rfl, _⟩ := h
    rfl
  · obtain ⟨u, v, a, b, c, e, rfl, ⟨t, rfl, ht⟩, ⟨t2, rfl, ht2⟩, bd, q⟩ := h
    have ba := bd a (by simp)
    have bb := bd b (by simp)
    have bc := bd c (by simp)
    have be := bd e (by simp)
    refine ⟨_, (pss_cons (ps_asg (pv 0) (pg_tup (by rfl) (pgs_cons (pg_name (i := 2) sc_outer.nd rfl (Or.inl rfl)) (pgs_cons (pg_name (i := 3) sc_outer.nd rfl (Or.inl rfl)) pgs_nil))))
      (pss_one (ps_ret (pe_make T.M_Table (ok_Table_init T) (hr.mono (by decide)) (by rfl) T.g_Table T.b_Table_init .nil pass0 (pa_cons (pe_tup (pa_cons (pe_call (ok_scaled T) (hr.mono (by decide)) (by rfl) T.g_scaled T.F_scaled.kp T.b_scaled .nil pass0 (pa_cons (pv 1) (pa_cons (pv 2) pa_nil))) (pa_cons (pe_call (ok_scaled T) (hr.mono (by decide)) (by rfl) T.g_scaled T.F_scaled.kp T.b_scaled .nil pass0 (pa_cons (pv 1) (pa_cons (pv 3) pa_nil))) pa_nil))) pa_nil))))), ?_⟩
    refine ⟨_, rfl, t, _, rfl, ht, rfl, .int a, _, rfl, .int b, _, rfl, rfl, ?_⟩
    refine ⟨_, rfl, _, rfl, _, c, e, a, rfl, ⟨t2, rfl, ht2⟩, bc, be, ba, fun p1 H1 n1 e1 f1 => ?_⟩
    refine ⟨_, rfl, _, rfl, _, c, e, b, rfl, ⟨t2, rfl, Evl.ex_t e1 ht2⟩, bc, be, bb, fun p2 H2 n2 e2 f2 => ?_⟩
    refine ⟨by show 2 ≤ sizeLine; decide, fun p3 n3 => ?_⟩
    have e3 := same_new (o := .tup [.ref p1, .ref p2]) n3
    refine mk_tab (K := K) ⟨p3, p1, p2, rfl, SqT.of upd_same, SqT.of ((e2.trans e3) _ _ f1), SqT.of (e3 _ _ f2)⟩ fun x H' nx sx hx => ?_
    exact q x H' ((e1.trans (e2.trans e3)).free nx) ((e1.trans (e2.trans e3)).trans sx) hx
end
/-! ### the signs of tables -/
theorem eqv4 (a b c e a' b' c' e' : Int) : PyData.eqv (.tuple [.tuple [.int a, .int b], .tuple [.int c, .int e]]) (.tuple [.tuple [.int a', .int b'], .tuple [.int c', .int e']]) = decide (a = a' ∧ b = b' ∧ c = c' ∧ e = e') := by
  simp [PyData.eqv, PyData.eqvAll]
  first | rfl | (by_cases h1 : a = a' <;> by_cases h2 : b = b' <;> by_cases h3 : c = c' <;> by_cases h4 : e = e' <;> simp [h1, h2, h3, h4])
theorem CellsAt.dp {K : PySem.W.Frag} {H : Hp} {t : Addr} {a b c e : Int} (h : CellsAt H t a b c e) : Dp K H (.ref t) (.tuple [.tuple [.int a, .int b], .tuple [.int c, .int e]]) := by
  obtain ⟨u, v, h1, h2, h3⟩ := h
  exact .tup (SqT.of h1) (.cons (.tup (SqT.of h2) (.cons (.int a) (.cons (.int b) .nil))) (.cons (.tup (SqT.of h3) (.cons (.int c) (.cons (.int e) .nil))) .nil))
section
variable {base : Heap} {K : PySem.W.Frag} {mg : Str → Option Value} {P : Program} {w : World}
def spAdd (C : Addr) : Sp := fun vs H Q _ => ∃ (p q : Addr) (a b c e a' b' c' e' : Int), vs = [.ref p, .ref q] ∧ TabAt C H p a b c e ∧ TabAt C H q a' b' c' e' ∧ NewTab C H (a + a') (b + b') (c + c') (e + e') Q
theorem ok_Table_add (T : Txt K mg) : FnOk P w K mg base CX0 3 T.f_Table_add T.d_Table_add ["self", "other"] (spAdd T.C_Table) := by
  refine T.F_Table_add.ok sc_Table_add (fun vs H Q E h => ?_) (fun cdv A outer s H vs Q E hr h => ?_)
  · obtain ⟨p, q, a, b, c, e, a', b', c', e', rfl, _⟩ := h
    rfl
  · obtain ⟨p, q, a, b, c, e, a', b', c', e', rfl, ⟨dx, t, hp, u, v, ht, hu, hv⟩, ⟨dy, t', hq, u', v', ht', hu', hv'⟩, k⟩ := h
    refine ⟨_, (pss_cons (ps_asg (pe_fld (pv 0) rfl) (pg_tup (by rfl) (pgs_cons (pg_name (i := 2) sc_Table_add.nd rfl (Or.inl rfl)) (pgs_cons (pg_name (i := 3) sc_Table_add.nd rfl (Or.inl rfl)) pgs_nil))))
      (pss_cons (ps_asg (pe_fld (pv 1) rfl) (pg_tup (by rfl) (pgs_cons (pg_name (i := 4) sc_Table_add.nd rfl (Or.inl rfl)) (pgs_cons (pg_name (i := 5) sc_Table_add.nd rfl (Or.inl rfl)) pgs_nil))))
      (pss_one (ps_ret (pe_make T.M_Table (ok_Table_init T) (hr.mono (by decide)) (by rfl) T.g_Table T.b_Table_init .nil pass0 (pa_cons (pe_tup (pa_cons (pe_callR (ok_added T) (hr.mono (by decide)) (by rfl) T.g_added T.F_added.kp pass0 (pa_cons (pv 2) (pa_cons (pv 4) pa_nil))) (pa_cons (pe_callR (ok_added T) (hr.mono (by decide)) (by rfl) T.g_added T.F_added.kp pass0 (pa_cons (pv 3) (pa_cons (pv 5) pa_nil))) pa_nil))) pa_nil)))))), ?_⟩
    refine ⟨_, rfl, p, T.C_Table, dx, _, _, rfl, hp, T.cl_Table, T.n_Table_cells, rfl, t, _, rfl, SqT.of ht, rfl, .ref u, _, rfl, .ref v, _, rfl, rfl, ?_⟩
    refine ⟨_, rfl, q, T.C_Table, dy, _, _, rfl, hq, T.cl_Table, T.n_Table_cells, rfl, t', _, rfl, SqT.of ht', rfl, .ref u', _, rfl, .ref v', _, rfl, rfl, ?_⟩
    refine ⟨_, rfl, _, rfl, [(a, b), (a', b')], .cons ⟨u, rfl, SqT.of hu⟩ (.cons ⟨u', rfl, SqT.of hu'⟩ .nil), by simp, fun p1 H1 n1 e1 f1 => ?_⟩
    refine ⟨_, rfl, _, rfl, [(c, e), (c', e')], .cons ⟨v, rfl, SqT.of (e1 _ _ hv)⟩ (.cons ⟨v', rfl, SqT.of (e1 _ _ hv')⟩ .nil), by simp, fun p2 H2 n2 e2 f2 => ?_⟩
    rw [show Gy.s1 [(a, b), (a', b')] = a + a' by simp [Gy.s1], show Gy.s2 [(a, b), (a', b')] = b + b' by simp [Gy.s2]] at f1
    rw [show Gy.s1 [(c, e), (c', e')] = c + c' by simp [Gy.s1], show Gy.s2 [(c, e), (c', e')] = e + e' by simp [Gy.s2]] at f2
    refine ⟨by show 2 ≤ sizeLine; decide, fun p3 n3 => ?_⟩
    have e3 := same_new (o := .tup [.ref p1, .ref p2]) n3
    refine mk_tab (K := K) ⟨p3, p1, p2, rfl, SqT.of upd_same, SqT.of ((e2.trans e3) _ _ f1), SqT.of (e3 _ _ f2)⟩ fun x H' nx sx hx => ?_
    exact k x H' ((e1.trans (e2.trans e3)).free nx) ((e1.trans (e2.trans e3)).trans sx) hx
def spMul (C : Addr) : Sp := fun vs H Q _ => ∃ (p : Addr) (a b c e n : Int), vs = [.ref p, .int n] ∧ TabAt C H p a b c e ∧ Bd 9000 [a, b, c, e, n] ∧ NewTab C H (a * n) (b * n) (c * n) (e * n) Q
theorem ok_Table_mul (T : Txt K mg) : FnOk P w K mg base CX0 3 T.f_Table_mul T.d_Table_mul ["self", "other"] (spMul T.C_Table) := by
  refine T.F_Table_mul.ok sc_Table_mul (fun vs H Q E h => ?_) (fun cdv A outer s H vs Q E hr h => ?_)
  · obtain ⟨p, a, b, c, e, n, rfl, _⟩ := h
    rfl
  · obtain ⟨p, a, b, c, e, n, rfl, ⟨dx, t, hp, u, v, ht, hu, hv⟩, bd, k⟩ := h
    have ba := bd a (by simp)
    have bb := bd b (by simp)
    have bc := bd c (by simp)
    have be := bd e (by simp)
    have bn := bd n (by simp)
    refine ⟨_, (pss_cons (ps_asg (pe_fld (pv 0) rfl) (pg_tup (by rfl) (pgs_cons (pg_name (i := 2) sc_Table_mul.nd rfl (Or.inl rfl)) (pgs_cons (pg_name (i := 3) sc_Table_mul.nd rfl (Or.inl rfl)) pgs_nil))))
      (pss_one (ps_ret (pe_make T.M_Table (ok_Table_init T) (hr.mono (by decide)) (by rfl) T.g_Table T.b_Table_init .nil pass0 (pa_cons (pe_tup (pa_cons (pe_call (ok_scaled T) (hr.mono (by decide)) (by rfl) T.g_scaled T.F_scaled.kp T.b_scaled .nil pass0 (pa_cons (pv 2) (pa_cons (pv 1) pa_nil))) (pa_cons (pe_call (ok_scaled T) (hr.mono (by decide)) (by rfl) T.g_scaled T.F_scaled.kp T.b_scaled .nil pass0 (pa_cons (pv 3) (pa_cons (pv 1) pa_nil))) pa_nil))) pa_nil))))), ?_⟩
    refine ⟨_, rfl, p, T.C_Table, dx, _, _, rfl, hp, T.cl_Table, T.n_Table_cells, rfl, t, _, rfl, SqT.of ht, rfl, .ref u, _, rfl, .ref v, _, rfl, rfl, ?_⟩
    refine ⟨_, rfl, _, rfl, _, a, b, n, rfl, ⟨u, rfl, SqT.of hu⟩, ba, bb, bn, fun p1 H1 n1 e1 f1 => ?_⟩
    refine ⟨_, rfl, _, rfl, _, c, e, n, rfl, ⟨v, rfl, SqT.of (e1 _ _ hv)⟩, bc, be, bn, fun p2 H2 n2 e2 f2 => ?_⟩
    refine ⟨by show 2 ≤ sizeLine; decide, fun p3 n3 => ?_⟩
    have e3 := same_new (o := .tup [.ref p1, .ref p2]) n3
    refine mk_tab (K := K) ⟨p3, p1, p2, rfl, SqT.of upd_same, SqT.of ((e2.trans e3) _ _ f1), SqT.of (e3 _ _ f2)⟩ fun x H' nx sx hx => ?_
    exact k x H' ((e1.trans (e2.trans e3)).free nx) ((e1.trans (e2.trans e3)).trans sx) hx
def spNeg (C : Addr) : Sp := fun vs H Q _ => ∃ (p : Addr) (a b c e : Int), vs = [.ref p] ∧ TabAt C H p a b c e ∧ Bd 9000 [a, b, c, e] ∧ NewTab C H (-a) (-b) (-c) (-e) Q
theorem Bd.nil {n : Nat} : Bd n [] := fun _ h => nomatch h
theorem Bd.cons {n : Nat} {x : Int} {xs : List Int} (h : x.natAbs < 2 ^ n) (t : Bd n xs) : Bd n (x :: xs) := fun y hy => by
  rcases List.mem_cons.mp hy with rfl | e
  · exact h
  · exact t y e
theorem Bd.b4 {n : Nat} {a b c e : Int} (h : Bd n [a, b, c, e]) : a.natAbs < 2 ^ n ∧ b.natAbs < 2 ^ n ∧ c.natAbs < 2 ^ n ∧ e.natAbs < 2 ^ n := ⟨h a (by simp), h b (by simp), h c (by simp), h e (by simp)⟩
theorem mk4 {n : Nat} {a b c e : Int} (h1 : a.natAbs < 2 ^ n) (h2 : b.natAbs < 2 ^ n) (h3 : c.natAbs < 2 ^ n) (h4 : e.natAbs < 2 ^ n) : Bd n [a, b, c, e] := .cons h1 (.cons h2 (.cons h3 (.cons h4 .nil)))
theorem mk5 {n : Nat} {a b c e x : Int} (h : Bd n [a, b, c, e]) (h5 : x.natAbs < 2 ^ n) : Bd n [a, b, c, e, x] := by
  obtain ⟨h1, h2, h3, h4⟩ := h.b4
  exact .cons h1 (.cons h2 (.cons h3 (.cons h4 (.cons h5 .nil))))
theorem one_bd {n : Nat} (h : 1 ≤ n) : (1 : Int).natAbs < 2 ^ n := Nat.lt_of_lt_of_le (show 1 < 2 ^ 1 by decide) (Nat.pow_le_pow_right (by decide) h)
theorem ok_Table_neg (T : Txt K mg) : FnOk P w K mg base CX0 4 T.f_Table_neg T.d_Table_neg ["self"] (spNeg T.C_Table) := by
  refine T.F_Table_neg.ok sc_Table_neg (fun vs H Q E h => ?_) (fun cdv A outer s H vs Q E hr h => ?_)
  · obtain ⟨p, a, b, c, e, rfl, _⟩ := h
    rfl
  · obtain ⟨p, a, b, c, e, rfl, hT, bd, k⟩ := h
    obtain ⟨dx, t, hp, _⟩ := id hT
    refine ⟨_, (pss_one (ps_ret (pe_op (op_binI T.m_Table_mul T.sf_Table T.x_Table_rmul T.i_mul T.i_rmul T.is_Table (ok_Table_mul T) (hr.mono (by decide)) T.b_Table_mul pass0) (pv 0) (pe_un un_neg pe_int)))), ?_⟩
    refine ⟨_, rfl, 1, rfl, p, dx, _, -1, rfl, rfl, hp, p, a, b, c, e, -1, rfl, hT, mk5 bd (by simpa using one_bd (by decide)), fun x H' nx sx hx => k x H' nx sx ?_⟩
    simpa using hx
def spSub (C : Addr) : Sp := fun vs H Q _ => ∃ (p q : Addr) (a b c e a' b' c' e' : Int), vs = [.ref p, .ref q] ∧ TabAt C H p a b c e ∧ TabAt C H q a' b' c' e' ∧ Bd 9000 [a', b', c', e'] ∧ NewTab C H (a - a') (b - b') (c - c') (e - e') Q
theorem ok_Table_sub (T : Txt K mg) : FnOk P w K mg base CX0 5 T.f_Table_sub T.d_Table_sub ["self", "other"] (spSub T.C_Table) := by
  refine T.F_Table_sub.ok sc_Table_sub (fun vs H Q E h => ?_) (fun cdv A outer s H vs Q E hr h => ?_)
  · obtain ⟨p, q, a, b, c, e, a', b', c', e', rfl, _⟩ := h
    rfl
  · obtain ⟨p, q, a, b, c, e, a', b', c', e', rfl, hT, hU, bd, k⟩ := h
    obtain ⟨dx, t, hp, _⟩ := id hT
    obtain ⟨dy, t', hq, _⟩ := id hU
    refine ⟨_, (pss_one (ps_ret (pe_op (op_bin T.m_Table_add T.sf_Table (ok_Table_add T) (hr.mono (by decide)) T.b_Table_add pass0) (pv 0) (pe_un (un_own T.m_Table_neg (ok_Table_neg T) (hr.mono (by decide)) T.b_Table_neg pass0) (pv 1))))), ?_⟩
    refine ⟨_, rfl, _, rfl, q, dy, _, rfl, hq, q, a', b', c', e', rfl, hU, bd, fun x H1 n1 e1 hx => ?_⟩
    obtain ⟨dz, tz, hz, _⟩ := id hx
    refine ⟨p, dx, _, x, dz, _, rfl, rfl, e1 _ _ hp, hz, p, x, a, b, c, e, -a', -b', -c', -e', rfl, hT.same e1, hx, fun y H2 n2 e2 hy => k y H2 (e1.free n2) (e1.trans e2) ?_⟩
    simpa [Int.sub_eq_add_neg] using hy
def spEqT (K : PySem.W.Frag) (C : Addr) : Sp := fun vs H Q _ => ∃ (p : Addr) (y : V) (a b c e : Int), vs = [.ref p, y] ∧ TabAt C H p a b c e ∧
  ((∃ (q : Addr) (a' b' c' e' : Int), y = .ref q ∧ TabAt C H q a' b' c' e' ∧ Q (.bl (decide (a = a' ∧ b = b' ∧ c = c' ∧ e = e'))) H) ∨ (∃ t, TyX K H y t ∧ PySem.W.kitOne K t (.ref C) = some false ∧ Q (.bl false) H))
theorem ok_Table_eq (T : Txt K mg) : FnOk P w K mg base CX0 1 T.f_Table_eq T.d_Table_eq ["self", "other"] (spEqT K T.C_Table) := by
  refine T.F_Table_eq.ok sc_Table_eq (fun vs H Q E h => ?_) (fun cdv A outer s H vs Q E hr h => ?_)
  · obtain ⟨p, y, a, b, c, e, rfl, _⟩ := h
    rfl
  · obtain ⟨p, y, a, b, c, e, rfl, ⟨dx, t, hp, hc⟩, h⟩ := h
    refine ⟨_, (pss_one (ps_ret (pe_and (pe_callB call_isi (by rfl) T.n_isinstance (by decide +kernel) (pa_cons (pv 1) (pa_cons (pe_glob (v := .ref T.C_Table) (by rfl) T.g_Table rfl) pa_nil))) (pe_one (pe_cmpR (op_eqD hr.units) (pe_fld (pv 0) rfl) (pe_fld (pv 1) rfl) (nomark _)))))), ?_⟩
    rcases h with ⟨q, a', b', c', e', rfl, ⟨dy, t', hq, hc'⟩, k⟩ | ⟨ty, h1, h2, k⟩
    · refine ⟨_, rfl, .ref q, .ref T.C_Table, .ref T.C_Table, .ref T.C_Table, true, rfl, ClsV.own _, TyX.base (TyOf.ins hq T.cl_Table T.ca_Table T.hn T.ht T.mo_Table), by simp [PySem.W.kitOne], true, rfl, iteT ?_⟩
      refine ⟨_, rfl, p, T.C_Table, dx, _, _, rfl, hp, T.cl_Table, T.n_Table_cells, rfl, _, rfl, q, T.C_Table, dy, _, _, rfl, hq, T.cl_Table, T.n_Table_cells, rfl, _, _, hc.dp, hc'.dp, rfl, rfl, ?_⟩
      rw [eqv4]
      exact k
    · exact ⟨_, rfl, y, .ref T.C_Table, ty, .ref T.C_Table, false, rfl, ClsV.own _, h1, h2, false, rfl, iteF k⟩
def spBoolT (C : Addr) : Sp := fun vs H Q _ => ∃ (p : Addr) (a b c e : Int), vs = [.ref p] ∧ TabAt C H p a b c e ∧ ∀ H', Same H H' → Q (.bl ([a, b, c, e].any fun i => i != 0)) H'
theorem ok_Table_bool (T : Txt K mg) : FnOk P w K mg base CX0 1 T.f_Table_bool T.d_Table_bool ["self"] (spBoolT T.C_Table) := by
  refine T.F_Table_bool.ok sc_Table_bool (fun vs H Q E h => ?_) (fun cdv A outer s H vs Q E hr h => ?_)
  · obtain ⟨p, a, b, c, e, rfl, _⟩ := h
    rfl
  · obtain ⟨p, a, b, c, e, rfl, ⟨dx, t, hp, u, v, ht, hu, hv⟩, q⟩ := h
    refine ⟨_, (pss_cons (ps_asg (pe_fld (pv 0) rfl) (pg_tup (by rfl) (pgs_cons (pg_tup (by rfl) (pgs_cons (pg_name (i := 1) sc_Table_bool.nd rfl (Or.inl rfl)) (pgs_cons (pg_name (i := 2) sc_Table_bool.nd rfl (Or.inl rfl)) pgs_nil))) (pgs_cons (pg_tup (by rfl) (pgs_cons (pg_name (i := 3) sc_Table_bool.nd rfl (Or.inl rfl)) (pgs_cons (pg_name (i := 4) sc_Table_bool.nd rfl (Or.inl rfl)) pgs_nil))) pgs_nil))))
      (pss_one (ps_ret (pe_callB (cr_anyI rfl) (by rfl) T.n_any (by decide +kernel) (pa_cons (pe_lst (pa_cons (pv 1) (pa_cons (pv 2) (pa_cons (pv 3) (pa_cons (pv 4) pa_nil))))) pa_nil))))), ?_⟩
    refine ⟨_, rfl, p, T.C_Table, dx, _, _, rfl, hp, T.cl_Table, T.n_Table_cells, rfl, t, _, rfl, SqT.of ht, rfl, .ref u, _, rfl, u, _, rfl, SqT.of hu, rfl, .int a, _, rfl, .int b, _, rfl, rfl, .ref v, _, rfl, v, _, rfl, SqT.of hv, rfl, .int c, _, rfl, .int e, _, rfl, rfl, rfl, ?_⟩
    exact ⟨_, rfl, _, rfl, _, rfl, _, rfl, by show 4 ≤ sizeLine; decide, fun l hl => ⟨l, [a, b, c, e], rfl, SqL.of upd_same, q _ (same_new hl)⟩⟩
end
/-! ### the signs, used -/
theorem Dflt.cells {K : PySem.W.Frag} {H : Hp} {r : Addr} (h : Dflt K r) : CellsK K H (.ref r) 0 0 0 0 := by
  obtain ⟨a, b, c⟩ := h
  exact ⟨_, _, _, rfl, .inr ⟨_, _, _, a, rfl, rfl, by show 2 ≤ sizeLine; decide, .cons rfl (.cons rfl .nil)⟩, .inr ⟨_, _, _, b, rfl, rfl, by show 2 ≤ sizeLine; decide, .cons ⟨_, rfl⟩ (.cons ⟨_, rfl⟩ .nil)⟩, .inr ⟨_, _, _, c, rfl, rfl, by show 2 ≤ sizeLine; decide, .cons ⟨_, rfl⟩ (.cons ⟨_, rfl⟩ .nil)⟩⟩
theorem wn {x : Int} (h : x.natAbs ≤ 10 ^ 18) : x.natAbs < 2 ^ 60 := Nat.lt_of_le_of_lt h (by decide)
theorem nc : ∀ {t : Addr} {m : Str}, ¬ m = "cells" → ([(("cells" : Str), V.ref t)] : List (Str × V)).lookup m = none := by
  intro t m h
  rw [List.lookup_cons, show (m == "cells") = false from beq_eq_false_iff_ne.mpr h]
  rfl
theorem Bd.up {n m : Nat} {xs : List Int} (h : Bd n xs) (l : n ≤ m) : Bd m xs := fun x hx => bd_w (h x hx) l
theorem Bd.add {n : Nat} {a b c e a' b' c' e' : Int} (h : Bd n [a, b, c, e]) (h' : Bd n [a', b', c', e']) : Bd (n + 1) [a + a', b + b', c + c', e + e'] := by
  obtain ⟨h1, h2, h3, h4⟩ := h.b4
  obtain ⟨k1, k2, k3, k4⟩ := h'.b4
  exact mk4 (bd_a h1 k1) (bd_a h2 k2) (bd_a h3 k3) (bd_a h4 k4)
theorem Bd.sub {n : Nat} {a b c e a' b' c' e' : Int} (h : Bd n [a, b, c, e]) (h' : Bd n [a', b', c', e']) : Bd (n + 1) [a - a', b - b', c - c', e - e'] := by
  obtain ⟨h1, h2, h3, h4⟩ := h.b4
  obtain ⟨k1, k2, k3, k4⟩ := h'.b4
  have g : ∀ x y : Int, x.natAbs < 2 ^ n → y.natAbs < 2 ^ n → (x - y).natAbs < 2 ^ (n + 1) := fun x y hx hy => by
    rw [Nat.pow_succ]
    omega
  exact mk4 (g _ _ h1 k1) (g _ _ h2 k2) (g _ _ h3 k3) (g _ _ h4 k4)
theorem Bd.mul {n m : Nat} {a b c e x : Int} (h : Bd n [a, b, c, e]) (hx : x.natAbs < 2 ^ m) : Bd (n + m) [a * x, b * x, c * x, e * x] := by
  obtain ⟨h1, h2, h3, h4⟩ := h.b4
  exact mk4 (wide_lt h1 hx) (wide_lt h2 hx) (wide_lt h3 hx) (wide_lt h4 hx)
section
variable {K : PySem.W.Frag} {C : Addr} {H : Hp} {E : XK} {Q : VK} {p q : Addr} {a b c e a' b' c' e' n : Int}
theorem add_do (hX : TabAt C H p a b c e) (hY : TabAt C H q a' b' c' e') (k : NewTab C H (a + a') (b + b') (c + c') (e + e') Q) : rOwn2 C (spAdd C) E (.ref p) (.ref q) H Q := by
  obtain ⟨dx, t, hp, _⟩ := id hX
  obtain ⟨dy, t', hq, _⟩ := id hY
  exact ⟨p, dx, _, q, dy, _, rfl, rfl, hp, hq, p, q, a, b, c, e, a', b', c', e', rfl, hX, hY, k⟩
theorem sub_do {m : Nat} (hX : TabAt C H p a b c e) (hY : TabAt C H q a' b' c' e') (bd : Bd m [a', b', c', e']) (hm : m ≤ 9000) (k : NewTab C H (a - a') (b - b') (c - c') (e - e') Q) : rOwn2 C (spSub C) E (.ref p) (.ref q) H Q := by
  obtain ⟨dx, t, hp, _⟩ := id hX
  obtain ⟨dy, t', hq, _⟩ := id hY
  exact ⟨p, dx, _, q, dy, _, rfl, rfl, hp, hq, p, q, a, b, c, e, a', b', c', e', rfl, hX, hY, bd.up hm, k⟩
theorem mul_do {m : Nat} (hX : TabAt C H p a b c e) (bd : Bd m [a, b, c, e]) (bn : n.natAbs < 2 ^ 9000) (hm : m ≤ 9000) (k : NewTab C H (a * n) (b * n) (c * n) (e * n) Q) : rOwnI C (spMul C) E (.ref p) (.int n) H Q := by
  obtain ⟨dx, t, hp, _⟩ := id hX
  exact ⟨p, dx, _, n, rfl, rfl, hp, p, a, b, c, e, n, rfl, hX, mk5 (bd.up hm) bn, k⟩
theorem neg_do {m : Nat} (hX : TabAt C H p a b c e) (bd : Bd m [a, b, c, e]) (hm : m ≤ 9000) (k : NewTab C H (-a) (-b) (-c) (-e) Q) : rOwn1 C (spNeg C) E (.ref p) H Q := by
  obtain ⟨dx, t, hp, _⟩ := id hX
  exact ⟨p, dx, _, rfl, hp, p, a, b, c, e, rfl, hX, bd.up hm, k⟩
theorem neq_do (hX : TabAt C H p a b c e) (hY : TabAt C H q a' b' c' e') (k : Q (.bl (!decide (a = a' ∧ b = b' ∧ c = c' ∧ e = e'))) H) : rOwnN C (spEqT K C) E (.ref p) (.ref q) H Q := by
  obtain ⟨dx, t, hp, _⟩ := id hX
  obtain ⟨dy, t', hq, _⟩ := id hY
  exact ⟨p, dx, _, q, dy, _, rfl, rfl, hp, hq, p, .ref q, a, b, c, e, rfl, hX, .inl ⟨q, a', b', c', e', rfl, hY, _, rfl, k⟩⟩
theorem ne_do (hX : TabAt C H p a b c e) (hY : TabAt C H q a' b' c' e') (e1 : a = a') (e2 : b = b') (e3 : c = c') (e4 : e = e') (k : Q (.bl false) H) : rOwnN C (spEqT K C) E (.ref p) (.ref q) H Q := by
  refine neq_do hX hY ?_
  rw [decide_eq_true ⟨e1, e2, e3, e4⟩]
  exact k
theorem eq_do (hX : TabAt C H p a b c e) (hY : TabAt C H q a' b' c' e') (k : Q (.bl (decide (a = a' ∧ b = b' ∧ c = c' ∧ e = e'))) H) : rOwn2 C (spEqT K C) E (.ref p) (.ref q) H Q := by
  obtain ⟨dx, t, hp, _⟩ := id hX
  obtain ⟨dy, t', hq, _⟩ := id hY
  exact ⟨p, dx, _, q, dy, _, rfl, rfl, hp, hq, p, .ref q, a, b, c, e, rfl, hX, .inl ⟨q, a', b', c', e', rfl, hY, k⟩⟩
theorem bool_do (hX : TabAt C H p a b c e) (k : ∀ H', Same H H' → Q (.bl ([a, b, c, e].any fun i => i != 0)) H') : rBoolO C (spBoolT C) E [.ref p] H Q := by
  obtain ⟨dx, t, hp, _⟩ := id hX
  exact ⟨p, dx, _, rfl, hp, p, a, b, c, e, rfl, hX, fun H' s => ⟨_, rfl, k H' s⟩⟩
end
theorem any4 (a b c e a' b' c' e' : Int) : ([a - a', b - b', c - c', e - e'].any fun i => i != 0) = !decide (a = a' ∧ b = b' ∧ c = c' ∧ e = e') := by
  have h : ∀ x y : Int, (x - y != 0) = !decide (x = y) := fun x y => by
    by_cases h : x = y
    · subst h
      simp
    · have : x - y ≠ 0 := fun z => h (by omega)
      simp [h, this]
  simp only [List.any_cons, List.any_nil, h, Bool.or_false]
  by_cases h1 : a = a' <;> by_cases h2 : b = b' <;> by_cases h3 : c = c' <;> by_cases h4 : e = e' <;> simp [h1, h2, h3, h4]
/-- tables that were drawn -/
inductive Tabs (C : Addr) (H : Hp) : List V → List (Int × Int × Int × Int) → Prop
  | nil : Tabs C H [] []
  | cons {p : Addr} {vs : List V} {a b c e : Int} {ts : List (Int × Int × Int × Int)} : TabAt C H p a b c e → Bd 60 [a, b, c, e] → Tabs C H vs ts → Tabs C H (.ref p :: vs) ((a, b, c, e) :: ts)
theorem Tabs.inv {C : Addr} {H : Hp} {v : V} {vs : List V} {ts : List (Int × Int × Int × Int)} (h : Tabs C H (v :: vs) ts) : ∃ (p : Addr) (a b c e : Int) (ts' : List (Int × Int × Int × Int)), v = .ref p ∧ ts = (a, b, c, e) :: ts' ∧ TabAt C H p a b c e ∧ Bd 60 [a, b, c, e] ∧ Tabs C H vs ts' := by
  cases h with
  | cons h b t => exact ⟨_, _, _, _, _, _, rfl, rfl, h, b, t⟩
theorem Tabs.mono {C : Addr} {H H' : Hp} (k : ∀ p a b c e, TabAt C H p a b c e → TabAt C H' p a b c e) : ∀ {vs : List V} {ts : List (Int × Int × Int × Int)}, Tabs C H vs ts → Tabs C H' vs ts
  | _, _, .nil => .nil
  | _, _, .cons h b t => .cons (k _ _ _ _ _ h) b (t.mono k)
theorem Tabs.snoc {C : Addr} {H : Hp} {p : Addr} {a b c e : Int} (h : TabAt C H p a b c e) (bd : Bd 60 [a, b, c, e]) : ∀ {vs : List V} {ts : List (Int × Int × Int × Int)}, Tabs C H vs ts → Tabs C H (vs ++ [.ref p]) (ts ++ [(a, b, c, e)])
  | _, _, .nil => .cons h bd .nil
  | _, _, .cons h' b' t => .cons h' b' (t.snoc h bd)
theorem TabAt.put {C : Addr} {H : Hp} {p l : Addr} {a b c e : Int} {ys zs : List V} (hl : H l = some (.lst ys)) (h : TabAt C H p a b c e) : TabAt C (upd H l (.lst zs)) p a b c e := by
  obtain ⟨dx, t, h1, u, v, h2, h3, h4⟩ := h
  exact ⟨dx, t, (upd_ne (ne_of h1 hl (by intro z; cases z))).trans h1, u, v, (upd_ne (ne_of h2 hl (by intro z; cases z))).trans h2, (upd_ne (ne_of h3 hl (by intro z; cases z))).trans h3, (upd_ne (ne_of h4 hl (by intro z; cases z))).trans h4⟩
theorem dpair {K : PySem.W.Frag} {H : Hp} {p : Addr} {x y : Int} (h : H p = some (.tup [.int x, .int y])) : Dp K H (.ref p) (.tuple [.int x, .int y]) := .tup (SqT.of h) (.cons (.int x) (.cons (.int y) .nil))
theorem eqv2 (a b c e : Int) : PyData.eqv (.tuple [.int a, .int b]) (.tuple [.int c, .int e]) = (decide (a = c) && decide (b = e)) := by
  simp [PyData.eqv, PyData.eqvAll]
  first | rfl | (by_cases h1 : a = c <;> by_cases h2 : b = e <;> simp [h1, h2])
theorem ne_pair {a b c e : Int} (h1 : a = c) (h2 : b = e) : (!PyData.eqv (.tuple [.int a, .int b]) (.tuple [.int c, .int e])) = false := by
  rw [eqv2, decide_eq_true h1, decide_eq_true h2]
  rfl
theorem dtri {K : PySem.W.Frag} {H : Hp} {p : Addr} {x y z : Int} (h : H p = some (.tup [.int x, .int y, .int z])) : Dp K H (.ref p) (.tuple [.int x, .int y, .int z]) := .tup (SqT.of h) (.cons (.int x) (.cons (.int y) (.cons (.int z) .nil)))
theorem ne_tri {a b c a' b' c' : Int} (h1 : a = a') (h2 : b = b') (h3 : c = c') : (!PyData.eqv (.tuple [.int a, .int b, .int c]) (.tuple [.int a', .int b', .int c'])) = false := by
  subst h1 h2 h3
  simp [PyData.eqv, PyData.eqvAll]
/-! ### heaps, with what is wrong in them told -/
section
variable {X : Cx}
theorem pi_seq {tg e : Expr} {t : TE} (h : PE X e t) : PI X tg e (fun σ H R => iList X.K t σ H R ∨ iTup X.K t σ H R) := PI.or (pi_list h) (pi_tup h)
/-- d.items() -/
theorem pe_itemsDS {o : Expr} {apos cpos : Pos} {td : TE} (ho : PE X o td) (hb : attributeBase o "items" X.env (eval o X.env) = eval o X.env := by rfl) (hl : (apos.endLine == cpos.line) = true := by rfl) :
    PE X (.Call (.Attribute o "items" apos) [] [] cpos) (fun σ H Q => td σ H fun v G => rItemsDS X.prog X.w v [] G Q) := by
  constructor
  intro pins s σ H Q I h
  apply wpAny_Call_method0_late hb hl
  refine thn (ho.run pins s σ H _ I h) ?_
  rintro u s1 ⟨v, G, I1, rv, d, es, rfl, _, D, q⟩
  cases rv
  obtain ⟨t1, t2⟩ := ds_dict I1 D.rd
  exact ⟨"dict", "dict.items", PySem.F.plainAttrs_dict, PySem.F.slot_dict_items, PySem.F.type_dict_items, t1, t2, Calls.callWith_builtin rfl (PySem.evalArgs_none (mt_itemsDS pins s1 σ G (.ref d) [] (.ref d) [] Q I1 rfl .nil ⟨d, es, rfl, rfl, D, q⟩))⟩
end
/-- a for over enumerate of a list that stays -/
theorem for_enumL {K : PySem.W.Frag} {a : Addr} {xs : List V} {g : TG} {tb : TS} {D : Ends} {σ : L2.St} {H : Hp} (Pv : Nat → L2.St → Hp → Prop) (h0 : Pv 0 σ H) (hl : ∀ i τ G, i ≤ xs.length → Pv i τ G → SqL K G a xs)
    (turn : ∀ i x τ G T, xs[i]? = some x → Pv i τ G → G T = none → g (.ref T) τ (upd G T (.tup [.int (i : Nat), x])) fun τ2 G2 => tb { D with nx := Pv (i + 1), ct := Pv (i + 1), bk := D.nx } τ2 G2) (fin : ∀ τ G, Pv xs.length τ G → D.nx τ G) :
    ∃ W : Nat → Nat → L2.St → Hp → Prop, (∃ m, W 0 m σ H) ∧ ∀ i m τ G, W i m τ G → ((Ite K a).stop i G ∧ D.nx τ G) ∨ ((Ite K a).go i G ∧ ∃ N : L2.St → Hp → Prop, (∀ τ' G', N τ' G' → ∃ m', m' < m ∧ W (i + 1) m' τ' G') ∧
      ∀ x G', (Ite K a).yld i G x G' → g x τ G' fun τ2 G2 => tb { D with nx := N, ct := N, bk := D.nx } τ2 G2) := by
  refine ⟨fun i m τ G => m + i = xs.length ∧ Pv i τ G, ⟨xs.length, rfl, h0⟩, ?_⟩
  rintro i m τ G ⟨hm, pv⟩
  have sq := hl i τ G (by omega) pv
  cases m with
  | zero =>
    obtain rfl : i = xs.length := by omega
    exact .inl ⟨⟨xs, sq, Nat.le_refl _⟩, fin τ G pv⟩
  | succ m =>
    refine .inr ⟨⟨xs, xs[i], sq, List.getElem?_eq_getElem (by omega)⟩, Pv (i + 1), fun τ' G' z => ⟨m, Nat.lt_succ_self m, by omega, z⟩, ?_⟩
    rintro x G' ⟨T, y, rfl, hT, rfl, at_⟩
    exact turn i y τ G T (at_ xs sq) pv hT
/-! rows, as they are handed in -/
def LenOk (d a b : Int) : Prop := 0 < vl a b d ∧ a.natAbs < 2 ^ 3000 ∧ b.natAbs < 2 ^ 3000
def ShOk (d : Int) (x : Sh) : Prop := LenOk d x.1 x.2.1 ∧ LenOk d x.2.2.1 x.2.2.2
def EsOk (d : Int) (es : DEs) : Prop := ∀ e ∈ es, ShOk d e.1 ∧ 1 ≤ e.2.2
/-- the rows es, in a list or in a tuple -/
inductive Handed (K : PySem.W.Frag) (H : Hp) : V → DEs → Prop
  | list {l : Addr} {as : List Addr} {es : DEs} (hl : SqL K H l (as.map V.ref)) (hr : RowsAt H as es) (hk : ∀ e ∈ es, ShAt H e.2.1 e.1) : Handed K H (.ref l) es
  | tup {t : Addr} {as : List Addr} {es : DEs} (ht : SqT K H t (as.map V.ref)) (hr : RowsAt H as es) (hk : ∀ e ∈ es, ShAt H e.2.1 e.1) : Handed K H (.ref t) es
theorem Handed.same {K : PySem.W.Frag} {H H' : Hp} {r : V} {es : DEs} (h : Handed K H r es) (s : Same H H') : Handed K H' r es := by
  cases h with
  | list hl hr hk => exact .list (Same.seq s hl) (hr.mono fun p xs z => s _ _ z) fun e he => (hk e he).same s
  | tup ht hr hk => exact .tup (Evl.ex_t s ht) (hr.mono fun p xs z => s _ _ z) fun e he => (hk e he).same s
theorem Handed.none {K : PySem.W.Frag} {H : Hp} {t : Addr} (ht : SqT K H t []) : Handed K H (.ref t) [] := .tup (as := []) ht .nil fun e he => by cases he
theorem RowsAt.row {H : Hp} {as : List Addr} {es : DEs} (h : RowsAt H as es) {i : Nat} {v : V} (hv : (as.map V.ref)[i]? = some v) : ∃ a e, v = .ref a ∧ es[i]? = some e ∧ H a = some (.tup [.ref e.2.1, .int e.2.2]) := by
  rw [List.getElem?_map] at hv
  cases ha : as[i]? with
  | none =>
    rw [ha] at hv
    cases hv
  | some a =>
    rw [ha] at hv
    obtain ⟨e, he, z⟩ := Paired.getL h ha
    exact ⟨a, e, (Option.some.inj hv).symm, he, z⟩
theorem RowsAt.len {H : Hp} {as : List Addr} {es : DEs} (h : RowsAt H as es) : as.length = es.length := Paired.length h
theorem w100 {x : Int} (h : x.natAbs < 2 ^ 3000) : x.natAbs < 2 ^ 9000 := Nat.lt_of_lt_of_le h (Nat.pow_le_pow_right (by decide) (by decide))
/-- whether a tuple of two pairs is a sheet, whether a row has a sheet and a count -/
def shB (d : Int) (x : Sh) : Bool := decide (0 < vl x.1 x.2.1 d) && decide (0 < vl x.2.2.1 x.2.2.2 d)
def rowB (d : Int) (e : Sh × Addr × Int) : Bool := decide (1 ≤ e.2.2) && shB d e.1
def Sh100 (x : Sh) : Prop := x.1.natAbs < 2 ^ 3000 ∧ x.2.1.natAbs < 2 ^ 3000 ∧ x.2.2.1.natAbs < 2 ^ 3000 ∧ x.2.2.2.natAbs < 2 ^ 3000
theorem ShOk.b {d : Int} {x : Sh} (h : ShOk d x) : shB d x = true ∧ Sh100 x := ⟨by unfold shB; rw [decide_eq_true h.1.1, decide_eq_true h.2.1]; rfl, h.1.2.1, h.1.2.2, h.2.2.1, h.2.2.2⟩
theorem sg_pos (a b d : Int) : decide (0 < sgnI (vl a b d)) = decide (0 < vl a b d) := by
  rcases Int.lt_trichotomy (vl a b d) 0 with h | h | h
  · rw [sgnI_neg h, decide_eq_false (by decide), decide_eq_false (by omega)]
  · rw [h]
    rfl
  · rw [sgnI_pos h, decide_eq_true h]
    rfl
section
variable {base : Heap} {K : PySem.W.Frag} {mg : Str → Option Value} {P : Program} {w : World}
def spIsSheet (K : PySem.W.Frag) : Sp := fun vs H Q _ => ∃ (p : Addr) (d : Int) (x : Sh), vs = [.ref p, .int d] ∧ ShAt H p x ∧ d.natAbs < 2 ^ 64 ∧ Sh100 x ∧ Q (.bl (shB d x)) H
theorem ok_is_sheet (T : Txt K mg) : FnOk P w K mg base CX0 3 T.f_is_sheet T.d_is_sheet ["sheet", "root"] (spIsSheet K) := by
  refine T.F_is_sheet.ok sc_is_sheet (fun vs H Q E h => ?_) (fun cdv A outer s H vs Q E hr h => ?_)
  · obtain ⟨p, d, x, rfl, _⟩ := h
    rfl
  · obtain ⟨p, d, x, rfl, ⟨u, v, h1, h2, h3⟩, hd, ⟨b1, b2, b3, b4⟩, q⟩ := h
    refine ⟨_, (pss_cons (ps_asg (pv 0) (pg_tup (by rfl) (pgs_cons (pg_name (i := 2) sc_is_sheet.nd rfl (Or.inl rfl)) (pgs_cons (pg_name (i := 3) sc_is_sheet.nd rfl (Or.inl rfl)) pgs_nil))))
      (pss_one (ps_ret (pe_and (pe_call (ok_is_length T) (hr.mono (by decide)) (by rfl) T.g_is_length T.F_is_length.kp T.b_is_length .nil pass0 (pa_cons (pv 2) (pa_cons (pv 1) pa_nil))) (pe_one (pe_call (ok_is_length T) (hr.mono (by decide)) (by rfl) T.g_is_length T.F_is_length.kp T.b_is_length .nil pass0 (pa_cons (pv 3) (pa_cons (pv 1) pa_nil)))))))), ?_⟩
    refine ⟨_, rfl, p, _, rfl, SqT.of h1, rfl, .ref u, _, rfl, .ref v, _, rfl, rfl, ?_⟩
    refine ⟨_, rfl, _, rfl, .ref u, d, _, _, rfl, ⟨u, rfl, SqT.of h2⟩, hd, w100 b1, w100 b2, _, (by rw [sg_pos]), ?_⟩
    unfold shB at q
    cases z : decide (0 < vl x.1 x.2.1 d) with
    | false =>
      rw [z, Bool.false_and] at q
      exact iteF q
    | true =>
      rw [z, Bool.true_and] at q
      refine iteT ⟨_, rfl, _, rfl, .ref v, d, _, _, rfl, ⟨v, rfl, SqT.of h3⟩, hd, w100 b3, w100 b4, ?_⟩
      rw [sg_pos]
      exact q
/-- an error of one number, made and raised -/
def Throws (C : Addr) (fs : List (Str × V)) (H : Hp) (E : XK) : Prop := ∀ x Hf, H x = none → Same H Hf → Hf x = some (.xd fs) → E (.ref C) (some x) Hf
theorem Throws.up {C : Addr} {fs : List (Str × V)} {H H1 : Hp} {E : XK} (h : Throws C fs H E) (s : Same H H1) : Throws C fs H1 E := fun x Hf hx s1 f1 => h x Hf (s.free hx) (s.trans s1) f1
def badRow (i : Nat) : List (Str × V) := [("at", .int (i : Int)), ("word", .str "BadRow")]
def badRoot (n : V) : List (Str × V) := [("number", n), ("word", .str "BadRoot")]
end
section
variable {base : Heap} {K : PySem.W.Frag} {mg : Str → Option Value} {w : World}
def spCkRoot (T : Txt K mg) : Sp := fun vs H Q E => ∃ n : Int, vs = [.int n] ∧ (isRB n = true → Q .non H) ∧ (isRB n = false → Throws T.e_BadRoot.C (badRoot (.int n)) H E)
theorem ok_check_root (T : Txt K mg) : FnOk PySem.Challenge.pw_grainyard_k34_heaps_with_a_table w K mg base (L2.CX PySem.Challenge.pw_grainyard_k34_heaps_with_a_table w) 3 T.f_check_root T.d_check_root ["root"] (spCkRoot T) := by
  refine T.F_check_root.okX sc_check_root (fun vs H Q E h => ?_) (fun cdv A outer s H vs Q E hr h => ?_)
  · obtain ⟨n, rfl, _⟩ := h
    rfl
  · obtain ⟨n, rfl, q1, q2⟩ := h
    refine ⟨_, (pss_one (ps_if (pt_not (pt_val (pe_call (ok_is_root T) (hr.mono (by decide)) (by rfl) T.g_is_root T.F_is_root.kp T.b_is_root .nil pass0 (pa_cons (pv 0) pa_nil)))) (pss_one (ps_raise rfl (takes_of rfl rfl rfl rfl) (pmk_oex (oex_of T.e_BadRoot) T.e_BadRoot.iC T.e_BadRoot.tI (ini_BadRoot T) (hr.mono (by decide)) (bi_BadRoot T) .nil pass0 (by rfl) T.e_BadRoot.g (pa_cons (pv 0) pa_nil)))) pss_nil)), ?_⟩
    refine ⟨_, rfl, n, rfl, _, rfl, ?_⟩
    cases e : isRB n with
    | true => exact iteF (q1 e)
    | false => exact iteT ⟨_, rfl, mk_use rfl (by decide) fun d Hf hd s1 f1 => q2 e d Hf hd s1 f1⟩
def Es100 (es : DEs) : Prop := ∀ e ∈ es, Sh100 e.1
def FirstBad (d : Int) (es : DEs) (i : Nat) : Prop := (∃ e, es[i]? = some e ∧ rowB d e = false) ∧ ∀ j f, j < i → es[j]? = some f → rowB d f = true
def spCkRows (T : Txt K mg) : Sp := fun vs H Q E => ∃ (r : V) (d : Int) (es : DEs), vs = [r, .int d] ∧ Handed K H r es ∧ d.natAbs < 2 ^ 64 ∧ Es100 es ∧ ((∀ e ∈ es, rowB d e = true) → ∀ H', Same H H' → Q .non H') ∧ (∀ i, FirstBad d es i → Throws T.e_BadRow.C (badRow i) H E)
theorem ok_check_rows (T : Txt K mg) : FnOk PySem.Challenge.pw_grainyard_k34_heaps_with_a_table w K mg base (L2.CX PySem.Challenge.pw_grainyard_k34_heaps_with_a_table w) 4 T.f_check_rows T.d_check_rows ["rows", "root"] (spCkRows T) := by
  refine T.F_check_rows.okX sc_check_rows (fun vs H Q E h => ?_) (fun cdv A outer s H vs Q E hr h => ?_)
  · obtain ⟨r, d, es, rfl, _⟩ := h
    rfl
  · obtain ⟨r, d, es, rfl, hh, hd, b, q1, q2⟩ := h
    refine ⟨_, (pss_one (ps_for (passes_of rfl) rfl (PI.or (pi_enum (by rfl) T.n_enumerate (pa_cons (pv 0) pa_nil)) (pi_enumT (by rfl) T.n_enumerate (pa_cons (pv 0) pa_nil))) (pg_tup (by rfl) (pgs_cons (pg_name (i := 2) sc_check_rows.nd rfl (Or.inl rfl)) (pgs_cons (pg_tup (by rfl) (pgs_cons (pg_name (i := 3) sc_check_rows.nd rfl (Or.inl rfl)) (pgs_cons (pg_name (i := 4) sc_check_rows.nd rfl (Or.inl rfl)) pgs_nil))) pgs_nil))) (pss_one (ps_if (PW.pt (pw_or (pt_cmpR op_lt (pv 4) pe_int (nomark _)) (pw_or1 (pt_not (pt_val (pe_call (ok_is_sheet T) (hr.mono (by decide)) (by rfl) T.g_is_sheet T.F_is_sheet.kp T.b_is_sheet .nil pass0 (pa_cons (pv 3) (pa_cons (pv 1) pa_nil)))))))) (pss_one (ps_raise rfl (takes_of rfl rfl rfl rfl) (pmk_oex (oex_of T.e_BadRow) T.e_BadRow.iC T.e_BadRow.tI (ini_BadRow T) (hr.mono (by decide)) (bi_BadRow T) .nil pass0 (by rfl) T.e_BadRow.g (pa_cons (pv 2) pa_nil)))) pss_nil)))), ?_⟩
    have all : ∀ n, n = es.length → (∀ j f, j < n → es[j]? = some f → rowB d f = true) → ∀ e ∈ es, rowB d e = true := by
      intro n hn g e he
      obtain ⟨j, hj⟩ := List.mem_iff_getElem?.mp he
      exact g j e (by rw [hn]; exact (List.getElem?_eq_some_iff.mp hj).1) hj
    cases hh with
    | @list l as _ hl hr hk =>
      refine .inl ⟨_, rfl, l, _, rfl, hl, for_enumL (K := K) (a := l) (xs := as.map V.ref) (fun i σ H' => ∃ y2 y3 y4, σ = [some (.ref l), some (.int d), y2, y3, y4] ∧ Same H H' ∧ ∀ j f, j < i → es[j]? = some f → rowB d f = true) ⟨_, _, _, rfl, Same.refl _, fun j f hj => absurd hj (Nat.not_lt_zero _)⟩ ?_ ?_ ?_⟩
      · rintro i τ G hi ⟨_, _, _, _, s, _⟩
        exact Same.seq s hl
      · rintro i x τ G T1 hx ⟨y2, y3, y4, rfl, s, good⟩ hT
        obtain ⟨a, e, rfl, he, ha⟩ := hr.row hx
        have s1 := s.trans (same_new (o := .tup [.int (i : Nat), .ref a]) hT)
        have me := List.mem_of_getElem? he
        refine ⟨T1, _, rfl, SqT.of upd_same, rfl, .int i, _, rfl, .ref a, _, rfl, a, _, rfl, SqT.of (s1 _ _ ha), rfl, .ref e.2.1, _, rfl, .int e.2.2, _, rfl, rfl, rfl, ?_⟩
        have bad : rowB d e = false → Throws T.e_BadRow.C (badRow i) (upd G T1 (.tup [.int (i : Nat), .ref a])) E := fun z => (q2 i ⟨⟨e, he, z⟩, good⟩).up s1
        refine ⟨_, rfl, e.2.2, 1, rfl, rfl, _, rfl, ite2 (fun z => ?_) (fun z => ?_)⟩
        · refine ⟨_, rfl, mk_use rfl (by decide) fun x Hf hx s2 f2 => bad ?_ x Hf hx s2 f2⟩
          have z := of_decide_eq_true z
          unfold rowB
          rw [decide_eq_false (by omega)]
          rfl
        · have z1 : 1 ≤ e.2.2 := by
            have : ¬ e.2.2 < 1 := fun q => z (decide_eq_true q)
            omega
          refine ⟨_, rfl, _, rfl, e.2.1, d, e.1, rfl, (hk e me).same s1, hd, b e me, _, rfl, ?_⟩
          cases q : shB d e.1 with
          | true =>
            refine iteF ⟨_, _, _, rfl, s1, fun j f hj hf => ?_⟩
            rcases Nat.lt_succ_iff_lt_or_eq.mp hj with l | rfl
            · exact good j f l hf
            · cases he.symm.trans hf
              unfold rowB
              rw [decide_eq_true z1, q]
              rfl
          | false =>
            refine iteT ⟨_, rfl, mk_use rfl (by decide) fun x Hf hx s2 f2 => bad ?_ x Hf hx s2 f2⟩
            unfold rowB
            rw [q, Bool.and_false]
      · rintro τ G ⟨_, _, _, rfl, s, good⟩
        rw [List.length_map, hr.len] at good
        exact q1 (all _ rfl good) _ s
    | @tup l as _ hl hr hk =>
      refine .inr ⟨_, rfl, l, _, rfl, hl, for_enumT (K := K) (a := l) (xs := as.map V.ref) (fun i σ H' => ∃ y2 y3 y4, σ = [some (.ref l), some (.int d), y2, y3, y4] ∧ Same H H' ∧ ∀ j f, j < i → es[j]? = some f → rowB d f = true) ⟨_, _, _, rfl, Same.refl _, fun j f hj => absurd hj (Nat.not_lt_zero _)⟩ ?_ ?_ ?_⟩
      · rintro i τ G hi ⟨_, _, _, _, s, _⟩
        exact Evl.ex_t s hl
      · rintro i x τ G T1 hx ⟨y2, y3, y4, rfl, s, good⟩ hT
        obtain ⟨a, e, rfl, he, ha⟩ := hr.row hx
        have s1 := s.trans (same_new (o := .tup [.int (i : Nat), .ref a]) hT)
        have me := List.mem_of_getElem? he
        refine ⟨T1, _, rfl, SqT.of upd_same, rfl, .int i, _, rfl, .ref a, _, rfl, a, _, rfl, SqT.of (s1 _ _ ha), rfl, .ref e.2.1, _, rfl, .int e.2.2, _, rfl, rfl, rfl, ?_⟩
        have bad : rowB d e = false → Throws T.e_BadRow.C (badRow i) (upd G T1 (.tup [.int (i : Nat), .ref a])) E := fun z => (q2 i ⟨⟨e, he, z⟩, good⟩).up s1
        refine ⟨_, rfl, e.2.2, 1, rfl, rfl, _, rfl, ite2 (fun z => ?_) (fun z => ?_)⟩
        · refine ⟨_, rfl, mk_use rfl (by decide) fun x Hf hx s2 f2 => bad ?_ x Hf hx s2 f2⟩
          have z := of_decide_eq_true z
          unfold rowB
          rw [decide_eq_false (by omega)]
          rfl
        · have z1 : 1 ≤ e.2.2 := by
            have : ¬ e.2.2 < 1 := fun q => z (decide_eq_true q)
            omega
          refine ⟨_, rfl, _, rfl, e.2.1, d, e.1, rfl, (hk e me).same s1, hd, b e me, _, rfl, ?_⟩
          cases q : shB d e.1 with
          | true =>
            refine iteF ⟨_, _, _, rfl, s1, fun j f hj hf => ?_⟩
            rcases Nat.lt_succ_iff_lt_or_eq.mp hj with l | rfl
            · exact good j f l hf
            · cases he.symm.trans hf
              unfold rowB
              rw [decide_eq_true z1, q]
              rfl
          | false =>
            refine iteT ⟨_, rfl, mk_use rfl (by decide) fun x Hf hx s2 f2 => bad ?_ x Hf hx s2 f2⟩
            unfold rowB
            rw [q, Bool.and_false]
      · rintro τ G ⟨_, _, _, rfl, s, good⟩
        rw [List.length_map, hr.len] at good
        exact q1 (all _ rfl good) _ s
end
section
variable {base : Heap} {K : PySem.W.Frag} {mg : Str → Option Value} {P : Program} {w : World}
/-- what a dict that is made is told by -/
def NewD (P : Program) (w : World) (H : Hp) (es : DEs) (Q : VK) : Prop := ∀ d H', H d = none → Same H H' → DAt P w H' d es → Q (.ref d) H'
def spMerged (K : PySem.W.Frag) (P : Program) (w : World) : Sp := fun vs H Q _ => ∃ (r : V) (es : DEs), vs = [r] ∧ Handed K H r es ∧ es.length ≤ 1000 ∧ NewD P w H (sortE (mergeD es)) Q
theorem step_put {H H1 : Hp} {c : Addr} {es : DEs} {e : Sh × Addr × Int} {i : Nat} (hc : H c = none) (s : Same H H1) (D : DAt P w H1 c (mergeTo es i)) (hs : ShAt H1 e.2.1 e.1) (he : es[i]? = some e) :
    Same H (upd H1 c (DS P w c (putD (mergeTo es i) e.1 e.2.1 ((valD (mergeTo es i) e.1).getD 0 + e.2.2)))) ∧ DAt P w (upd H1 c (DS P w c (putD (mergeTo es i) e.1 e.2.1 ((valD (mergeTo es i) e.1).getD 0 + e.2.2)))) c (mergeTo es (i + 1)) := by
  refine ⟨fun a o z => (upd_ne (ne_of_none z hc)).trans (s a o z), ?_⟩
  rw [mergeTo_succ he]
  exact D.put hs
theorem small_of {n : Nat} (h : n ≤ 1000) : n < sizeLine := small1000 h
theorem sortE_at {acc : DEs} (nd : (keysD acc).Nodup) {i : Nat} {b : Sh × Addr} (hb : (sortK acc)[i]? = some b) : ∃ n, valD acc b.1 = some n ∧ (sortE acc)[i]? = some (b.1, b.2, n) ∧ (b.1, b.2, n) ∈ acc := by
  obtain ⟨e, he, e1⟩ := List.mem_map.mp ((sortK_perm acc).mem_iff.mp (List.mem_of_getElem? hb))
  have hv := valD_mem nd he
  have k1 : e.1 = b.1 := congrArg Prod.fst e1
  have k2 : e.2.1 = b.2 := congrArg Prod.snd e1
  rw [k1] at hv
  refine ⟨e.2.2, hv, ?_, ?_⟩
  · unfold sortE
    rw [List.getElem?_map, hb]
    show some (b.1, b.2, (valD acc b.1).getD 0) = _
    rw [hv]
    rfl
  · rw [← k1, ← k2]
    exact he
theorem ok_merged (T : Txt K mg) : FnOk P w K mg base CX0 1 T.f_merged T.d_merged ["rows"] (spMerged K P w) := by
  refine T.F_merged.ok sc_merged (fun vs H Q E h => ?_) (fun cdv A outer s H vs Q E hr h => ?_)
  · obtain ⟨r, es, rfl, _⟩ := h
    rfl
  · obtain ⟨r, es, rfl, hh, hn, q⟩ := h
    refine ⟨_, (pss_cons (ps_set (i := 1) sc_merged.nd rfl (Or.inr rfl) pe_dnewS)
      (Evl.pss_cut (ps_for PassesOwn.never rfl (pi_seq (pv 0)) (pg_tup (by rfl) (pgs_cons (pg_name (i := 2) sc_merged.nd rfl (Or.inl rfl)) (pgs_cons (pg_name (i := 3) sc_merged.nd rfl (Or.inl rfl)) pgs_nil))) (pss_one (ps_sput hr.units (pv 1) (pv 2) (pe_op op_add (pe_sget2 hr.units (pv 1) (pv 2) pe_int ⟨rfl, rfl, rfl, rfl⟩) (pv 3)) rfl)))
      (pss_one (ps_ret (pe_dcS (own := [("sheet", 2)]) (g := (gName 2)) (tk := tVar 2) (tv := tSGet P w (tVar 1) (tVar 2)) (by rfl) hr.units sc_merged.nd (pi_list (pe_callB (cr_sortedDS rfl hr.units) (by rfl) T.n_sorted (by decide +kernel) (pa_cons (pv 1) pa_nil))) (blkOk_by (own := [("sheet", 2)]) (N := ["rows", "counts", "sheet", "count"]) (sc := defScope s_merged) (by decide +kernel)) (fun _ _ _ _ _ => (pg_name (i := 2) sc_merged.nd rfl (Or.inl rfl))) (fun _ _ _ _ _ => (pv 2)) (fun _ _ _ _ _ => (pe_sget hr.units (pv 1) (pv 2) (fun _ _ => rfl)))))))), ?_⟩
    intro c hc
    refine ⟨fun σ H' => ∃ y2 y3, σ = [some r, some (.ref c), y2, y3] ∧ Same H H' ∧ DAt P w H' c (mergeD es), ?_, ?_⟩
    · have D0 : DAt P w (upd H c (DS P w c [])) c [] := ⟨upd_same, fun x hx => by cases hx⟩
      cases hh with
      | @list l as _ hl hr2 hk =>
        refine .inl ⟨_, rfl, l, rfl, ⟨_, (same_new hc).seq hl⟩, for_list (K := K) (a := l) (xs := as.map V.ref) (fun i σ H' => ∃ y2 y3, σ = [some (.ref l), some (.ref c), y2, y3] ∧ Same H H' ∧ DAt P w H' c (mergeTo es i)) ⟨none, none, rfl, same_new hc, D0⟩ ?_ ?_ ?_⟩
        · rintro i σ H' _ ⟨_, _, _, s1, _⟩
          exact s1.seq hl
        · rintro i x σ H' hx ⟨y2, y3, rfl, s1, D⟩
          obtain ⟨a, e, rfl, he, ha⟩ := hr2.row hx
          have hs := (hk e (List.mem_of_getElem? he)).same s1
          have hlt : i < es.length := (List.getElem?_eq_some_iff.mp he).1
          refine ⟨a, _, rfl, SqT.of (s1 _ _ ha), rfl, .ref e.2.1, _, rfl, .int e.2.2, _, rfl, rfl, ?_⟩
          refine ⟨.ref c, rfl, c, _, rfl, D.rd, .ref e.2.1, rfl, e.2.1, e.1, 0, _, rfl, rfl, D.rd, hs, .int e.2.2, rfl, _, _, rfl, rfl, .ref c, rfl, .ref e.2.1, rfl, c, e.2.1, _, e.1, _, rfl, rfl, rfl, D, hs, small_of (by have := mergeTo_len es i; omega), ?_⟩
          obtain ⟨s2, D2⟩ := step_put hc s1 D hs he
          exact ⟨_, _, rfl, s2, D2⟩
        · rintro σ H' ⟨y2, y3, rfl, s1, D⟩
          rw [List.length_map, hr2.len, mergeTo_all] at D
          exact ⟨_, _, rfl, s1, D⟩
      | @tup l as _ hl hr2 hk =>
        refine .inr ⟨_, rfl, l, rfl, ⟨_, Evl.ex_t (same_new hc) hl⟩, for_tup (K := K) (a := l) (xs := as.map V.ref) (fun i σ H' => ∃ y2 y3, σ = [some (.ref l), some (.ref c), y2, y3] ∧ Same H H' ∧ DAt P w H' c (mergeTo es i)) ⟨none, none, rfl, same_new hc, D0⟩ ?_ ?_ ?_⟩
        · rintro i σ H' _ ⟨_, _, _, s1, _⟩
          exact Evl.ex_t s1 hl
        · rintro i x σ H' hx ⟨y2, y3, rfl, s1, D⟩
          obtain ⟨a, e, rfl, he, ha⟩ := hr2.row hx
          have hs := (hk e (List.mem_of_getElem? he)).same s1
          have hlt : i < es.length := (List.getElem?_eq_some_iff.mp he).1
          refine ⟨a, _, rfl, SqT.of (s1 _ _ ha), rfl, .ref e.2.1, _, rfl, .int e.2.2, _, rfl, rfl, ?_⟩
          refine ⟨.ref c, rfl, c, _, rfl, D.rd, .ref e.2.1, rfl, e.2.1, e.1, 0, _, rfl, rfl, D.rd, hs, .int e.2.2, rfl, _, _, rfl, rfl, .ref c, rfl, .ref e.2.1, rfl, c, e.2.1, _, e.1, _, rfl, rfl, rfl, D, hs, small_of (by have := mergeTo_len es i; omega), ?_⟩
          obtain ⟨s2, D2⟩ := step_put hc s1 D hs he
          exact ⟨_, _, rfl, s2, D2⟩
        · rintro σ H' ⟨y2, y3, rfl, s1, D⟩
          rw [List.length_map, hr2.len, mergeTo_all] at D
          exact ⟨_, _, rfl, s1, D⟩
    · rintro σ H2 ⟨y2, y3, rfl, s2, D⟩
      have nd := merge_nodup es
      have hlen : (sortE (mergeD es)).length ≤ 1000 := by
        rw [(sortE_perm nd).length_eq]
        exact Nat.le_trans (merge_len es) hn
      refine ⟨.ref c, rfl, c, _, rfl, D, fun p hp => ⟨p, rfl, ⟨_, SqL.of upd_same⟩, fun d hd => ?_⟩⟩
      have ep := same_new (o := .lst ((sortK (mergeD es)).map fun b => V.ref b.2)) hp
      refine dcS_list (K := K) (a := p) (xs := (sortK (mergeD es)).map fun b => V.ref b.2) (fun i G => Same (upd H2 p (.lst ((sortK (mergeD es)).map fun b => V.ref b.2))) G ∧ DAt P w G d ((sortE (mergeD es)).take i)) ⟨same_new hd, upd_same, fun x hx => by cases hx⟩ (fun i G _ z => SqL.of (z.1 _ _ upd_same)) ?_ ?_ ?_
      · rintro i x G hx ⟨sG, DG⟩
        rw [List.getElem?_map] at hx
        cases hb : (sortK (mergeD es))[i]? with
        | none =>
          rw [hb] at hx
          cases hx
        | some b =>
          rw [hb] at hx
          cases hx
          obtain ⟨n, hv, hat, hin⟩ := sortE_at nd hb
          have Dc := (D.same (ep.trans sG))
          have hs := Dc.ks _ hin
          refine ⟨rfl, _, rfl, _, rfl, _, rfl, c, b.2, _, b.1, n, rfl, rfl, Dc.rd, hs, hv, b.2, b.1, n, _, rfl, rfl, DG, hs, small_of (by rw [List.length_take]; omega), ?_⟩
          have e1 := take_put (sortE_keys nd) hat
          rw [e1]
          refine ⟨fun a o z => (upd_ne (ne_of_none z hd)).trans (sG a o z), ?_⟩
          have := DG.put (n := n) hs
          rw [e1] at this
          exact this
      · rintro G ⟨sG, DG⟩
        have hl : ((sortK (mergeD es)).map fun b => V.ref b.2).length = (sortE (mergeD es)).length := by
          unfold sortE
          rw [List.length_map, List.length_map]
        rw [hl, List.take_length] at DG
        exact q d G ((s2.trans ep).free hd) ((s2.trans ep).trans sG) DG
      · rintro N N' x G hN ⟨h1, y, h2, z, h3, z2, h4, c1, p1, es1, x1, n1, h5, h6, h7, h8, h9, p2, k2, n2, es2, h10, h11, h12, h13, h14, h15⟩
        exact ⟨h1, y, h2, z, h3, z2, h4, c1, p1, es1, x1, n1, h5, h6, h7, h8, h9, p2, k2, n2, es2, h10, h11, h12, h13, h14, hN _ h15⟩
theorem Handed.put {H : Hp} {r : V} {es : DEs} {p C dx : Addr} {fs gs : List (Str × V)} (h : Handed K H r es) (hp : H p = some (.ins C dx fs)) : Handed K (upd H p (.ins C dx gs)) r es := by
  have tup : ∀ a xs, H a = some (.tup xs) → (upd H p (.ins C dx gs)) a = some (.tup xs) := fun a xs z => (upd_ne (ne_of z hp (by intro q; cases q))).trans z
  have rd : ∀ a o, o ≠ .ins C dx fs → Rd H a o → Rd (upd H p (.ins C dx gs)) a o := by
    intro a o no z
    rcases z with z | ⟨od, z⟩
    · exact .inl ((upd_ne (ne_of z hp no)).trans z)
    · exact .inr ⟨od, (upd_ne (ne_of z hp (by intro q; cases q))).trans z⟩
  cases h with
  | list hl hr hk =>
    refine .list ?_ (hr.mono tup) fun e he => (hk e he).mono tup
    rcases hl with z | z
    · exact .inl (rd _ _ (by intro q; cases q) z)
    · exact .inr z
  | tup ht hr hk =>
    refine .tup ?_ (hr.mono tup) fun e he => (hk e he).mono tup
    rcases ht with z | z
    · exact .inl (rd _ _ (by intro q; cases q) z)
    · exact .inr z
def HeapAt (P : Program) (w : World) (C : Addr) (H : Hp) (p : Addr) (d : Int) (es : DEs) : Prop := ∃ dx c : Addr, H p = some (.ins C dx [("held_root", .int d), ("copies", .ref c)]) ∧ DAt P w H c es
theorem HeapAt.same {C : Addr} {H H' : Hp} {p : Addr} {d : Int} {es : DEs} (h : HeapAt P w C H p d es) (s : Same H H') : HeapAt P w C H' p d es := by
  obtain ⟨dx, c, h1, h2⟩ := h
  exact ⟨dx, c, s _ _ h1, h2.same s⟩
theorem isRB_small {n : Int} (h : isRB n = true) : n.natAbs < 2 ^ 64 := by
  unfold isRB at h
  rw [Bool.and_eq_true] at h
  have := of_decide_eq_true h.1
  omega
def spHRows (P : Program) (w : World) (C : Addr) : Sp := fun vs H Q _ => ∃ (p : Addr) (d : Int) (es : DEs), vs = [.ref p] ∧ HeapAt P w C H p d es ∧ ∀ l as H', H l = none → Same H H' → H' l = some (.lst (as.map V.ref)) → RowsAt H' as es → Q (.ref l) H'
theorem ok_Heap_rows (T : Txt K mg) : FnOk P w K mg base CX0 1 T.f_Heap_rows T.d_Heap_rows ["self"] (spHRows P w T.C_Heap) := by
  refine T.F_Heap_rows.ok sc_Heap_rows (fun vs H Q E h => ?_) (fun cdv A outer s H vs Q E hr h => ?_)
  · obtain ⟨p, d, es, rfl, _⟩ := h
    rfl
  · obtain ⟨p, d, es, rfl, ⟨dx, c, hp, D⟩, q⟩ := h
    refine ⟨_, (pss_one (ps_ret (pe_callTy (call_list_itemsDS rfl) (by rfl) T.n_list (by decide +kernel) (pa_cons (pe_itemsDS (pe_fld (pv 0) rfl)) pa_nil)))), ?_⟩
    refine ⟨_, rfl, p, T.C_Heap, dx, _, _, rfl, hp, T.cl_Heap, T.n_Heap_copies, rfl, c, es, rfl, rfl, D, fun v hv => ?_⟩
    refine ⟨v, c, es, rfl, upd_same, D.same (same_new hv), fun l as H' hl s1 hL hR => ?_⟩
    exact q l as H' ((same_new hv).free hl) ((same_new hv).trans s1) hL hR
end
section
variable {base : Heap} {K : PySem.W.Frag} {mg : Str → Option Value} {P : Program} {w : World}
def spRoot (P : Program) (w : World) (C : Addr) : Sp := fun vs H Q _ => ∃ (p : Addr) (d : Int) (es : DEs), vs = [.ref p] ∧ HeapAt P w C H p d es ∧ Q (.int d) H
theorem ok_Heap_root (T : Txt K mg) : FnOk P w K mg base CX0 1 T.f_Heap_root T.d_Heap_root ["self"] (spRoot P w T.C_Heap) := by
  refine T.F_Heap_root.ok sc_Heap_root (fun vs H Q E h => ?_) (fun cdv A outer s H vs Q E hr h => ?_)
  · obtain ⟨p, d, es, rfl, _⟩ := h
    rfl
  · obtain ⟨p, d, es, rfl, ⟨dx, c, hp, _⟩, q⟩ := h
    exact ⟨_, (pss_one (ps_ret (pe_fld (pv 0) rfl))), _, rfl, p, T.C_Heap, dx, _, _, rfl, hp, T.cl_Heap, T.n_Heap_held_root, rfl, q⟩
end
section
variable {base : Heap} {K : PySem.W.Frag} {mg : Str → Option Value} {w : World}
def spHInit (T : Txt K mg) (w : World) : Sp := fun vs H Q E => ∃ (p dx : Addr) (d : Int) (r : V) (es : DEs), vs = [.ref p, .int d, r] ∧ H p = some (.ins T.C_Heap dx []) ∧ Handed K H r es ∧ Es100 es ∧ es.length ≤ 1000 ∧
  (isRB d = true → (∀ e ∈ es, rowB d e = true) → ∀ H', HeapAt PySem.Challenge.pw_grainyard_k34_heaps_with_a_table w T.C_Heap H' p d (sortE (mergeD es)) → (∀ q o, H q = some o → q ≠ p → H' q = some o) → Q .non H') ∧
  (isRB d = true → ∀ i, FirstBad d es i → Throws T.e_BadRow.C (badRow i) H E) ∧ (isRB d = false → Throws T.e_BadRoot.C (badRoot (.int d)) H E)
theorem ok_Heap_init (T : Txt K mg) : FnOk PySem.Challenge.pw_grainyard_k34_heaps_with_a_table w K mg base (L2.CX PySem.Challenge.pw_grainyard_k34_heaps_with_a_table w) 5 T.f_Heap_init T.d_Heap_init ["self", "root", "rows"] (spHInit T w) := by
  refine T.F_Heap_init.ok sc_Heap_init (fun vs H Q E h => ?_) (fun cdv A outer s H vs Q E hr h => ?_)
  · obtain ⟨p, dx, d, r, es, rfl, _⟩ := h
    rfl
  · obtain ⟨p, dx, d, r, es, rfl, hp, hh, b, hn, q1, q2, q3⟩ := h
    refine ⟨_, (pss_cons (ps_expr (pe_call (ok_check_root T) (hr.mono (by decide)) (by rfl) T.g_check_root T.F_check_root.kp T.b_check_root .nil (passes_call (takes_of rfl rfl rfl rfl) (fun _ _ _ _ h => h)) (pa_cons (pv 1) pa_nil)))
      (pss_cons (ps_expr (pe_call (ok_check_rows T) (hr.mono (by decide)) (by rfl) T.g_check_rows T.F_check_rows.kp T.b_check_rows .nil (passes_call (takes_of rfl rfl rfl rfl) (fun _ _ _ _ h => h)) (pa_cons (pv 2) (pa_cons (pv 1) pa_nil))))
      (pss_cons (ps_fld (pv 0) (pv 1) rfl)
      (pss_one (ps_fld (pv 0) (pe_call (ok_merged T) (hr.mono (by decide)) (by rfl) T.g_merged T.F_merged.kp T.b_merged .nil pass0 (pa_cons (pv 2) pa_nil)) rfl))))), ?_⟩
    refine ⟨_, rfl, d, rfl, fun hd => ?_, q3⟩
    refine ⟨_, rfl, _, rfl, r, d, es, rfl, hh, isRB_small hd, b, fun ok H1 s1 => ?_, q2 hd⟩
    refine ⟨_, rfl, _, rfl, p, T.C_Heap, dx, [], rfl, s1 _ _ hp, T.cl_Heap, T.n_Heap_held_root, by decide, ?_⟩
    refine ⟨_, rfl, r, es, rfl, (hh.same s1).put (s1 _ _ hp), hn, fun c H2 hc s2 D => ?_⟩
    have hp2 := s2 _ _ (upd_same (H := H1) (a := p) (o := .ins T.C_Heap dx [("held_root", .int d)]))
    refine ⟨_, rfl, p, T.C_Heap, dx, _, rfl, hp2, T.cl_Heap, T.n_Heap_copies, (by show 1 < 1000; decide), ?_⟩
    refine q1 hd ok _ ⟨dx, c, upd_same, (upd_ne (ne_of D.hd hp2 (by intro z; cases z))).trans D.hd, fun x hx => (D.ks x hx).mono fun a xs z => (upd_ne (ne_of z hp2 (by intro z; cases z))).trans z⟩ fun b o z ne => ?_
    exact (upd_ne ne).trans (s2 _ _ ((upd_ne ne).trans (s1 _ _ z)))
/-- Heap(d, r), where nothing is wrong -/
theorem mk_heap {T : Txt K mg} {H : Hp} {d : Int} {r : V} {es : DEs} {R : Addr → Hp → Prop} {E : XK} (hd : isRB d = true) (hh : Handed K H r es) (b : Es100 es) (ok : ∀ e ∈ es, rowB d e = true) (hn : es.length ≤ 1000) (q : ∀ x H', H x = none → Same H H' → HeapAt PySem.Challenge.pw_grainyard_k34_heaps_with_a_table w T.C_Heap H' x d (sortE (mergeD es)) → R x H') :
    ∀ x dx, H x = none → H dx = none → dx ≠ x → spHInit T w [.ref x, .int d, r] (upd (upd H dx (.own x)) x (.ins T.C_Heap dx [])) (fun v H2 => v = .non ∧ R x H2) E := by
  intro x dx nx nd ne
  have s1 : Same H (upd (upd H dx (.own x)) x (.ins T.C_Heap dx [])) := fun b o z => by
    rw [upd_ne (ne_of_none z nx), upd_ne (ne_of_none z nd)]
    exact z
  refine ⟨x, dx, d, r, es, rfl, upd_same, hh.same s1, b, hn, fun _ _ H' hA hk => ⟨rfl, q x H' nx (fun b o z => hk b o (s1 b o z) (ne_of_none z nx)) hA⟩, fun _ i fb => ?_, fun z => by rw [hd] at z; cases z⟩
  obtain ⟨⟨e, he, ez⟩, _⟩ := fb
  rw [ok e (List.mem_of_getElem? he)] at ez
  cases ez
/-- Heap(d, r), where something is wrong -/
theorem no_heap {T : Txt K mg} {H : Hp} {d : Int} {r : V} {es : DEs} {R : Addr → Hp → Prop} {E : XK} (hh : Handed K H r es) (b : Es100 es) (hn : es.length ≤ 1000) (q2 : isRB d = true → ∃ i, FirstBad d es i ∧ Throws T.e_BadRow.C (badRow i) H E) (q3 : isRB d = false → Throws T.e_BadRoot.C (badRoot (.int d)) H E) :
    ∀ x dx, H x = none → H dx = none → dx ≠ x → spHInit T w [.ref x, .int d, r] (upd (upd H dx (.own x)) x (.ins T.C_Heap dx [])) (fun v H2 => v = .non ∧ R x H2) E := by
  intro x dx nx nd ne
  have s1 : Same H (upd (upd H dx (.own x)) x (.ins T.C_Heap dx [])) := fun b o z => by
    rw [upd_ne (ne_of_none z nx), upd_ne (ne_of_none z nd)]
    exact z
  refine ⟨x, dx, d, r, es, rfl, upd_same, hh.same s1, b, hn, fun hd ok => ?_, fun hd i fb => ?_, fun z => (q3 z).up s1⟩
  · obtain ⟨i, ⟨⟨e, he, ez⟩, _⟩, _⟩ := q2 hd
    rw [ok e (List.mem_of_getElem? he)] at ez
    cases ez
  · obtain ⟨j, fb', th⟩ := q2 hd
    have : i = j := by
      obtain ⟨⟨e, he, ez⟩, g⟩ := fb
      obtain ⟨⟨e', he', ez'⟩, g'⟩ := fb'
      rcases Nat.lt_trichotomy i j with l | l | l
      · rw [g' i e l he] at ez
        cases ez
      · exact l
      · rw [g j e' l he'] at ez'
        cases ez'
    rw [this]
    exact th.up s1
end
section
variable {base : Heap} {K : PySem.W.Frag} {mg : Str → Option Value} {P : Program} {w : World}
def spFloor (K : PySem.W.Frag) : Sp := fun vs H Q _ => ∃ (t : Addr) (d a b : Int), vs = [.ref t, .int d] ∧ SqT K H t [.int a, .int b] ∧ 0 ≤ d ∧ d.natAbs < 2 ^ 64 ∧ b.natAbs < 2 ^ 1000 ∧
  ∀ g : Int, 0 ≤ g → g * g ≤ d * b * b → d * b * b < (g + 1) * (g + 1) → Q (.int (if b < 0 then a - g - 1 else a + g)) H
theorem ok_floor_of (T : Txt K mg) : FnOk P w K mg base CX0 2 T.f_floor_of T.d_floor_of ["pair", "root"] (spFloor K) := by
  refine T.F_floor_of.ok sc_floor_of (fun vs H Q E h => ?_) (fun cdv A outer s H vs Q E hr h => ?_)
  · obtain ⟨t, d, a, b, rfl, _⟩ := h
    rfl
  · obtain ⟨t, d, a, b, rfl, hT, d0, d1, b1, q⟩ := h
    refine ⟨_, (pss_cons (ps_asg (pv 0) (pg_tup (by rfl) (pgs_cons (pg_name (i := 3) sc_floor_of.nd rfl (Or.inl rfl)) (pgs_cons (pg_name (i := 4) sc_floor_of.nd rfl (Or.inl rfl)) pgs_nil))))
      (pss_cons (ps_set (i := 2) sc_floor_of.nd rfl (Or.inl rfl) (pe_call (ok_whole_root T) (hr.mono (by decide)) (by rfl) T.g_whole_root T.F_whole_root.kp T.b_whole_root .nil pass0 (pa_cons (pe_op op_mulW (pe_op op_mulW (pv 1) (pv 4)) (pv 4)) pa_nil)))
      (pss_cons (ps_if (pt_cmpR op_lt (pv 4) pe_int (nomark _)) (pss_one (ps_ret (pe_op op_sub (pe_op op_sub (pv 3) (pv 2)) pe_int))) pss_nil)
      (pss_one (ps_ret (pe_op op_add (pv 3) (pv 2))))))), ?_⟩
    have m1 : (d * b).natAbs < 2 ^ (64 + 1000) := wide_lt d1 b1
    have m2 : (d * b * b).natAbs < 2 ^ (64 + 1000 + 1000) := wide_lt m1 b1
    have nn : 0 ≤ d * b * b := by
      have := sq_nn b
      have z := Int.mul_nonneg d0 this
      rw [← Int.mul_assoc] at z
      exact z
    refine ⟨_, rfl, t, _, rfl, hT, rfl, .int a, [.int b], rfl, .int b, [], rfl, rfl, ?_⟩
    refine ⟨_, rfl, _, rfl, d, b, rfl, rfl, wide_mul d1 b1 (by decide) (by decide) (by decide), _, rfl, _, b, rfl, rfl, wide_mul m1 b1 (by decide) (by decide) (by decide), _, rfl, nn, Nat.lt_trans m2 (Nat.pow_lt_pow_right (by decide) (by decide)), fun g g0 g1 g2 => ?_⟩
    have Q1 := q g g0 g1 g2
    refine ⟨_, rfl, b, 0, rfl, rfl, _, rfl, ite2 (fun e => ?_) (fun e => ?_)⟩
    · rw [if_pos (of_decide_eq_true e)] at Q1
      exact ⟨_, rfl, _, rfl, a, g, rfl, rfl, _, 1, rfl, rfl, Q1⟩
    · rw [if_neg (fun z => e (decide_eq_true z))] at Q1
      exact ⟨_, rfl, _, rfl, a, g, rfl, rfl, Q1⟩
end
/-! ### a generator's frame when it is woken: the heap below it counts as the heap of its call -/
def cutH (h : Heap) (n : Nat) : Heap := { h with objs := h.objs.extract 0 n }
theorem cut_low {h : Heap} {n b : Nat} (hb : b < n) : (cutH h n).get? b = h.get? b := by
  have e : (h.objs.extract 0 n)[b]? = h.objs[b]? := by
    rw [Array.getElem?_extract]
    by_cases z : b < h.objs.size
    · rw [if_pos (by omega), Nat.zero_add]
    · rw [if_neg (by omega)]
      simp only [Array.getElem?_eq_none (show h.objs.size ≤ b by omega)]
  unfold Heap.get? cutH
  rw [e]
theorem cut_size {h : Heap} {n : Nat} (hn : n ≤ h.objs.size) : (cutH h n).objs.size = n := by
  show (h.objs.extract 0 n).size = n
  rw [Array.size_extract]
  omega
theorem cut_at {h : Heap} {n b : Nat} {o : Obj} (hn : n ≤ h.objs.size) (e : (cutH h n).get? b = some o) : b < n ∧ h.get? b = some o := by
  have l := Heap.lt_size e
  rw [cut_size hn] at l
  exact ⟨l, (cut_low l).symm.trans e⟩
/-- a tuple of two whole numbers -/
def PairIn (h : Heap) (x : Addr) (p q : Int) : Prop := ∃ its : List Value, Vals [.int p, .int q] its ∧ IsTup h x its.toArray
/-- what a generator knows of the heap when it is woken: its own pairs, and of all that is younger than its frame that it stays -/
def wokenH (L : Nat) (h : Heap) (T : List (Addr × Int × Int)) : Hp := fun b =>
  match h.get? b with
  | none => none
  | some o => match T.find? (fun p => p.1 == b) with
    | some p => some (.frz o (.tup [.int p.2.1, .int p.2.2]))
    | none => if L < b then some (.ext fun h' => h'.get? b = some o) else none
structure GEnv (env : Env) : Prop where
  kind : env.scope.kind = .function
  glob : env.globals = mainGlobals
  blt : env.builtins = builtinsNs
  frame : env.frame = some env.locals
  cells : env.cells = []
  loc : ∀ x k, env.kindOf x = some k → k ≠ .cell ∧ k ≠ .free
def gcx (P : Program) (w : World) (K : PySem.W.Frag) (mg : Str → Option Value) (base : Heap) (N : List Str) (env : Env) (A : Around) (outer : List Env) (s : Shared) (T : List (Addr × Int × Int)) : Cx where
  prog := P
  w := w
  K := K
  mg := mg
  base := base
  A := A.deeper env
  N := N
  s_0 := { s with heap := cutH s.heap env.locals }
  H_0 := fun b => if b < env.locals then wokenH env.locals s.heap T b else none
  env := env
  outer := outer
  stack := env :: outer
  ex := []
  fn := fun _ => true
  calm := true
  pn := []
  xe := fun _ _ => False
/-- what the generator's locals are, as they stand in its frame -/
def LocIs (env : Env) (N : List Str) (h : Heap) (σ : L2.St) : Prop := σ.length = N.length ∧ ∃ m, h.Ns env.locals m ∧ ∀ (i : Nat) (x : Str) (v : V), N[i]? = some x → σ[i]? = some (some v) → Vis env.scope x → ∃ u, RelV v u ∧ env.kindOf x = some .local ∧ m x = some u
/-- what is wanted of the state in which it is woken -/
structure WakeOk (K : PySem.W.Frag) (mg : Str → Option Value) (base : Heap) (env : Env) (outer : List Env) (T : List (Addr × Int × Int)) (s : Shared) : Prop where
  bare : AllBare s.gens
  bs : ∀ b o, base.get? b = some o → s.heap.get? b = some o
  bz : base.objs.size ≤ env.locals
  funs : s.heap.FunFrames base outer
  low : ∀ b ∈ frs outer, b < env.locals
  pairs : ∀ p ∈ T, p.1 ∉ frs outer ∧ base.get? p.1 = none ∧ PairIn s.heap p.1 p.2.1 p.2.2
section
variable {P : Program} {w : World} {K : PySem.W.Frag} {mg : Str → Option Value} {base : Heap} {N : List Str} {env : Env} {A : Around} {outer : List Env} {s : Shared} {T : List (Addr × Int × Int)} {σ : L2.St}
theorem pair_inj {h : Heap} {x : Addr} {p q p' q' : Int} (a : PairIn h x p q) (b : PairIn h x p' q') : p = p' ∧ q = q' := by
  obtain ⟨its, r, o, ho, _, n, hd⟩ := a
  obtain ⟨its', r', o', ho', _, n', hd'⟩ := b
  rw [ho] at ho'
  cases ho'
  rw [hd] at hd'
  injection hd' with e _
  have e2 : its = its' := by simpa using e
  subst e2
  cases r with
  | cons r1 t1 => cases t1 with
    | cons r2 t2 =>
      cases t2
      cases r' with
      | cons r1' t1' => cases t1' with
        | cons r2' t2' =>
          obtain ⟨_, rfl⟩ := r1
          obtain ⟨_, rfl⟩ := r2
          obtain ⟨_, e1⟩ := r1'
          obtain ⟨_, e2⟩ := r2'
          cases e1
          cases e2
          exact ⟨rfl, rfl⟩
theorem woken_pair {L : Nat} {h : Heap} {p : Addr × Int × Int} (hp : p ∈ T) (hT : ∀ p ∈ T, PairIn h p.1 p.2.1 p.2.2) : ∃ o, h.get? p.1 = some o ∧ wokenH L h T p.1 = some (.frz o (.tup [.int p.2.1, .int p.2.2])) := by
  obtain ⟨its, _, o, ho, _⟩ := hT p hp
  refine ⟨o, ho, ?_⟩
  unfold wokenH
  rw [ho]
  dsimp only
  cases hf : T.find? (fun q => q.1 == p.1) with
  | none =>
    have := List.find?_eq_none.mp hf p hp
    simp at this
  | some q =>
    have hb : q.1 = p.1 := by simpa using List.find?_some hf
    have hq := hT q (List.mem_of_find?_eq_some hf)
    rw [hb] at hq
    obtain ⟨e1, e2⟩ := pair_inj hq (hT p hp)
    dsimp only
    rw [e1, e2]
theorem woken_ok (hT : ∀ p ∈ T, PairIn s.heap p.1 p.2.1 p.2.2) (L : Nat) : HOk P w (wokenH L s.heap T) s.heap := by
  intro b u e
  unfold wokenH at e
  cases ho : s.heap.get? b with
  | none => rw [ho] at e; cases e
  | some o =>
    rw [ho] at e
    dsimp only at e
    cases hf : T.find? (fun p => p.1 == b) with
    | some p =>
      rw [hf] at e
      cases e
      have hb : p.1 = b := by simpa using List.find?_some hf
      obtain ⟨its, r, it⟩ := hT p (List.mem_of_find?_eq_some hf)
      rw [hb] at it
      exact ⟨ho, by show 2 ≤ sizeLine; decide, its, r, it⟩
    | none =>
      rw [hf] at e
      dsimp only at e
      split at e
      · cases e
        exact ⟨ho, ⟨o, ho⟩, fun h1 h2 q k => k _ q⟩
      · cases e
theorem pair_noL {L : Nat} {h : Heap} {m : Str → Option Value} {x : Addr} {p q : Int} (hn : h.Ns L m) (hp : PairIn h x p q) : x ≠ L := by
  rintro rfl
  obtain ⟨o, es, ep, ho, hd, _⟩ := hn
  obtain ⟨its, _, o', ho', _, n, hd'⟩ := hp
  rw [ho] at ho'
  cases ho'
  rw [hd] at hd'
  cases hd'
/-- it is woken: its frame's invariant, over the heap as it stands -/
theorem awake (E : GEnv env) (M : Mod K mg base) (hd : A.handled = none) (fr : A.frames = some outer) (W : WakeOk K mg base env outer T s) (hl : LocIs env N s.heap σ) : Inv (gcx P w K mg base N env A outer s T) [] σ (wokenH env.locals s.heap T) s := by
  obtain ⟨len, m, hn, look⟩ := hl
  have lt : env.locals ≤ s.heap.objs.size := Nat.le_of_lt hn.lt
  have noc : ∀ x c, env.cells.lookup x = some c → False := fun x c e => by
    rw [E.cells] at e
    cases e
  have low : ∀ {b o}, (cutH s.heap env.locals).get? b = some o → b < env.locals ∧ s.heap.get? b = some o := fun e => cut_at lt e
  have atL : wokenH env.locals s.heap T env.locals = none := by
    unfold wokenH
    obtain ⟨o, es, ep, ho, hd', _⟩ := id hn
    rw [ho]
    dsimp only
    cases hf : T.find? (fun p => p.1 == env.locals) with
    | some p =>
      have hb : p.1 = env.locals := by simpa using List.find?_some hf
      exact absurd hb (pair_noL hn (W.pairs p (List.mem_of_find?_eq_some hf)).2.2)
    | none =>
      dsimp only
      rw [if_neg (Nat.lt_irrefl _)]
  have atF : ∀ b ∈ frs outer, wokenH env.locals s.heap T b = none := fun b hb => by
    unfold wokenH
    cases ho : s.heap.get? b with
    | none => rfl
    | some o =>
      dsimp only
      cases hf : T.find? (fun p => p.1 == b) with
      | some p =>
        have hb' : p.1 = b := by simpa using List.find?_some hf
        exact absurd (hb' ▸ hb) (W.pairs p (List.mem_of_find?_eq_some hf)).1
      | none =>
        dsimp only
        rw [if_neg (Nat.not_lt.mpr (Nat.le_of_lt (W.low b hb)))]
  have funs : (cutH s.heap env.locals).FunFrames base outer := by
    have all : ∀ l : List Env, (∀ b ∈ frs l, b < env.locals) → s.heap.FunFrames base l → (cutH s.heap env.locals).FunFrames base l := by
      intro l
      induction l with
      | nil => exact fun _ _ => trivial
      | cons e r ih =>
        rintro hlow ⟨hk, ⟨L, o, hf, hb, ho, hdat⟩, hr⟩
        have cons : frs (e :: r) = L :: frs r := by
          show List.filterMap _ _ = _
          rw [List.filterMap_cons, hf]
          rfl
        rw [cons] at hlow
        exact ⟨hk, ⟨L, o, hf, hb, (cut_low (hlow L List.mem_cons_self)).trans ho, hdat⟩, ih (fun b hb => hlow b (List.mem_cons_of_mem _ hb)) hr⟩
    exact all outer W.low W.funs
  have bsl : ∀ b o, base.get? b = some o → b < env.locals := fun b o e => Nat.lt_of_lt_of_le (Heap.lt_size e) W.bz
  have bsn : ∀ b o, base.get? b = some o → wokenH env.locals s.heap T b = none := fun b o e => by
    unfold wokenH
    rw [W.bs b o e]
    dsimp only
    cases hf : T.find? (fun p => p.1 == b) with
    | some p =>
      have hb : p.1 = b := by simpa using List.find?_some hf
      have z := (W.pairs p (List.mem_of_find?_eq_some hf)).2.1
      rw [hb, e] at z
      cases z
    | none =>
      dsimp only
      rw [if_neg (Nat.not_lt.mpr (Nat.le_of_lt (bsl b o e)))]
  have h0 : ∀ b, b < env.locals → (gcx P w K mg base N env A outer s T).H_0 b = wokenH env.locals s.heap T b := fun b hb => if_pos hb
  have h0s : ∀ {b u}, (gcx P w K mg base N env A outer s T).H_0 b = some u → wokenH env.locals s.heap T b = some u := fun {b u} e => by
    by_cases hb : b < env.locals
    · exact (h0 b hb).symm.trans e
    · rw [show (gcx P w K mg base N env A outer s T).H_0 b = none from if_neg hb] at e
      cases e
  have okX : (gcx P w K mg base N env A outer s T).Ok := by
    refine ⟨M, E.kind, E.glob, E.blt, Nat.le_of_eq (cut_size lt), fun x y c e => (noc x c e).elim, fun x hx => ?_, fun x c _ e => (noc x c e).elim, fun _ => hd, Around.frames_deeper fr, .inr ⟨rfl, E.frame⟩, fun b z => (nomatch z), fun b o e => ⟨(cut_low (bsl b o e)).trans (W.bs b o e), (h0 b (bsl b o e)).trans (bsn b o e)⟩, ?_, fun b _ _ z => (nomatch z), fun b z => (nomatch z), funs, fun b hb => (h0 b (W.low b hb)).trans (atF b hb)⟩
    · rcases hx with hx | hx
      · exact absurd rfl (E.loc x _ hx).1
      · exact absurd rfl (E.loc x _ hx).2
    · show base.objs.size ≤ (cutH s.heap env.locals).objs.size
      rw [cut_size lt]
      exact W.bz
  refine ⟨okX, rfl, W.bare, ⟨fun b o e _ _ _ => (low e).2, fun b o e _ _ _ => ⟨o.slots, (low e).2⟩, fun b o e z _ => (h0 b (low e).1).symm.trans z, fun b o e _ => ⟨o, (low e).2⟩, fun b xs e => h0s e, fun b o u e => h0s e, fun b ps e => ⟨#[], by rw [h0s e]; simp⟩⟩,
    ⟨m, hn, fun i x v e1 e2 e3 => ?_⟩, fun x c e => (noc x c e).elim, atL, fun x c e => (noc x c e).elim, fun p hp => by simp [gcx] at hp, woken_ok (fun p hp => (W.pairs p hp).2.2) _, len⟩
  obtain ⟨u, r, k, e⟩ := look i x v e1 e2 e3
  exact ⟨u, r, .inl ⟨k, e⟩⟩
/-- what a run between two yields leaves as it was -/
structure Stays (L : Addr) (fs : List Addr) (h h' : Heap) : Prop where
  keep : ∀ b o, h.get? b = some o → b ≠ L → b ∉ fs → h'.get? b = some o
  slot : ∀ b o, h.get? b = some o → b ≠ L → b ∈ fs → ∃ sl, h'.get? b = some { o with slots := sl }
theorem stays_of {pins : List (Addr × Obj)} {σ' : L2.St} {H' : Hp} {s' : Shared} (lt : env.locals ≤ s.heap.objs.size) (hT : ∀ p ∈ T, PairIn s.heap p.1 p.2.1 p.2.2) (I : Inv (gcx P w K mg base N env A outer s T) pins σ' H' s') (sm : Same (wokenH env.locals s.heap T) H') : Stays env.locals (frs outer) s.heap s'.heap := by
  have known : ∀ b o, s.heap.get? b = some o → b ∉ frs outer → b ≠ env.locals → (b < env.locals ∧ wokenH env.locals s.heap T b = none) ∨ s'.heap.get? b = some o := fun b o e _ ne => by
    cases hw : wokenH env.locals s.heap T b with
    | some u =>
      have z := I.hok b u (sm _ _ hw)
      unfold wokenH at hw
      rw [e] at hw
      dsimp only at hw
      cases hf : T.find? (fun p => p.1 == b) with
      | some p =>
        rw [hf] at hw
        cases hw
        exact .inr z.1
      | none =>
        rw [hf] at hw
        dsimp only at hw
        split at hw
        · cases hw
          exact .inr z.1
        · cases hw
    | none =>
      refine .inl ⟨?_, rfl⟩
      unfold wokenH at hw
      rw [e] at hw
      dsimp only at hw
      cases hf : T.find? (fun p => p.1 == b) with
      | some p => rw [hf] at hw; cases hw
      | none =>
        rw [hf] at hw
        dsimp only at hw
        split at hw
        · cases hw
        · rename_i q
          have q : ¬ env.locals < b := q
          have : (b : Nat) ≠ env.locals := ne
          exact Nat.lt_of_le_of_ne (Nat.not_lt.mp q) this
  refine ⟨fun b o e ne nf => ?_, fun b o e ne hf => ?_⟩
  · rcases known b o e nf ne with ⟨l, z⟩ | z
    · exact I.base.keep b o ((cut_low l).trans e) ((if_pos l).trans z) nf (fun q => nomatch q)
    · exact z
  · have hs := I.ok.funs.mem hf
    obtain ⟨_, o', ho', _⟩ := hs
    have l := (cut_at lt ho').1
    exact I.base.slot b o ((cut_low l).trans e) (I.ok.frf b hf) hf (fun q => nomatch q)
/-- a pair that was made in such a run stands where nothing stood -/
theorem made_new {pins : List (Addr × Obj)} {σ' : L2.St} {H1 H' : Hp} {s' : Shared} {x : Addr} {p q : Int} (lt : env.locals ≤ s.heap.objs.size) (I : Inv (gcx P w K mg base N env A outer s T) pins σ' H' s') (sm : Same (wokenH env.locals s.heap T) H1) (n : H1 x = none) (e : H' x = some (.tup [.int p, .int q])) : s.heap.get? x = none ∧ PairIn s'.heap x p q := by
  refine ⟨?_, (I.hok x _ e).2⟩
  cases ho : s.heap.get? x with
  | none => rfl
  | some o =>
    exfalso
    have hw : wokenH env.locals s.heap T x = none := by
      cases z : wokenH env.locals s.heap T x with
      | none => rfl
      | some u =>
        rw [sm _ _ z] at n
        cases n
    have nl : x ≠ env.locals := fun z => by
      rw [z] at e
      have z2 := I.free
      rw [show (gcx P w K mg base N env A outer s T).env.locals = env.locals from rfl, e] at z2
      cases z2
    have lx : x < env.locals := by
      have hw' := hw
      unfold wokenH at hw'
      rw [ho] at hw'
      dsimp only at hw'
      cases hf : T.find? (fun p => p.1 == x) with
      | some p => rw [hf] at hw'; cases hw'
      | none =>
        rw [hf] at hw'
        dsimp only at hw'
        split at hw'
        · cases hw'
        · rename_i q
          have q : ¬ env.locals < x := q
          have nl' : (x : Nat) ≠ env.locals := nl
          exact Nat.lt_of_le_of_ne (Nat.not_lt.mp q) nl'
    have z := I.base.free x o ((cut_low lx).trans ho) ((if_pos lx).trans hw) (fun q => nomatch q)
    rw [e] at z
    cases z
theorem WakeOk.new (W : WakeOk K mg base env outer T s) {x : Addr} (n : s.heap.get? x = none) : x ∉ frs outer ∧ base.get? x = none := by
  refine ⟨fun hx => ?_, ?_⟩
  · obtain ⟨_, o, ho, _⟩ := W.funs.mem hx
    rw [n] at ho
    cases ho
  · cases hb : base.get? x with
    | none => rfl
    | some o =>
      rw [W.bs x o hb] at n
      cases n
theorem after_run {pins : List (Addr × Obj)} {σ' : L2.St} {H' : Hp} {s' : Shared} {T' : List (Addr × Int × Int)} (E : GEnv env) (W : WakeOk K mg base env outer T s) (I : Inv (gcx P w K mg base N env A outer s T) pins σ' H' s')
    (hp : ∀ p ∈ T', p.1 ∉ frs outer ∧ base.get? p.1 = none ∧ PairIn s'.heap p.1 p.2.1 p.2.2) : WakeOk K mg base env outer T' s' ∧ LocIs env N s'.heap σ' := by
  refine ⟨⟨I.bare, I.bk, W.bz, I.funs, W.low, hp⟩, I.len, ?_⟩
  obtain ⟨m, hn, look⟩ := I.loc
  refine ⟨m, hn, fun i x v e1 e2 e3 => ?_⟩
  obtain ⟨u, r, z⟩ := look i x v e1 e2 e3
  refine ⟨u, r, ?_⟩
  rcases z with z | ⟨z, _⟩
  · exact z
  · rcases z with z | z
    · exact absurd rfl (E.loc x _ z).1
    · exact absurd rfl (E.loc x _ z).2
end
/-! ### the continued fraction of a root: its numbers, its fractions -/
/-- m, t, k ahead of the i-th turn -/
def cfS (r w : Int) : Nat → Int × Int × Int
  | 0 => (0, 1, w)
  | i + 1 => ((cfS r w i).2.1 * (cfS r w i).2.2 - (cfS r w i).1, (r - ((cfS r w i).2.1 * (cfS r w i).2.2 - (cfS r w i).1) * ((cfS r w i).2.1 * (cfS r w i).2.2 - (cfS r w i).1)) / (cfS r w i).2.1,
      (w + ((cfS r w i).2.1 * (cfS r w i).2.2 - (cfS r w i).1)) / ((r - ((cfS r w i).2.1 * (cfS r w i).2.2 - (cfS r w i).1) * ((cfS r w i).2.1 * (cfS r w i).2.2 - (cfS r w i).1)) / (cfS r w i).2.1))
/-- the last two fractions ahead of the i-th turn -/
def cfR (r w : Int) : Nat → (Int × Int) × (Int × Int)
  | 0 => ((1, 0), (0, 1))
  | i + 1 => (((cfR r w i).1.1 * (cfS r w i).2.2 + (cfR r w i).2.1, (cfR r w i).1.2 * (cfS r w i).2.2 + (cfR r w i).2.2), (cfR r w i).1)
/-- the i-th fraction -/
def cfF (r w : Int) (i : Nat) : Int × Int := (cfR r w (i + 1)).1
theorem cfR_two (r w : Int) (i : Nat) : cfR r w (i + 2) = (cfF r w (i + 1), cfF r w i) := rfl
def isW (r w : Int) : Prop := 0 ≤ w ∧ w * w < r ∧ r < (w + 1) * (w + 1)
/-- what holds of m, t from the first turn on -/
def cfGood (r w m t : Int) : Bool := decide (1 ≤ m ∧ m ≤ w ∧ 1 ≤ t ∧ w - m < t ∧ t ≤ w + m ∧ (r - m * m) % t = 0 ∧ 1 ≤ (r - m * m) / t ∧ t < (r - m * m) / t + 2 * m)
def cfNext (r w m t : Int) : Bool :=
  let m' := t * ((w + m) / t) - m
  cfGood r w m' ((r - m' * m') / t)
def cfAll : Bool := (List.range 98).all fun r0 => (List.range 10).all fun w => !decide ((w * w : Int) < (r0 + 2 : Int) ∧ (r0 + 2 : Int) < ((w : Int) + 1) * (w + 1)) ||
  (cfGood (r0 + 2) w w (r0 + 2 - w * w) && (List.range 10).all fun m => (List.range 20).all fun t => !cfGood (r0 + 2) w m t || cfNext (r0 + 2) w m t)
theorem cf_all : cfAll = true := by decide +kernel
theorem cf_root {r w : Int} (h2 : 2 ≤ r) (h99 : r ≤ 99) (hw : isW r w) : cfGood r w w (r - w * w) = true ∧ ∀ m t, cfGood r w m t = true → cfNext r w m t = true := by
  obtain ⟨w0, w1, w2⟩ := hw
  have w9 : w ≤ 9 := by
    rcases Int.lt_or_le 9 w with z | z
    · have := Int.mul_le_mul (show (10 : Int) ≤ w by omega) (show (10 : Int) ≤ w by omega) (by decide) (by omega)
      omega
    · exact z
  have A := cf_all
  unfold cfAll at A
  have A1 := List.all_eq_true.mp A (r - 2).toNat (List.mem_range.mpr (by omega))
  have A2 := List.all_eq_true.mp A1 w.toNat (List.mem_range.mpr (by omega))
  have er : (((r - 2).toNat : Nat) : Int) + 2 = r := by omega
  have ew : ((w.toNat : Nat) : Int) = w := by omega
  rw [er, ew] at A2
  rw [show decide (w * w < r ∧ r < (w + 1) * (w + 1)) = true from decide_eq_true ⟨w1, w2⟩, Bool.not_true, Bool.false_or, Bool.and_eq_true] at A2
  refine ⟨A2.1, fun m t g => ?_⟩
  obtain ⟨m1, m2, t1, t2, t3, _⟩ := of_decide_eq_true g
  have B1 := List.all_eq_true.mp A2.2 m.toNat (List.mem_range.mpr (by omega))
  have B2 := List.all_eq_true.mp B1 t.toNat (List.mem_range.mpr (by omega))
  have em : ((m.toNat : Nat) : Int) = m := by omega
  have et : ((t.toNat : Nat) : Int) = t := by omega
  rw [em, et, g, Bool.not_true, Bool.false_or] at B2
  exact B2
section
variable {r w : Int}
theorem cf_good (h2 : 2 ≤ r) (h99 : r ≤ 99) (hw : isW r w) : ∀ i, cfGood r w (cfS r w (i + 1)).1 (cfS r w (i + 1)).2.1 = true ∧ (cfS r w (i + 1)).2.2 = (w + (cfS r w (i + 1)).1) / (cfS r w (i + 1)).2.1
  | 0 => by
    refine ⟨?_, rfl⟩
    have g := (cf_root h2 h99 hw).1
    have e1 : (cfS r w 1).1 = w := by
      show 1 * w - 0 = w
      omega
    have e2 : (cfS r w 1).2.1 = r - w * w := by
      show (r - (1 * w - 0) * (1 * w - 0)) / 1 = _
      rw [Int.ediv_one, Int.one_mul, Int.sub_zero]
    rw [e1, e2]
    exact g
  | i + 1 => by
    refine ⟨?_, rfl⟩
    obtain ⟨g, e⟩ := cf_good h2 h99 hw i
    have n := (cf_root h2 h99 hw).2 _ _ g
    unfold cfNext at n
    rw [← e] at n
    exact n
/-- of every turn -/
theorem cf_num (h2 : 2 ≤ r) (h99 : r ≤ 99) (hw : isW r w) (i : Nat) : 0 ≤ (cfS r w i).1 ∧ (cfS r w i).1 ≤ 9 ∧ 1 ≤ (cfS r w i).2.1 ∧ (cfS r w i).2.1 ≤ 99 ∧ 1 ≤ (cfS r w i).2.2 ∧ (cfS r w i).2.2 ≤ 18 := by
  obtain ⟨w0, w1, w2⟩ := id hw
  have w9 : w ≤ 9 := by
    rcases Int.lt_or_le 9 w with z | z
    · have := Int.mul_le_mul (show (10 : Int) ≤ w by omega) (show (10 : Int) ≤ w by omega) (by decide) (by omega)
      omega
    · exact z
  have wp : 1 ≤ w := by
    rcases Int.lt_or_le w 1 with z | z
    · have : w = 0 := by omega
      subst this
      omega
    · exact z
  cases i with
  | zero => exact ⟨show (0 : Int) ≤ 0 by decide, show (0 : Int) ≤ 9 by decide, show (1 : Int) ≤ 1 by decide, show (1 : Int) ≤ 99 by decide, wp, show w ≤ 18 by omega⟩
  | succ i =>
    obtain ⟨g, e⟩ := cf_good h2 h99 hw i
    obtain ⟨m1, m2, t1, t2, t3, _⟩ := of_decide_eq_true g
    rw [e]
    generalize (cfS r w (i + 1)).1 = m at *
    generalize (cfS r w (i + 1)).2.1 = t at *
    have k1 : 1 ≤ (w + m) / t := by
      have := Int.ediv_le_ediv (show 0 < t by omega) t3
      rw [Int.ediv_self (by omega)] at this
      exact this
    have k2 : (w + m) / t ≤ w + m := Int.ediv_le_self _ (by omega)
    exact ⟨by omega, by omega, t1, by omega, k1, by omega⟩
/-- how great they become -/
theorem cf_bound (h2 : 2 ≤ r) (h99 : r ≤ 99) (hw : isW r w) : ∀ i, (0 ≤ (cfR r w i).1.1 ∧ 0 ≤ (cfR r w i).1.2 ∧ 0 ≤ (cfR r w i).2.1 ∧ 0 ≤ (cfR r w i).2.2) ∧ ((cfR r w i).1.1 < 2 ^ (5 * i + 1) ∧ (cfR r w i).1.2 < 2 ^ (5 * i + 1) ∧ (cfR r w i).2.1 < 2 ^ (5 * i + 1) ∧ (cfR r w i).2.2 < 2 ^ (5 * i + 1))
  | 0 => ⟨⟨show (0 : Int) ≤ 1 by decide, show (0 : Int) ≤ 0 by decide, show (0 : Int) ≤ 0 by decide, show (0 : Int) ≤ 1 by decide⟩, show (1 : Int) < 2 ^ 1 by decide, show (0 : Int) < 2 ^ 1 by decide, show (0 : Int) < 2 ^ 1 by decide, show (1 : Int) < 2 ^ 1 by decide⟩
  | i + 1 => by
    obtain ⟨⟨a, b, c, d⟩, a', b', c', d'⟩ := cf_bound h2 h99 hw i
    obtain ⟨_, _, _, _, k1, k2⟩ := cf_num h2 h99 hw i
    have e : (2 : Int) ^ (5 * (i + 1) + 1) = 2 ^ (5 * i + 1) * 32 := by
      rw [show 5 * (i + 1) + 1 = (5 * i + 1) + 5 by omega, Int.pow_add]
      rfl
    show (0 ≤ (cfR r w i).1.1 * (cfS r w i).2.2 + (cfR r w i).2.1 ∧ 0 ≤ (cfR r w i).1.2 * (cfS r w i).2.2 + (cfR r w i).2.2 ∧ 0 ≤ (cfR r w i).1.1 ∧ 0 ≤ (cfR r w i).1.2) ∧ ((cfR r w i).1.1 * (cfS r w i).2.2 + (cfR r w i).2.1 < _ ∧ (cfR r w i).1.2 * (cfS r w i).2.2 + (cfR r w i).2.2 < _ ∧ (cfR r w i).1.1 < _ ∧ (cfR r w i).1.2 < _)
    rw [e]
    generalize (2 : Int) ^ (5 * i + 1) = B at *
    generalize (cfS r w i).2.2 = k at *
    generalize (cfR r w i).1.1 = x at *
    generalize (cfR r w i).1.2 = y at *
    have u1 : x * k ≤ x * 18 := Int.mul_le_mul_of_nonneg_left k2 a
    have u2 : y * k ≤ y * 18 := Int.mul_le_mul_of_nonneg_left k2 b
    have l1 : 0 ≤ x * k := Int.mul_nonneg a (by omega)
    have l2 : 0 ≤ y * k := Int.mul_nonneg b (by omega)
    exact ⟨⟨by omega, by omega, a, b⟩, by omega, by omega, by omega, by omega⟩
end
/-! ### what sleeps stays asleep: a run that never wakes a generator leaves its entry as it was -/
/-- a sleeping generator that could not go on, were it woken -/
def deadOf : GenState → GenState
  | .suspended _ l c p fs cl => .suspended (fun _ => .unsupported "") l c p fs cl
  | x => x
def sleeps : GenState → Bool
  | .suspended .. => true
  | _ => false
def flatG : GenState → Prop
  | .suspended _ _ _ _ fs _ => splitAtGen fs = none
  | _ => True
def flatE : End → Prop
  | .susp _ _ _ _ _ _ fs => splitAtGen fs = none
  | _ => True
/-- the table of generators, where those of D are put back -/
def thawA (D : Nat → Option GenState) (G : Array GenState) : Array GenState := G.mapIdx fun i y => (D i).getD y
def thaw (D : Nat → Option GenState) (s : Shared) : Shared := { s with gens := thawA D s.gens }
/-- those of D lie there dead, all others have no generator's frame in their own -/
structure Frozen (D : Nat → Option GenState) (s : Shared) : Prop where
  dead : ∀ i x, D i = some x → sleeps x = true ∧ s.gens[i]? = some (deadOf x)
  flat : ∀ i y, s.gens[i]? = some y → D i = none → flatG y
section
variable {D : Nat → Option GenState}
theorem thawA_size (G : Array GenState) : (thawA D G).size = G.size := by
  unfold thawA
  rw [Array.size_mapIdx]
theorem thawA_at (G : Array GenState) (i : Nat) : (thawA D G)[i]? = (G[i]?).map fun y => (D i).getD y := by
  unfold thawA
  rw [Array.getElem?_mapIdx]
theorem thaw_at {s : Shared} {i : Nat} {y : GenState} (h : s.gens[i]? = some y) (n : D i = none) : (thaw D s).gens[i]? = some y := by
  show (thawA D s.gens)[i]? = _
  rw [thawA_at, h, n]
  rfl
theorem thaw_dead {s : Shared} {i : Nat} {x : GenState} (F : Frozen D s) (h : D i = some x) : (thaw D s).gens[i]? = some x := by
  show (thawA D s.gens)[i]? = _
  rw [thawA_at, (F.dead i x h).2, h]
  rfl
theorem thaw_set {s : Shared} {g : Nat} {x : GenState} (n : D g = none) : thaw D (s.setGen g x) = (thaw D s).setGen g x := by
  show ({ s with gens := thawA D (s.gens.setIfInBounds g x) } : Shared) = { s with gens := (thawA D s.gens).setIfInBounds g x }
  have e : thawA D (s.gens.setIfInBounds g x) = (thawA D s.gens).setIfInBounds g x := by
    apply Array.ext_getElem?
    intro i
    rw [thawA_at, Array.getElem?_setIfInBounds, Array.getElem?_setIfInBounds, thawA_at, thawA_size]
    by_cases z : g = i
    · subst z
      rw [if_pos rfl, if_pos rfl]
      split
      · rw [Option.map_some, n]
        rfl
      · rfl
    · rw [if_neg z, if_neg z]
  rw [e]
theorem thaw_push {s : Shared} {x : GenState} (n : D s.gens.size = none) : thaw D { s with gens := s.gens.push x } = { thaw D s with gens := (thaw D s).gens.push x } := by
  have e : thawA D (s.gens.push x) = (thawA D s.gens).push x := by
    apply Array.ext_getElem?
    intro i
    rw [thawA_at, Array.getElem?_push, Array.getElem?_push, thawA_at, thawA_size]
    by_cases z : i = s.gens.size
    · rw [if_pos z, if_pos z, z, Option.map_some, n]
      rfl
    · rw [if_neg z, if_neg z]
  show ({ s with gens := thawA D (s.gens.push x) } : Shared) = { s with gens := (thawA D s.gens).push x }
  rw [e]
theorem Frozen.none_size {s : Shared} (F : Frozen D s) : D s.gens.size = none := by
  cases h : D s.gens.size with
  | none => rfl
  | some x =>
    have := (F.dead _ x h).2
    rw [Array.getElem?_eq_none (Nat.le_refl _)] at this
    cases this
theorem Frozen.set {s : Shared} {g : Nat} {y : GenState} (F : Frozen D s) (n : D g = none) (h : flatG y) : Frozen D (s.setGen g y) := by
  refine ⟨fun i x e => ⟨(F.dead i x e).1, ?_⟩, fun i z e m => ?_⟩
  · show (s.gens.setIfInBounds g y)[i]? = _
    rw [Array.getElem?_setIfInBounds_ne (fun q => by rw [q, e] at n; cases n)]
    exact (F.dead i x e).2
  · have e : (s.gens.setIfInBounds g y)[i]? = some z := e
    by_cases q : g = i
    · subst q
      rw [Array.getElem?_setIfInBounds] at e
      rw [if_pos rfl] at e
      split at e
      · cases e
        exact h
      · cases e
    · rw [Array.getElem?_setIfInBounds_ne q] at e
      exact F.flat i z e m
theorem Frozen.push {s : Shared} {c : Code} (F : Frozen D s) : Frozen D { s with gens := s.gens.push (.fresh c) } := by
  refine ⟨fun i x e => ⟨(F.dead i x e).1, ?_⟩, fun i z e m => ?_⟩
  · show (s.gens.push _)[i]? = _
    rw [Array.getElem?_push, if_neg (fun q => by rw [q, F.none_size] at e; cases e)]
    exact (F.dead i x e).2
  · have e : (s.gens.push (.fresh c))[i]? = some z := e
    rw [Array.getElem?_push] at e
    split at e
    · cases e
      trivial
    · exact F.flat i z e m
theorem Frozen.heap {s : Shared} (F : Frozen D s) (s' : Shared) (h : s'.gens = s.gens) : Frozen D s' := ⟨fun i x e => by rw [h]; exact F.dead i x e, fun i y e n => F.flat i y (by rw [← h]; exact e) n⟩
theorem seen_dead (x : GenState) : (deadOf x).seen = x.seen := by cases x <;> rfl
theorem flat_app : ∀ {fs gs : List Frame}, splitAtGen fs = none → splitAtGen gs = none → splitAtGen (fs ++ gs) = none
  | [], _, _, h => h
  | .gen .. :: _, _, h, _ => by simp [splitAtGen] at h
  | .ret .. :: fs, gs, h, h' => by
    have h : (splitAtGen fs).map _ = none := h
    show (splitAtGen (fs ++ gs)).map _ = none
    rw [flat_app (Option.map_eq_none_iff.mp h) h']
    rfl
theorem flat_ret {k : Result → Sem PySem.Fin} {h : Option Value} {g : Bool} {l kp : List Value} {c : Code} {p : Pos} {fs : List Frame} (e : splitAtGen (.ret k h g l c p kp :: fs) = none) : splitAtGen fs = none := Option.map_eq_none_iff.mp e
theorem no_run {M : Model} {Γ : PySem.Ctx} {p : Pos} {fs : List Frame} {s s' : Shared} {e : End} {w : String} : ¬ Runs M Γ p (.unsupported w) fs s e s' := by
  intro h
  generalize ht : (Sem.unsupported w : Sem PySem.Fin) = t at h
  induction h <;> (try cases ht) <;> simp_all
theorem flat_state {e : End} (h : flatE e) : flatG e.genState := by
  cases e with
  | ret _ => trivial
  | susp _ _ _ _ _ _ _ => exact h
theorem Frozen.free {s : Shared} {g : Nat} {y : GenState} (F : Frozen D s) (h : s.gens[g]? = some y) (n : sleeps y = false) : D g = none := by
  cases q : D g with
  | none => rfl
  | some x =>
    obtain ⟨h1, h2⟩ := F.dead g x q
    rw [h] at h2
    cases h2
    cases x <;> simp_all [sleeps, deadOf]
theorem seen_at {s : Shared} {g : Nat} {st : GenState} (F : Frozen D s) (q : s.gens[g]? = some st) : ∃ x, (thaw D s).gens[g]? = some x ∧ x.seen = st.seen := by
  cases z : D g with
  | none => exact ⟨st, thaw_at q z, rfl⟩
  | some x =>
    have h2 := (F.dead g x z).2
    rw [q] at h2
    cases h2
    exact ⟨x, thaw_dead F z, (seen_dead x).symm⟩
theorem susp_free {M : Model} {Γ : PySem.Ctx} {p p0 : Pos} {s s1 s' : Shared} {g : Nat} {k : Resume → Sem PySem.Fin} {l : List Value} {c : Code} {fs : List Frame} {cl : Bool} {r : Resume} {e : End} (F : Frozen D s) (q : s.gens[g]? = some (.suspended k l c p0 fs cl)) (h : Runs M Γ p (k r) fs s1 e s') : D g = none := by
  cases z : D g with
  | none => rfl
  | some x =>
    obtain ⟨h1, h2⟩ := F.dead g x z
    rw [q] at h2
    cases x <;> simp [sleeps] at h1
    simp only [deadOf, Option.some.injEq, GenState.suspended.injEq] at h2
    obtain ⟨rfl, _⟩ := h2
    exact absurd h no_run
/-- the run itself -/
theorem runs_thaw {M : Model} {Γ : PySem.Ctx} {p : Pos} {t : Sem PySem.Fin} {fs : List Frame} {s s' : Shared} {e : End} (h : Runs M Γ p t fs s e s') : splitAtGen fs = none → Frozen D s → Frozen D s' ∧ flatE e ∧ Runs M Γ p t fs (thaw D s) e (thaw D s') := by
  induction h with
  | done => exact fun _ F => ⟨F, trivial, .done⟩
  | raise => exact fun _ F => ⟨F, trivial, .raise⟩
  | again q _ ih => exact fun _ F => let ⟨a, b, c⟩ := ih rfl F; ⟨a, b, .again q c⟩
  | rule _ ih => exact fun _ F => let ⟨a, b, c⟩ := ih rfl F; ⟨a, b, .rule c⟩
  | «at» _ ih => exact fun _ F => let ⟨a, b, c⟩ := ih rfl F; ⟨a, b, .at c⟩
  | load q _ ih => exact fun _ F => let ⟨a, b, c⟩ := ih rfl F; ⟨a, b, .load q c⟩
  | update q _ ih => exact fun _ F => let ⟨a, b, c⟩ := ih rfl (F.heap _ rfl); ⟨a, b, .update q c⟩
  | loadIfAlive _ ih => exact fun _ F => let ⟨a, b, c⟩ := ih rfl F; ⟨a, b, .loadIfAlive c⟩
  | point _ ih => exact fun _ F => let ⟨a, b, c⟩ := ih rfl F; ⟨a, b, .point c⟩
  | alloc _ ih => exact fun _ F => let ⟨a, b, c⟩ := ih rfl (F.heap _ rfl); ⟨a, b, .alloc c⟩
  | fresh _ ih => exact fun _ F => let ⟨a, b, c⟩ := ih rfl (F.heap _ rfl); ⟨a, b, .fresh c⟩
  | ask _ ih => exact fun _ F => let ⟨a, b, c⟩ := ih rfl F; ⟨a, b, .ask c⟩
  | choose q _ ih => exact fun _ F => let ⟨a, b, c⟩ := ih rfl (F.heap _ rfl); ⟨a, b, .choose q c⟩
  | os _ ih => exact fun _ F => let ⟨a, b, c⟩ := ih rfl (F.heap _ rfl); ⟨a, b, .os c⟩
  | handled _ ih => exact fun _ F => let ⟨a, b, c⟩ := ih rfl F; ⟨a, b, .handled c⟩
  | stack _ ih => exact fun _ F => let ⟨a, b, c⟩ := ih rfl F; ⟨a, b, .stack c⟩
  | thread _ ih => exact fun _ F => let ⟨a, b, c⟩ := ih rfl F; ⟨a, b, .thread c⟩
  | genState q _ ih =>
    intro _ F
    obtain ⟨a, b, c⟩ := ih rfl F
    obtain ⟨x, hx, e⟩ := seen_at F q
    rw [← e] at c
    exact ⟨a, b, .genState hx c⟩
  | newGen _ ih =>
    intro _ F
    obtain ⟨a, b, c⟩ := ih rfl F.push
    refine ⟨a, b, .newGen ?_⟩
    rw [thaw_push F.none_size] at c
    rw [show ∀ s : Shared, (thaw D s).gens.size = s.gens.size from fun s => thawA_size _]
    exact c
  | call _ _ ih1 ih2 =>
    intro _ F
    obtain ⟨a, _, c⟩ := ih1 rfl F
    obtain ⟨a2, b2, c2⟩ := ih2 rfl a
    exact ⟨a2, b2, .call c c2⟩
  | callSusp _ ih =>
    intro _ F
    obtain ⟨a, b, c⟩ := ih rfl F
    exact ⟨a, flat_app b rfl, .callSusp c⟩
  | yield => exact fun _ F => ⟨F, rfl, .yield⟩
  | resumeFresh q _ hq _ ih1 ih2 =>
    intro _ F
    have n := F.free q rfl
    obtain ⟨a, b, c⟩ := ih1 rfl (F.set n trivial)
    obtain ⟨a2, b2, c2⟩ := ih2 rfl (a.set n (flat_state b))
    rw [thaw_set n] at c c2
    exact ⟨a2, b2, .resumeFresh (thaw_at q n) c hq c2⟩
  | resumeSuspended q r hq _ ih1 ih2 =>
    intro _ F
    have z := susp_free F q r
    obtain ⟨a, b, c⟩ := ih1 (F.flat _ _ q z) (F.set z trivial)
    obtain ⟨a2, b2, c2⟩ := ih2 rfl (a.set z (flat_state b))
    rw [thaw_set z] at c c2
    exact ⟨a2, b2, .resumeSuspended (thaw_at q z) c hq c2⟩
  | resumeJustStarted q v _ ih => exact fun _ F => let ⟨a, b, c⟩ := ih rfl F; ⟨a, b, .resumeJustStarted (thaw_at q (F.free q rfl)) v c⟩
  | resumeThrowFresh q _ ih =>
    intro _ F
    have n := F.free q rfl
    obtain ⟨a, b, c⟩ := ih rfl (F.set n trivial)
    rw [thaw_set n] at c
    exact ⟨a, b, .resumeThrowFresh (thaw_at q n) c⟩
  | resumeRunning q _ ih => exact fun _ F => let ⟨a, b, c⟩ := ih rfl F; ⟨a, b, .resumeRunning (thaw_at q (F.free q rfl)) c⟩
  | resumeFinished q _ ih => exact fun _ F => let ⟨a, b, c⟩ := ih rfl F; ⟨a, b, .resumeFinished (thaw_at q (F.free q rfl)) c⟩
  | segRet _ _ ih1 ih2 =>
    intro hf F
    obtain ⟨a, _, c⟩ := ih1 rfl F
    obtain ⟨a2, b2, c2⟩ := ih2 (flat_ret hf) a
    exact ⟨a2, b2, .segRet c c2⟩
  | segGen _ _ _ _ => intro hf; simp [splitAtGen] at hf
  | segSuspOut q _ ih =>
    intro _ F
    obtain ⟨a, b, c⟩ := ih rfl F
    exact ⟨a, flat_app b q, .segSuspOut q c⟩
  | segSuspGen q _ _ _ _ _ =>
    intro hf
    rw [q] at hf
    cases hf
theorem wakes_thaw {M : Model} {Γ : PySem.Ctx} {p : Pos} {g : Nat} {r : Resume} {s s' : Shared} {res : GenResult} (h : Wakes M Γ p g r s res s') (F : Frozen D s) : Frozen D s' ∧ Wakes M Γ p g r (thaw D s) res (thaw D s') := by
  unfold Wakes at h ⊢
  cases q : s.gens[g]? with
  | none => rw [q] at h; exact h.elim
  | some y =>
    rw [q] at h
    cases y with
    | fresh c =>
      have n := F.free q rfl
      rw [thaw_at q n]
      cases r with
      | throw x =>
        obtain ⟨rfl, rfl⟩ := h
        exact ⟨F.set n trivial, rfl, thaw_set n⟩
      | send v =>
        by_cases z : v = .none
        · subst z
          obtain ⟨e1, s1, hr, hq, rfl, rfl⟩ := h
          obtain ⟨a, b, c⟩ := runs_thaw hr rfl (F.set n trivial)
          rw [thaw_set n] at c
          exact ⟨a.set n (flat_state b), e1, thaw D s1, c, hq, rfl, thaw_set n⟩
        · have h : res = .justStarted ∧ s' = s := by
            revert h
            cases v <;> first | (exact fun h => h) | exact absurd rfl z
          obtain ⟨rfl, rfl⟩ := h
          refine ⟨F, ?_⟩
          cases v <;> first | exact ⟨rfl, rfl⟩ | exact absurd rfl z
    | suspended k l c p0 fs cl =>
      obtain ⟨e1, s1, hr, hq, rfl, rfl⟩ := h
      have z := susp_free F q hr
      rw [thaw_at q z]
      obtain ⟨a, b, c⟩ := runs_thaw hr (F.flat g _ q z) (F.set z trivial)
      rw [thaw_set z] at c
      exact ⟨a.set z (flat_state b), e1, thaw D s1, c, hq, rfl, thaw_set z⟩
    | running =>
      obtain ⟨rfl, rfl⟩ := h
      rw [thaw_at q (F.free q rfl)]
      exact ⟨F, rfl, rfl⟩
    | finished =>
      obtain ⟨rfl, rfl⟩ := h
      rw [thaw_at q (F.free q rfl)]
      exact ⟨F, rfl, rfl⟩
theorem wp_thaw {α : Type} (M : Model) (Γ : PySem.Ctx) (t : Sem α) : ∀ (Q : α → Pos → Shared → Prop) (E : Value → Pos → Shared → Prop) (p : Pos) (s : Shared), Frozen D s → Sem.wp M Γ t Q E p s →
    Sem.wp M Γ t (fun a p' s' => ∃ s1, s' = thaw D s1 ∧ Frozen D s1 ∧ Q a p' s1) (fun e p' s' => ∃ s1, s' = thaw D s1 ∧ Frozen D s1 ∧ E e p' s1) p (thaw D s) := by
  induction t with
  | pure a => exact fun Q E p s F h => ⟨s, rfl, F, h⟩
  | raise e => exact fun Q E p s F h => ⟨s, rfl, F, h⟩
  | unsupported _ => exact fun Q E p s F h => h
  | finish _ => exact fun Q E p s F h => h
  | rule _ k ih => exact fun Q E p s F h => ih () Q E p s F h
  | «at» p' k ih => exact fun Q E p s F h => ih () Q E p' s F h
  | load a _ k ih => exact fun Q E p s F ⟨o, ho, h⟩ => ⟨o, ho, ih o Q E p s F h⟩
  | update a _ f k ih => exact fun Q E p s F h => ⟨h.1, ih () Q E p _ (F.heap { s with heap := s.heap.update a f } rfl) h.2⟩
  | loadIfAlive a k ih => exact fun Q E p s F h => ih _ Q E p s F h
  | point _ k ih => exact fun Q E p s F h => ih () Q E p s F h
  | register _ _ => exact fun Q E p s F h => h
  | alloc o k ih => exact fun Q E p s F h => ih _ Q E p _ (F.heap { s with heap := s.heap.push o } rfl) h
  | fresh k ih => exact fun Q E p s F h => ih _ Q E p _ (F.heap { s with toks := s.toks + 1 } rfl) h
  | ask k ih => exact fun Q E p s F h => ih _ Q E p s F h
  | choose src m k ih => exact fun Q E p s F h => ⟨h.1, ih _ Q E p _ (F.heap { s with drawn := s.drawn.bump src } rfl) h.2⟩
  | os q _ k ih => exact fun Q E p s F h => ih _ Q E p _ (F.heap { s with os := (Os.step s.os q).1 } rfl) h
  | call c hd _ _ k ih =>
    intro Q E p s F h
    obtain ⟨r, s', hr, h⟩ := h
    obtain ⟨a, _, c⟩ := runs_thaw hr rfl F
    exact ⟨r, thaw D s', c, ih r Q E p s' a h⟩
  | handled own k ih => exact fun Q E p s F h => ih _ Q E p s F h
  | genState g k ih =>
    intro Q E p s F h
    obtain ⟨st, hs, h⟩ := h
    obtain ⟨x, hx, e⟩ := seen_at F hs
    have q := ih st.seen Q E p s F h
    rw [← e] at q
    exact ⟨x, hx, q⟩
  | newGen c k ih =>
    intro Q E p s F h
    have q := ih s.gens.size Q E p _ (F.push (c := c)) h
    rw [thaw_push F.none_size] at q
    show Sem.wp M Γ (k (thaw D s).gens.size) _ _ p _
    rw [show (thaw D s).gens.size = s.gens.size from thawA_size _]
    exact q
  | resume g r _ k ih =>
    intro Q E p s F h
    obtain ⟨res, s', hw, h⟩ := h
    obtain ⟨a, c⟩ := wakes_thaw hw F
    exact ⟨res, thaw D s', c, ih res Q E p s' a h⟩
  | yield _ _ _ _ => exact fun Q E p s F h => h
  | stack k ih => exact fun Q E p s F h => ih _ Q E p s F h
  | fork _ _ => exact fun Q E p s F h => h
  | thread k ih => exact fun Q E p s F h => ih _ Q E p s F h
  | await _ _ _ _ _ => exact fun Q E p s F h => h
end
/-- those that sleep in a table -/
def asleep (G : Array GenState) (i : Nat) : Option GenState := match G[i]? with
  | some x => if sleeps x then some x else none
  | none => none
/-- a table where all that sleep lie dead -/
def laid (s : Shared) : Shared := { s with gens := s.gens.map deadOf }
theorem laid_frozen (s : Shared) : Frozen (asleep s.gens) (laid s) := by
  refine ⟨fun i x e => ?_, fun i y e n => ?_⟩
  · unfold asleep at e
    split at e
    · rename_i z hz
      split at e
      · rename_i hs
        cases e
        refine ⟨hs, ?_⟩
        show (s.gens.map deadOf)[i]? = _
        rw [Array.getElem?_map, hz]
        rfl
      · cases e
    · cases e
  · have e : (s.gens.map deadOf)[i]? = some y := e
    rw [Array.getElem?_map] at e
    unfold asleep at n
    cases hz : s.gens[i]? with
    | none => rw [hz] at e; cases e
    | some z =>
      rw [hz] at e n
      cases e
      cases z <;> simp_all [sleeps, deadOf, flatG]
theorem laid_thaw (s : Shared) : thaw (asleep s.gens) (laid s) = s := by
  show ({ s with gens := thawA (asleep s.gens) (s.gens.map deadOf) } : Shared) = s
  have e : thawA (asleep s.gens) (s.gens.map deadOf) = s.gens := by
    apply Array.ext_getElem?
    intro i
    rw [thawA_at, Array.getElem?_map]
    unfold asleep
    cases hz : s.gens[i]? with
    | none => rfl
    | some z => cases z <;> rfl
  rw [e]
/-- what is told of a run over a table whose sleepers can't be woken holds over the table itself, and they sleep on -/
theorem wpAny_thaw {α : Type} {M : Model} {A : Around} {s : Shared} {t : Sem α} {Q : α → Shared → Prop} {E : Value → Shared → Prop} (h : wpAny M A t (fun a s1 => Frozen (asleep s.gens) s1 → Q a (thaw (asleep s.gens) s1)) (fun e s1 => Frozen (asleep s.gens) s1 → E e (thaw (asleep s.gens) s1)) (laid s)) : wpAny M A t Q E s := by
  intro Γ p hΓ
  have q := wp_thaw (D := asleep s.gens) M Γ t _ _ p (laid s) (laid_frozen s) (h Γ p hΓ)
  rw [laid_thaw] at q
  refine Sem.wp_mono M Γ t ?_ ?_ p s q
  · rintro a p' s' ⟨s1, rfl, F, z⟩
    exact z F
  · rintro e p' s' ⟨s1, rfl, F, z⟩
    exact z F
theorem thaw_keeps {s s1 : Shared} {i : Nat} {x : GenState} (F : Frozen (asleep s.gens) s1) (h : s.gens[i]? = some x) (hs : sleeps x = true) : (thaw (asleep s.gens) s1).gens[i]? = some x := by
  refine thaw_dead F ?_
  unfold asleep
  rw [h]
  exact if_pos hs
/-! ### a generator that is walked within another one's turns: endless_fractions -/
/-- what whoever walks a generator may do while it sleeps -/
structure Between (base : Heap) (outer : List Env) (L : Addr) (s s' : Shared) : Prop where
  bare : AllBare s'.gens
  frame : ∀ o, s.heap.get? L = some o → s'.heap.get? L = some o
  pairs : ∀ x p q, PairIn s.heap x p q → PairIn s'.heap x p q
  bs : ∀ b o, base.get? b = some o → s'.heap.get? b = some o
  funs : s'.heap.FunFrames base outer
theorem Stays.refl {L : Addr} {fs : List Addr} {h : Heap} : Stays L fs h h := ⟨fun _ _ e _ _ => e, fun _ o e _ _ => ⟨o.slots, e⟩⟩
theorem Stays.trans {L : Addr} {fs : List Addr} {h h1 h2 : Heap} (a : Stays L fs h h1) (b : Stays L fs h1 h2) : Stays L fs h h2 := ⟨fun x o e n f => b.keep x o (a.keep x o e n f) n f, fun x o e n f => by
  obtain ⟨sl, e1⟩ := a.slot x o e n f
  obtain ⟨sl', e2⟩ := b.slot x _ e1 n f
  exact ⟨sl', e2⟩⟩
theorem Stays.pair {L : Addr} {fs : List Addr} {h h' : Heap} {x : Addr} {p q : Int} (a : Stays L fs h h') (n : x ≠ L) (e : PairIn h x p q) : PairIn h' x p q := by
  obtain ⟨its, r, o, ho, hc, m, hd⟩ := e
  by_cases f : x ∈ fs
  · obtain ⟨sl, e⟩ := a.slot x o ho n f
    exact ⟨its, r, _, e, hc, m, hd⟩
  · exact ⟨its, r, o, a.keep x o ho n f, hc, m, hd⟩
/-- what it may be sent -/
def sentV : Bool → Value
  | true => .bool true
  | false => .none
/-- the i-th of its items is handed out, n more may be asked for -/
def YPair (base : Heap) (outer : List Env) (L : Addr) (F : Nat → Int × Int) (N : Nat) : Protocol := fun n s₀ v s1 kap =>
  s1.os = s₀.os ∧ AllBare s1.gens ∧ Stays L (frs outer) s₀.heap s1.heap ∧ (∃ m, s1.heap.Ns L m) ∧ (∃ x, v = .ref x ∧ s₀.heap.get? x = none ∧ PairIn s1.heap x (F (N - n)).1 (F (N - n)).2) ∧ ∀ (uu : Bool) s', Between base outer L s1 s' → n = 0 ∨ kap (.send (sentV uu)) s'
/-- it never ends -/
def RNever : GenEnd := fun _ _ _ _ => False
section
variable {base : Heap} {K : PySem.W.Frag} {mg : Str → Option Value} {P : Program} {w : World}
abbrev envE (L f : Addr) (cd : Value) : Env := envOfC "endless_fractions" (defScope s_endless_fractions) L f cd
theorem genv_e (L f : Addr) (cd : Value) : GEnv (envE L f cd) where
  kind := rfl
  glob := rfl
  blt := rfl
  frame := rfl
  cells := by kernel_rfl
  loc := fun x k e => (show ∀ y ∈ (defScope s_endless_fractions).names, y.2 ≠ .cell ∧ y.2 ≠ .free by decide +kernel) (x, k) (PySem.mem_of_lookup e)
def nthS (l : List Stmt) (i : Nat) : Stmt := l.getD i (.Pass ⟨0, 0, 0, 0⟩)
def wTest : Stmt → Expr
  | .While t _ _ _ => t
  | _ => .Name "" ⟨0, 0, 0, 0⟩
def wBody : Stmt → List Stmt
  | .While _ b _ _ => b
  | _ => []
def wPos : Stmt → Pos
  | .While _ _ _ p => p
  | _ => ⟨0, 0, 0, 0⟩
abbrev wE : Stmt := nthS (defBody s_endless_fractions) 3
abbrev tstE : Expr := wTest wE
abbrev bodE : List Stmt := wBody wE
theorem body_e : defBody s_endless_fractions = [nthS (defBody s_endless_fractions) 0, nthS (defBody s_endless_fractions) 1, nthS (defBody s_endless_fractions) 2, .While tstE bodE [] (wPos wE)] := rfl
def yExp : Stmt → Expr
  | .Expr (.Yield (some e) _) _ => e
  | _ => .Name "" ⟨0, 0, 0, 0⟩
def yPos : Stmt → Pos × Pos
  | .Expr (.Yield _ p) q => (p, q)
  | _ => (⟨0, 0, 0, 0⟩, ⟨0, 0, 0, 0⟩)
abbrev yE : Expr := yExp (nthS bodE 1)
theorem bod_e : bodE = [nthS bodE 0, .Expr (.Yield (some yE) (yPos (nthS bodE 1)).1) (yPos (nthS bodE 1)).2, nthS bodE 2, nthS bodE 3, nthS bodE 4] := rfl
abbrev nmE : List Str := ["root", "whole", "m", "t", "k", "last", "before"]
/-- the locals: root, whole, m, t, k, last, before -/
def sigE (r w m t k : Int) (lx bx : Addr) : L2.St := [some (.int r), some (.int w), some (.int m), some (.int t), some (.int k), some (.ref lx), some (.ref bx)]
theorem seg_cons_at {M : Model} {A : Around} {R : GenEnd} {Y : Protocol} {n : Nat} {s₀ s : Shared} {c : Code} {fs : List Frame} {env : Env} {KK : Flow → Sem PySem.Fin} {J : Value → Sem PySem.Fin} {g : Bool → Bool} {lv : List Value → List Value} {sts rest : List Stmt} {st : Stmt} (e : sts = st :: rest)
    (h : Seg M A R Y n s₀ c ((exec st env).wrap (fun f => match f with | .next => (execs rest env).wrap KK J g lv | f => KK f) J g lv) fs s) : Seg M A R Y n s₀ c ((execs sts env).wrap KK J g lv) fs s := by
  rw [e]
  exact seg_execs_cons h
theorem two5000 {x : Int} {i : Nat} (h0 : 0 ≤ x) (h : x < 2 ^ (5 * i + 1)) (hi : i ≤ 1000) : x.natAbs < 2 ^ 9000 := by
  have e : x.natAbs < 2 ^ (5 * i + 1) := by
    have : ((x.natAbs : Nat) : Int) < ((2 ^ (5 * i + 1) : Nat) : Int) := by
      rw [Int.natAbs_of_nonneg h0, Int.natCast_pow]
      exact h
    exact_mod_cast this
  exact Nat.lt_of_lt_of_le e (Nat.pow_le_pow_right (by decide) (by omega))
section
variable {A : Around} {outer : List Env} {L f : Addr} {cd : Value} {r v : Int} {N : Nat} {fs : List Frame}
abbrev SegE (P : Program) (w : World) (base : Heap) (A : Around) (outer : List Env) (L f : Addr) (cd : Value) (r v : Int) (N n : Nat) (fs : List Frame) (s₀ s : Shared) : Prop :=
  Seg (model P w) A RNever (YPair base outer L (cfF r v) N) n s₀ (.whileLoop tstE bodE [] (envE L f cd)) ((model P w).den (.whileLoop tstE bodE [] (envE L f cd))) fs s
/-- one turn: a fraction is made and handed out -/
theorem turn_one (T : Txt K mg) (M : Mod K mg base) (hr : Room 4 (A.deeper (envE L f cd))) (hd : A.handled = none) (fr : A.frames = some outer) (r2 : 2 ≤ r) (r99 : r ≤ 99) (hw : isW r v) (small : N ≤ 1000)
    (ov : A.over (.whileLoop tstE bodE [] (envE L f cd)) fs = A.deeper (envE L f cd)) (sp : splitAtGen fs = none) (gd : fs.any Frame.guarded = false) (n i : Nat) (hi : i + n = N)
    (next : ∀ (s₀ s : Shared) (lx bx : Addr), WakeOk K mg base (envE L f cd) outer [(lx, (cfR r v (i + 1)).1), (bx, (cfR r v (i + 1)).2)] s → LocIs (envE L f cd) nmE s.heap (sigE r v (cfS r v (i + 1)).1 (cfS r v (i + 1)).2.1 (cfS r v (i + 1)).2.2 lx bx) → s.os = s₀.os → Stays L (frs outer) s₀.heap s.heap → n = 0 ∨ SegE P w base A outer L f cd r v N n fs s₀ s)
    (s₀ s : Shared) (lx bx : Addr) (W : WakeOk K mg base (envE L f cd) outer [(lx, (cfR r v i).1), (bx, (cfR r v i).2)] s) (hl : LocIs (envE L f cd) nmE s.heap (sigE r v (cfS r v i).1 (cfS r v i).2.1 (cfS r v i).2.2 lx bx)) (os : s.os = s₀.os) (st : Stays L (frs outer) s₀.heap s.heap) :
    SegE P w base A outer L f cd r v N (n + 1) fs s₀ s := by
  have E := genv_e L f cd
  have hi1000 : i ≤ 1000 := by omega
  obtain ⟨⟨b1, b2, b3, b4⟩, c1, c2, c3, c4⟩ := cf_bound r2 r99 hw i
  obtain ⟨m1, m2, t1, t2, k1, k2⟩ := cf_num r2 r99 hw i
  obtain ⟨m1', m2', t1', t2', k1', k2'⟩ := cf_num r2 r99 hw (i + 1)
  obtain ⟨v0, v1, v2⟩ := id hw
  have v9 : v ≤ 9 := by
    rcases Int.lt_or_le 9 v with z | z
    · have := Int.mul_le_mul (show (10 : Int) ≤ v by omega) (show (10 : Int) ≤ v by omega) (by decide) (by omega)
      omega
    · exact z
  have I := awake (P := P) (w := w) (A := A) E M hd fr W hl
  have lt : L ≤ s.heap.objs.size := by
    obtain ⟨_, m, hn, _⟩ := hl
    exact Nat.le_of_lt hn.lt
  obtain ⟨ol, hol, wl⟩ := woken_pair (L := L) (p := (lx, (cfR r v i).1)) (List.mem_cons_self) (fun p hp => (W.pairs p hp).2.2)
  obtain ⟨ob, hob, wb⟩ := woken_pair (L := L) (p := (bx, (cfR r v i).2)) (List.mem_cons_of_mem _ List.mem_cons_self) (fun p hp => (W.pairs p hp).2.2)
  have lp := (W.pairs (lx, (cfR r v i).1) List.mem_cons_self).2.2
  have ln := (W.pairs (lx, (cfR r v i).1) List.mem_cons_self)
  generalize hT : [(lx, (cfR r v i).1), (bx, (cfR r v i).2)] = TT at *
  have hTT : ∀ p ∈ TT, PairIn s.heap p.1 p.2.1 p.2.2 := fun p hp => (W.pairs p hp).2.2
  refine seg_whileLoop ?_
  rw [ov]
  refine wpAny_mono ((show PT (gcx P w K mg base nmE (envE L f cd) A outer s TT) tstE _ from (pt_val pe_bl)).run [] s _ _ (fun b H' => b = true ∧ H' = wokenH L s.heap TT) I ⟨true, rfl, rfl, rfl⟩) ?_ fun _ _ z => z.elim
  rintro b s1 ⟨H1, I1, rfl, rfl⟩
  rw [if_pos rfl]
  refine seg_cons_at bod_e (seg_wrap ?_)
  rw [ov]
  refine wpAny_mono ((show PS (gcx P w K mg base nmE (envE L f cd) A outer s TT) (nthS bodE 0) _ from (ps_par (i := 5) (j := 6) (by rfl) sc_endless_fractions.nd rfl rfl (by decide) rfl rfl (pa_cons (pe_callR (ok_added T) (hr.mono (by decide)) (by rfl) T.g_added T.F_added.kp pass0 (pa_cons (pe_call (ok_scaled T) (hr.mono (by decide)) (by rfl) T.g_scaled T.F_scaled.kp T.b_scaled .nil pass0 (pa_cons (pv 5) (pa_cons (pv 4) pa_nil))) (pa_cons (pv 6) pa_nil))) (pa_cons (pv 5) pa_nil)) (by rfl))).run [] s1 _ _ { nx := fun σ' H' => ∃ x H1, σ' = sigE r v (cfS r v i).1 (cfS r v i).2.1 (cfS r v i).2.2 x lx ∧ Same (wokenH L s.heap TT) H1 ∧ H1 x = none ∧ Same (wokenH L s.heap TT) H' ∧ H' x = some (.tup [.int (cfF r v i).1, .int (cfF r v i).2]), rt := fun _ _ => False } I1 ?_) ?_ fun _ _ z => z.elim
  · refine ⟨_, rfl, _, rfl, .ref lx, (cfR r v i).1.1, (cfR r v i).1.2, (cfS r v i).2.2, rfl, ⟨lx, rfl, .inl (.inr ⟨ol, wl⟩)⟩, two5000 b1 c1 hi1000, two5000 b2 c2 hi1000, Nat.lt_of_le_of_lt (show (cfS r v i).2.2.natAbs ≤ 18 by omega) (Nat.lt_of_lt_of_le (show 18 < 2 ^ 5 by decide) (Nat.pow_le_pow_right (by decide) (by decide))), fun p1 G1 n1 e1 h1 => ?_⟩
    refine ⟨_, rfl, [((cfR r v i).1.1 * (cfS r v i).2.2, (cfR r v i).1.2 * (cfS r v i).2.2), (cfR r v i).2], .cons ⟨p1, rfl, SqT.of h1⟩ (.cons ⟨bx, rfl, .inl (.inr ⟨ob, e1 _ _ wb⟩)⟩ .nil), by simp, fun p2 G2 n2 e2 h2 => ?_⟩
    rw [show Gy.s1 [((cfR r v i).1.1 * (cfS r v i).2.2, (cfR r v i).1.2 * (cfS r v i).2.2), (cfR r v i).2] = (cfF r v i).1 by simp [Gy.s1, cfF, cfR], show Gy.s2 [((cfR r v i).1.1 * (cfS r v i).2.2, (cfR r v i).1.2 * (cfS r v i).2.2), (cfR r v i).2] = (cfF r v i).2 by simp [Gy.s2, cfF, cfR]] at h2
    exact ⟨_, rfl, _, _, rfl, p2, G1, rfl, e1, n2, e1.trans e2, h2⟩
  · intro fl s2 hs
    match fl, hs with
    | .ret _, hs => obtain ⟨_, _, _, _, _, q⟩ := hs; exact q.elim
    | .brk, hs => obtain ⟨_, _, _, q⟩ := hs; exact q.elim
    | .cont, hs => obtain ⟨_, _, _, q⟩ := hs; exact q.elim
    | .next, hs =>
      obtain ⟨σ2, H2, I2, x, G1, rfl, e1, nx, e2, hx⟩ := hs
      obtain ⟨fresh, made⟩ := made_new lt I2 e1 nx hx
      have st2 := st.trans (stays_of lt hTT I2 e2)
      dsimp only
      refine seg_execs_cons (seg_Expr_Yield sp rfl gd ?_)
      rw [ov]
      refine wpAny_mono ((show PE (gcx P w K mg base nmE (envE L f cd) A outer s TT) yE _ from (pv 5)).run [] s2 _ _ (fun y H' => y = .ref x ∧ H' = H2) I2 ⟨_, rfl, rfl, rfl⟩) ?_ fun _ _ z => z.elim
      rintro u s3 ⟨y, H3, I3, ry, rfl, rfl⟩
      obtain rfl : u = .ref x := ry
      have st3 := st.trans (stays_of lt hTT I3 e2)
      have made3 : PairIn s3.heap x (cfF r v i).1 (cfF r v i).2 := (I3.hok x _ hx).2
      have n0 : s₀.heap.get? x = none := by
        cases z : s₀.heap.get? x with
        | none => rfl
        | some o =>
          exfalso
          by_cases zL : x = L
          · obtain ⟨_, m, ⟨oL, _, _, hoL, _⟩, _⟩ := id hl
            rw [← zL] at hoL
            have hoL : s.heap.get? x = some oL := hoL
            rw [fresh] at hoL
            cases hoL
          · by_cases zf : x ∈ frs outer
            · obtain ⟨sl, e⟩ := st.slot x o z zL zf
              rw [fresh] at e
              cases e
            · have e := st.keep x o z zL zf
              rw [fresh] at e
              cases e
      intro kap hk
      refine ⟨I3.os.trans os, I3.bare, st3, (let ⟨m, hn, _⟩ := I3.loc; ⟨m, hn⟩), ⟨x, rfl, n0, by rw [show N - n = i by omega]; exact made3⟩, fun uu s4 B => ?_⟩
      rcases Nat.eq_zero_or_pos n with n0 | npos
      · exact .inl n0
      refine .inr ((show _ → _ from fun key => by
        cases uu
        · exact hk .none s4 key
        · exact hk (.bool true) s4 key) ?_)
      obtain ⟨xf, xb⟩ := W.new fresh
      have lxL : lx ≠ L := by
        obtain ⟨_, m, hn, _⟩ := id hl
        exact pair_noL hn lp
      have lp3 : PairIn s3.heap lx (cfR r v i).1.1 (cfR r v i).1.2 := (stays_of lt hTT I3 e2).pair lxL lp
      obtain ⟨W3, hl3⟩ := after_run (T' := [(x, (cfR r v (i + 1)).1), (lx, (cfR r v (i + 1)).2)]) E W I3 (fun p hp => by
        rcases List.mem_cons.mp hp with rfl | hp
        · exact ⟨xf, xb, made3⟩
        · rw [List.mem_singleton.mp hp]
          exact ⟨ln.1, ln.2.1, lp3⟩)
      have W4 : WakeOk K mg base (envE L f cd) outer [(x, (cfR r v (i + 1)).1), (lx, (cfR r v (i + 1)).2)] s4 :=
        ⟨B.bare, B.bs, W3.bz, B.funs, W3.low, fun p hp => ⟨(W3.pairs p hp).1, (W3.pairs p hp).2.1, B.pairs _ _ _ (W3.pairs p hp).2.2⟩⟩
      have hl4 : LocIs (envE L f cd) nmE s4.heap (sigE r v (cfS r v i).1 (cfS r v i).2.1 (cfS r v i).2.2 x lx) := by
        obtain ⟨len, m, hn, look⟩ := hl3
        exact ⟨len, m, hn.at' fun o e => B.frame o e, look⟩
      have lt4 : L ≤ s4.heap.objs.size := by
        obtain ⟨_, m, hn, _⟩ := hl4
        exact Nat.le_of_lt hn.lt
      have I4 := awake (P := P) (w := w) (A := A) E M hd fr W4 hl4
      have h4T : ∀ p ∈ [(x, (cfR r v (i + 1)).1), (lx, (cfR r v (i + 1)).2)], PairIn s4.heap p.1 p.2.1 p.2.2 := fun p hp => (W4.pairs p hp).2.2
      generalize hT4 : [(x, (cfR r v (i + 1)).1), (lx, (cfR r v (i + 1)).2)] = T4 at *
      dsimp only
      refine seg_wrap ?_
      rw [ov]
      refine wpAny_mono ((show PSs (gcx P w K mg base nmE (envE L f cd) A outer s4 T4) [nthS bodE 2, nthS bodE 3, nthS bodE 4] _ from (pss_cons (ps_set (i := 2) sc_endless_fractions.nd rfl (Or.inl rfl) (pe_op op_sub (pe_op op_mul (pv 3) (pv 4)) (pv 2)))
      (pss_cons (ps_set (i := 3) sc_endless_fractions.nd rfl (Or.inl rfl) (pe_op op_fdiv (pe_op op_sub (pv 0) (pe_op op_mul (pv 2) (pv 2))) (pv 3)))
      (pss_one (ps_set (i := 4) sc_endless_fractions.nd rfl (Or.inl rfl) (pe_op op_fdiv (pe_op op_add (pv 1) (pv 2)) (pv 3))))))).run [] s4 _ _ { nx := fun σ' H' => σ' = sigE r v (cfS r v (i + 1)).1 (cfS r v (i + 1)).2.1 (cfS r v (i + 1)).2.2 x lx ∧ H' = wokenH L s4.heap T4, rt := fun _ _ => False } I4 ?_) ?_ fun _ _ z => z.elim
      · have f1 : 0 ≤ (cfS r v i).2.1 * (cfS r v i).2.2 - (cfS r v i).1 ∧ (cfS r v i).2.1 * (cfS r v i).2.2 - (cfS r v i).1 ≤ 9 := ⟨m1', m2'⟩
        have f2 : 1 ≤ (r - ((cfS r v i).2.1 * (cfS r v i).2.2 - (cfS r v i).1) * ((cfS r v i).2.1 * (cfS r v i).2.2 - (cfS r v i).1)) / (cfS r v i).2.1 ∧ (r - ((cfS r v i).2.1 * (cfS r v i).2.2 - (cfS r v i).1) * ((cfS r v i).2.1 * (cfS r v i).2.2 - (cfS r v i).1)) / (cfS r v i).2.1 ≤ 99 := ⟨t1', t2'⟩
        exact ⟨_, rfl, _, rfl, _, _, rfl, rfl, .inl ⟨by omega, by omega⟩, _, rfl, _, _, rfl, rfl, _, rfl, _, rfl, _, rfl, _, _, rfl, rfl, .inl ⟨by omega, by omega⟩, _, _, rfl, rfl, _, rfl, _, _, rfl, rfl, ⟨by omega, by omega⟩, _, rfl, _, rfl, _, _, rfl, rfl, _, rfl, _, _, rfl, rfl, ⟨by omega, by omega⟩, rfl, rfl⟩
      · intro fl s5 hs
        match fl, hs with
        | .ret _, hs => obtain ⟨_, _, _, _, _, q⟩ := hs; exact q.elim
        | .brk, hs => obtain ⟨_, _, _, q⟩ := hs; exact q.elim
        | .cont, hs => obtain ⟨_, _, _, q⟩ := hs; exact q.elim
        | .next, hs =>
          obtain ⟨σ5, H5, I5, rfl, rfl⟩ := hs
          have st5 := stays_of lt4 h4T I5 (fun _ _ e => e)
          obtain ⟨_, m4, hn4, _⟩ := id hl4
          obtain ⟨W5, hl5⟩ := after_run (T' := T4) E W4 I5 (fun p hp => ⟨(W4.pairs p hp).1, (W4.pairs p hp).2.1, st5.pair (pair_noL hn4 (h4T p hp)) (h4T p hp)⟩)
          rw [← hT4] at W5
          refine seg_again rfl ?_
          rcases next s4 s5 x lx W5 hl5 I5.os st5 with z | z
          · omega
          · exact z
theorem turn_e (T : Txt K mg) (M : Mod K mg base) (hr : Room 4 (A.deeper (envE L f cd))) (hd : A.handled = none) (fr : A.frames = some outer) (r2 : 2 ≤ r) (r99 : r ≤ 99) (hw : isW r v) (small : N ≤ 1000)
    (ov : A.over (.whileLoop tstE bodE [] (envE L f cd)) fs = A.deeper (envE L f cd)) (sp : splitAtGen fs = none) (gd : fs.any Frame.guarded = false) :
    ∀ (n i : Nat), i + n = N → ∀ (s₀ s : Shared) (lx bx : Addr), WakeOk K mg base (envE L f cd) outer [(lx, (cfR r v i).1), (bx, (cfR r v i).2)] s → LocIs (envE L f cd) nmE s.heap (sigE r v (cfS r v i).1 (cfS r v i).2.1 (cfS r v i).2.2 lx bx) → s.os = s₀.os → Stays L (frs outer) s₀.heap s.heap → SegE P w base A outer L f cd r v N (n + 1) fs s₀ s
  | 0, i, hi, s₀, s, lx, bx, W, hl, os, st => turn_one T M hr hd fr r2 r99 hw small ov sp gd 0 i hi (fun _ _ _ _ _ _ _ _ => .inl rfl) s₀ s lx bx W hl os st
  | n + 1, i, hi, s₀, s, lx, bx, W, hl, os, st => turn_one T M hr hd fr r2 r99 hw small ov sp gd (n + 1) i hi (fun s₀' s' lx' bx' W' hl' os' st' => .inr (turn_e T M hr hd fr r2 r99 hw small ov sp gd n (i + 1) (by omega) s₀' s' lx' bx' W' hl' os' st')) s₀ s lx bx W hl os st
theorem root_one {g v : Int} (hw : isW r v) (g0 : 0 ≤ g) (g1 : g * g ≤ r) (g2 : r < (g + 1) * (g + 1)) : g = v := by
  obtain ⟨v0, v1, v2⟩ := hw
  rcases Int.lt_trichotomy g v with z | z | z
  · have := Int.mul_le_mul (show g + 1 ≤ v by omega) (show g + 1 ≤ v by omega) (by omega) v0
    omega
  · exact z
  · have := Int.mul_le_mul (show v + 1 ≤ g by omega) (show v + 1 ≤ g by omega) (by omega) g0
    omega
/-- woken for the first time -/
theorem fresh_e (T : Txt K mg) (M : Mod K mg base) (hr : Room 4 (A.deeper (envE L f cd))) (hd : A.handled = none) (fr : A.frames = some outer) (r2 : 2 ≤ r) (r99 : r ≤ 99) (hw : isW r v) (small : N ≤ 1000)
    (s : Shared) (W : WakeOk K mg base (envE L f cd) outer [] s) (hl : LocIs (envE L f cd) nmE s.heap [some (.int r), none, none, none, none, none, none]) :
    Seg (model P w) A RNever (YPair base outer L (cfF r v) N) (N + 1) s (.func (defBody s_endless_fractions) (envE L f cd)) ((model P w).den (.func (defBody s_endless_fractions) (envE L f cd))) [] s := by
  have E := genv_e L f cd
  have I := awake (P := P) (w := w) (A := A) E M hd fr W hl
  have lt : L ≤ s.heap.objs.size := by
    obtain ⟨_, m, hn, _⟩ := hl
    exact Nat.le_of_lt hn.lt
  have hTT : ∀ p ∈ ([] : List (Addr × Int × Int)), PairIn s.heap p.1 p.2.1 p.2.2 := fun p hp => nomatch hp
  have dp : ∀ {fs : List Frame}, A.over (.func (defBody s_endless_fractions) (envE L f cd)) [] = A.deeper (envE L f cd) := GenW.over_func
  have noE : ∀ {X : Cx} {pins D fl s'}, SP X pins D fl s' → D.bk = (fun _ _ => False) → D.ct = (fun _ _ => False) → D.rt = (fun _ _ => False) → fl = .next ∧ ∃ σ' H', Inv X pins σ' H' s' ∧ D.nx σ' H' := fun {X pins D fl s'} h e1 e2 e3 => by
    match fl, h with
    | .ret _, h => obtain ⟨_, _, _, _, _, q⟩ := h; rw [e3] at q; exact q.elim
    | .brk, h => obtain ⟨_, _, _, q⟩ := h; rw [e1] at q; exact q.elim
    | .cont, h => obtain ⟨_, _, _, q⟩ := h; rw [e2] at q; exact q.elim
    | .next, h => exact ⟨rfl, h⟩
  refine seg_func (seg_cons_at body_e (seg_wrap ?_))
  rw [dp (fs := [])]
  refine wpAny_mono ((show PS (gcx P w K mg base nmE (envE L f cd) A outer s []) (nthS (defBody s_endless_fractions) 0) _ from (ps_set (i := 1) sc_endless_fractions.nd rfl (Or.inl rfl) (pe_call (ok_floor_of T) (hr.mono (by decide)) (by rfl) T.g_floor_of T.F_floor_of.kp T.b_floor_of .nil pass0 (pa_cons (pe_tup (pa_cons pe_int (pa_cons pe_int pa_nil))) (pa_cons (pv 0) pa_nil))))).run [] s _ _ { nx := fun σ' H' => σ' = [some (.int r), some (.int v), none, none, none, none, none] ∧ Same (wokenH L s.heap []) H', rt := fun _ _ => False } I ?_) ?_ fun _ _ z => z.elim
  · refine ⟨by show 2 ≤ sizeLine; decide, fun t nt => ⟨_, rfl, t, r, 0, 1, rfl, SqT.of upd_same, by omega, Nat.lt_of_le_of_lt (show r.natAbs ≤ 99 by omega) (by decide), by decide, fun g g0 g1 g2 => ⟨?_, same_new nt⟩⟩⟩
    rw [Int.mul_one, Int.mul_one] at g1 g2
    rw [root_one hw g0 g1 g2, if_neg (by decide), Int.zero_add]
    rfl
  intro fl s1 hs
  obtain ⟨rfl, σ1, H1, I1, rfl, sm1⟩ := noE hs rfl rfl rfl
  dsimp only
  refine seg_execs_cons (seg_wrap ?_)
  rw [dp (fs := [])]
  refine wpAny_mono ((show PS (gcx P w K mg base nmE (envE L f cd) A outer s []) (nthS (defBody s_endless_fractions) 1) _ from (ps_par3 (i := 2) (j := 3) (l := 4) (by rfl) sc_endless_fractions.nd rfl rfl rfl (by decide) (by decide) (by decide) rfl rfl rfl (pa_cons pe_int (pa_cons pe_int (pa_cons (pv 1) pa_nil))) (by rfl))).run [] s1 _ _ { nx := fun σ' H' => σ' = [some (.int r), some (.int v), some (.int 0), some (.int 1), some (.int v), none, none] ∧ H' = H1, rt := fun _ _ => False } I1 ⟨_, rfl, _, _, _, rfl, rfl, rfl⟩) ?_ fun _ _ z => z.elim
  intro fl s2 hs
  obtain ⟨rfl, σ2, H2, I2, rfl, rfl⟩ := noE hs rfl rfl rfl
  dsimp only
  refine seg_execs_cons (seg_wrap ?_)
  rw [dp (fs := [])]
  refine wpAny_mono ((show PS (gcx P w K mg base nmE (envE L f cd) A outer s []) (nthS (defBody s_endless_fractions) 2) _ from (ps_asg (pe_tup (pa_cons (pe_tup (pa_cons pe_int (pa_cons pe_int pa_nil))) (pa_cons (pe_tup (pa_cons pe_int (pa_cons pe_int pa_nil))) pa_nil))) (pg_tup (by rfl) (pgs_cons (pg_name (i := 5) sc_endless_fractions.nd rfl (Or.inl rfl)) (pgs_cons (pg_name (i := 6) sc_endless_fractions.nd rfl (Or.inl rfl)) pgs_nil))))).run [] s2 _ _ { nx := fun σ' H' => ∃ lx bx G, σ' = sigE r v 0 1 v lx bx ∧ Same (wokenH L s.heap []) H' ∧ H2 lx = none ∧ H' lx = some (.tup [.int 1, .int 0]) ∧ Same H2 G ∧ G bx = none ∧ H' bx = some (.tup [.int 0, .int 1]), rt := fun _ _ => False } I2 ?_) ?_ fun _ _ z => z.elim
  · refine ⟨by show 2 ≤ sizeLine; decide, fun lx n1 => ⟨by show 2 ≤ sizeLine; decide, fun bx n2 => ⟨by show 2 ≤ sizeLine; decide, fun t n3 => ?_⟩⟩⟩
    have d1 := same_new (o := .tup [.int 1, .int 0]) n1
    have d2 := same_new (o := .tup [.int 0, .int 1]) n2
    have d3 := same_new (o := .tup [.ref lx, .ref bx]) n3
    exact ⟨t, _, rfl, SqT.of upd_same, rfl, .ref lx, _, rfl, .ref bx, _, rfl, rfl, lx, bx, _, rfl, sm1.trans (d1.trans (d2.trans d3)), n1, (d2.trans d3) _ _ upd_same, d1, n2, d3 _ _ upd_same⟩
  intro fl s3 hs
  obtain ⟨rfl, σ3, H3, I3, lx, bx, G, rfl, sm3, n1, h1, sG, n2, h2⟩ := noE hs rfl rfl rfl
  obtain ⟨fr1, pr1⟩ := made_new lt I3 sm1 n1 h1
  obtain ⟨fr2, pr2⟩ := made_new lt I3 (sm1.trans sG) n2 h2
  obtain ⟨W3, hl3⟩ := after_run (T' := [(lx, (cfR r v 0).1), (bx, (cfR r v 0).2)]) E W I3 (fun p hp => by
    rcases List.mem_cons.mp hp with rfl | hp
    · exact ⟨(W.new fr1).1, (W.new fr1).2, pr1⟩
    · rw [List.mem_singleton.mp hp]
      exact ⟨(W.new fr2).1, (W.new fr2).2, pr2⟩)
  dsimp only
  refine seg_execs_cons (seg_While fun p => ?_)
  exact turn_e T M hr hd fr r2 r99 hw small ((GenW.over_loop rfl rfl).trans GenW.over_func) rfl rfl N 0 (Nat.zero_add _) s s3 lx bx W3 hl3 I3.os (stays_of lt hTT I3 sm3)
end
end
/-! ### the next item of a generator that never ends -/
/-- what a sleeping generator does when it is woken, where n items may still be asked for -/
def GoOn (M : Model) (A : Around) (Y : Protocol) (gs : GenState) : Nat → Resume → Shared → Prop
  | 0 => fun _ _ => False
  | m + 1 => fun r s => gs.Goes M A RNever Y m r s
section
variable {P : Program} {w : World} {A : Around} {E : Value → Shared → Prop} {s : Shared}
/-- the next item of a generator that never ends, as another iterator asks for it -/
theorem nextOf_gen {a : Addr} {g n : Nat} {gs : GenState} {Y : Protocol} {Q : Value → Shared → Prop} (hl : s.heap.NoLimit) (room : A.depth < recursionLimit) (hg : s.heap.IsGen a g) (hgs : s.gens[g]? = some gs) (hgo : gs.Goes (model P w) A.in1 RNever Y n (.send .none) (s.setGen g .running))
    (hY : ∀ v s1 gs', gs'.bare = true → Y (n - 1) (s.setGen g .running) v s1 (GoOn (model P w) A.in1 Y gs' n) → Q v (s1.setGen g gs')) : wpAny (model P w) A (Builtin.SmallTypes.nextOf (.ref a)) Q E s := by
  have ty := hg.typeIs
  unfold Builtin.SmallTypes.nextOf
  refine wpAny_bind (wpAny_callSpecial?_slot (name := Str.ofString "__next__") ty slot_gen_next (wpAny_call_entry slot_gen_next ty entry_gen_next ?_ (args_gen_next _)))
  show wpAny (model P w) A.in1 (Builtin.Generator.genWake (.ref a) (.send .none)) _ _ s
  unfold Builtin.Generator.genWake
  refine wpAny_bind (wpAny_holding ?_)
  refine wpAny_genNumber hg (wpAny_bind ?_)
  refine wpAny_genState hgs ?_
  match gs, hgs, hgo with
  | .running, _, h => exact h.elim
  | .finished, _, h => exact h.elim
  | .fresh _, hgs, h | .suspended .., hgs, h =>
    refine wpAny_bind (wpAny_roomToWake hl room ?_)
    show wpAny _ A.in1 (.resume g (.send .none) [] _) _ _ s
    exact wpAny_resumeQ hgs h (fun _ _ z => z.elim) fun v s1 gs' hb hv => wpAny_pure ⟨v, rfl, wpAny_pure (hY v s1 gs' hb (by cases n <;> exact hv))⟩
end
section
variable {base : Heap} {outer : List Env} {L : Addr}
theorem get_ne {h : Heap} {a b : Addr} {o o' : Obj} (ha : h.get? a = some o) (hb : h.get? b = some o') (d : o.cls ≠ o'.cls) : a ≠ b := by
  rintro rfl
  rw [ha] at hb
  cases hb
  exact d rfl
theorem no_pair_cls {h : Heap} {c : Addr} {o : Obj} (e : h.get? c = some o) (d : o.cls ≠ .type "tuple") : ∀ p q, ¬ PairIn h c p q := fun p q z => by
  obtain ⟨_, _, o', e', hc, _⟩ := z
  rw [e] at e'
  cases e'
  exact d hc
theorem get_neD {h : Heap} {a b : Addr} {o : Obj} {m : Str → Option Value} (ha : h.get? a = some o) (hb : h.Ns b m) (d : ∀ es ep, o.data ≠ .dict es ep) : a ≠ b := by
  rintro rfl
  obtain ⟨o', es, ep, e, hd, _⟩ := hb
  rw [ha] at e
  cases e
  exact d es ep hd
/-- frames that are older than L stand where all that is older stands -/
theorem funs_old {h h' : Heap} (low : ∀ b ∈ frs outer, b < L) (k : ∀ b o, b ∈ frs outer → h.get? b = some o → ∃ sl, h'.get? b = some { o with slots := sl }) (hl : h.FunFrames base outer) : h'.FunFrames base outer := by
  have all : ∀ l : List Env, (∀ b ∈ frs l, b ∈ frs outer) → h.FunFrames base l → h'.FunFrames base l := by
    intro l
    induction l with
    | nil => exact fun _ _ => trivial
    | cons e q ih =>
      rintro sub ⟨hk, ⟨M, o, hf, hb, ho, hd⟩, hr⟩
      have cons : frs (e :: q) = M :: frs q := by
        show List.filterMap _ _ = _
        rw [List.filterMap_cons, hf]
        rfl
      rw [cons] at sub
      obtain ⟨sl, e1⟩ := k M o (sub M List.mem_cons_self) ho
      exact ⟨hk, ⟨M, _, hf, hb, e1, hd⟩, ih (fun b hb => sub b (List.mem_cons_of_mem _ hb)) hr⟩
  exact all outer (fun _ h => h) hl
end
theorem gen_madeB {P : Program} {w : World} {K : PySem.W.Frag} {A : Around} {s : Shared} {x qual : Str} {st : Stmt} {f : Addr} {fd : FuncData} {N ps : List Str} {us : List Value} {vs : List V} {R : Result → Shared → Prop} {args : Args} (F : Fun K x qual st f fd) (S : GScope N ps (defScope st)) (nc : ∀ y ∈ (defScope st).names, y.2 ≠ .cell ∧ y.2 ≠ .free)
    (room : A.depth < recursionLimit) (KX : K.In s.heap) (lim : s.heap.NoLimit) (b : BindsTo s fd args (ps.zip us)) (rv : Vals vs us) (hl : vs.length = ps.length)
    (h : ∀ (cd : Value) (a : Addr) (h' : Heap) (tk : Nat), s.heap.objs.size < a → h'.IsGen a s.gens.size → (∀ b o, s.heap.get? b = some o → h'.get? b = some o) → LocIs (envOfC qual (defScope st) s.heap.objs.size f cd) N h' (L2.start N vs) →
      R (.ok (.ret (.ref a))) { s with gens := s.gens.push (.fresh (.func (defBody st) (envOfC qual (defScope st) s.heap.objs.size f cd))), heap := h', toks := tk }) : codeAny (model P w) A (.call (.ref f) args) R s := by
  obtain ⟨oc, od, kV, doc, pm, an, cdv, ct, osl, rfl, lk, hcd⟩ := F.ex
  have hul : us.length = ps.length := rv.length.symm.trans hl
  have locs : ∀ y ∈ ps, (defScope st).names.lookup y = some .local := fun y hy => by
    rcases S.par y hy with q | q
    · exact q
    · exact absurd rfl (nc _ (PySem.mem_of_lookup q)).1
  refine codeAny_call_generator room (KX _ _ lk) rfl S.co S.gen rfl (PySem.W.codeRec_of KX hcd) ?_
  refine b _ _ _ _ (wpAny_newFunctionEnv_cells S.kind (fun ⟨n, u⟩ hy => .inl (locs n (List.of_mem_zip hy).1)) fun env he s1 y => ?_)
  subst he
  obtain ⟨h1, tk, rfl, hk⟩ := y.done
  have ns := y.toInCall.ns
  refine ⟨lim.keeps y.toInCall.keep, h cdv _ _ _ ns.lt ⟨_, _, _, Heap.get?_push_size _ rfl, rfl, rfl, rfl⟩ (fun b o e => Heap.get?_push_of_some _ (y.toInCall.keep b o e)) ⟨?_, _, ns.push _, fun i n v e1 e2 _ => ?_⟩⟩
  · have hpl : ps.length ≤ N.length := by
      have := congrArg List.length S.pre
      rw [List.length_take] at this
      omega
    unfold L2.start
    rw [List.length_append, List.length_map, List.length_replicate]
    omega
  · have hi : i < vs.length := by
      rcases Nat.lt_or_ge i vs.length with z | z
      · exact z
      · unfold L2.start at e2
        rw [List.getElem?_append_right (by simpa using z), List.getElem?_replicate] at e2
        split at e2 <;> cases e2
    have ha : vs[i]? = some v := by
      unfold L2.start at e2
      rw [List.getElem?_append_left (by simpa using hi), List.getElem?_map] at e2
      cases e : vs[i]? with
      | none => rw [e] at e2; cases e2
      | some a => rw [e] at e2; cases e2; rfl
    obtain ⟨u, hu, ru⟩ := rv.get ha
    have hp : ps[i]? = some n := by
      rw [← S.pre, List.getElem?_take_of_lt (by omega)]
      exact e1
    have nd : ps.Nodup := by
      rw [← S.pre]
      exact S.nd.sublist (List.take_sublist _ _)
    have kn := locs n (List.mem_of_getElem? hp)
    exact ⟨u, ru, kn, bindL_get nd hp hu kn⟩
theorem gen_made {P : Program} {w : World} {K : PySem.W.Frag} {A : Around} {s : Shared} {x qual : Str} {st : Stmt} {f : Addr} {fd : FuncData} {N ps : List Str} {us : List Value} {vs : List V} {R : Result → Shared → Prop} (F : Fun K x qual st f fd) (S : GScope N ps (defScope st)) (nc : ∀ y ∈ (defScope st).names, y.2 ≠ .cell ∧ y.2 ≠ .free)
    (room : A.depth < recursionLimit) (KX : K.In s.heap) (lim : s.heap.NoLimit) (hb : Binds K fd ps []) (rv : Vals vs us) (hl : vs.length = ps.length)
    (h : ∀ (cd : Value) (a : Addr) (h' : Heap) (tk : Nat), s.heap.objs.size < a → h'.IsGen a s.gens.size → (∀ b o, s.heap.get? b = some o → h'.get? b = some o) → LocIs (envOfC qual (defScope st) s.heap.objs.size f cd) N h' (L2.start N vs) →
      R (.ok (.ret (.ref a))) { s with gens := s.gens.push (.fresh (.func (defBody st) (envOfC qual (defScope st) s.heap.objs.size f cd))), heap := h', toks := tk }) : codeAny (model P w) A (.call (.ref f) ⟨us, []⟩) R s := by
  have b := hb s us KX (by rw [List.append_nil]; exact rv.length.symm.trans hl)
  rw [List.append_nil] at b
  exact gen_madeB F S nc room KX lim b rv hl h
/-! ### enumerate over a generator -/
section
variable {P : Program} {w : World} {A : Around} {E : Value → Shared → Prop} {s : Shared}
/-- the record of an enumerate: what is written into it, one place after the other -/
theorem put_field {e : Addr} {vs : Array Value} {k : Nat} {x : Value} {h0 : Heap} {Q : Unit → Shared → Prop} (z : Shared) (he : z.heap.get? e = some { cls := .type "enumerate", dict := none, data := .fields vs, slots := #[] }) (hk : k < vs.size) (hu : ∀ b o, b ≠ e → h0.get? b = some o → z.heap.get? b = some o) (sz : z.heap.objs.size = h0.objs.size)
    (q : ∀ h, h.get? e = some { cls := .type "enumerate", dict := none, data := .fields (vs.setIfInBounds k x), slots := #[] } → (∀ b o, b ≠ e → h0.get? b = some o → h.get? b = some o) → h.objs.size = h0.objs.size → Q () { z with heap := h }) : wpAny (model P w) A (setField (.ref e) k x) Q E z :=
  wpAny_setField_rec he hk fun h e1 k1 => q h e1 (fun b o n g => k1.extBut b o n (hu b o n g)) (k1.1.trans sz)
theorem enumg_item {e a : Addr} {g n : Nat} {gs : GenState} {Y : Protocol} {c : Int} {was : Value} {Q : Value → Shared → Prop}
    (he : IsEnum s.heap e a c was) (room : A.depth < recursionLimit) (lim : s.heap.NoLimit) (hg : s.heap.IsGen a g) (hgs : s.gens[g]? = some gs) (go : gs.Goes (model P w) A.in1 RNever Y n (.send .none) (s.setGen g .running))
    (fin : ∀ (v : Value) (sb : Shared) (gs' : GenState), gs'.bare = true → Y (n - 1) (s.setGen g .running) v sb (GoOn (model P w) A.in1 Y gs' n) → IsEnum sb.heap e a c was ∧
      ∀ (h' : Heap) (T : Addr), T = sb.heap.objs.size → IsEnumOut h' e a (c + 1) v T → IsPair h' T (.int c sb.toks) v → (∀ b o, b ≠ e → sb.heap.get? b = some o → h'.get? b = some o) → Q (.ref T) { sb.setGen g gs' with heap := h', toks := sb.toks + 1 }) :
    wpAny (model P w) A (Builtin.«enumerate.__next__» ⟨[.ref e], []⟩) (fun f s' => ∃ v, f = .done (.ret v) ∧ Q v s') E s := by
  show wpAny _ _ (field (.ref e) 2 >>= _) _ _ _
  refine wpAny_bind (wpAny_field he rfl (x := .ref a) rfl (wpAny_bind (nextOf_gen lim room hg hgs go fun v sb gs' hb hv => ?_)))
  obtain ⟨e0, out⟩ := fin v sb gs' hb hv
  have el : e < sb.heap.objs.size := Heap.lt_size e0
  have e0 : (sb.setGen g gs').heap.get? e = _ := e0
  show wpAny _ _ (field (.ref e) 3 >>= _) _ _ (sb.setGen g gs')
  refine wpAny_bind (wpAny_field e0 rfl (x := rawInt c) rfl ?_)
  show wpAny _ _ (field (.ref e) 4 >>= _) _ _ (sb.setGen g gs')
  refine wpAny_bind (wpAny_field e0 rfl (x := .none) rfl (wpAny_bind (wpAny_mkInt ?_)))
  refine wpAny_bind (put_field (h0 := sb.heap) { sb.setGen g gs' with toks := sb.toks + 1 } e0 (by simp) (fun _ _ _ g => g) rfl fun h1 e1 u1 z1 => ?_)
  refine wpAny_bind (put_field (h0 := sb.heap) { sb.setGen g gs' with heap := h1, toks := sb.toks + 1 } e1 (by simp) u1 z1 fun h2 e2 u2 z2 => ?_)
  refine wpAny_bind (wpAny_newTuple ?_)
  rw [show (Shared.heap { sb.setGen g gs' with heap := h2, toks := sb.toks + 1 }).objs.size = sb.heap.objs.size from z2]
  have e3 := Heap.get?_push_of_some { cls := .type "tuple", data := .seq #[.int c sb.toks, v] } e2
  have t3 : (h2.push { cls := .type "tuple", data := .seq #[.int c sb.toks, v] }).get? sb.heap.objs.size = some { cls := .type "tuple", data := .seq #[.int c sb.toks, v] } := by
    rw [← z2]
    exact Heap.get?_push_size _ rfl
  have u3 : ∀ b o, b ≠ e → sb.heap.get? b = some o → (h2.push { cls := .type "tuple", data := .seq #[.int c sb.toks, v] }).get? b = some o := fun b o n y => Heap.get?_push_of_some _ (u2 b o n y)
  show wpAny _ _ (Builtin.SmallTypes.ownedTupleIsFree (.ref e) >>= _) _ _ { sb.setGen g gs' with heap := h2.push { cls := .type "tuple", data := .seq #[.int c sb.toks, v] }, toks := sb.toks + 1 }
  generalize h2.push { cls := .type "tuple", data := .seq #[.int c sb.toks, v] } = h3 at e3 t3 u3 ⊢
  unfold Builtin.SmallTypes.ownedTupleIsFree
  refine wpAny_bind (wpAny_bind (wpAny_field e3 rfl (x := .none) rfl (wpAny_pure ?_)))
  rw [if_pos rfl]
  refine wpAny_bind (wpAny_rule (wpAny_bind (wpAny_field e3 rfl (x := was) rfl ?_)))
  refine wpAny_bind (put_field (h0 := h3) { sb.setGen g gs' with heap := h3, toks := sb.toks + 1 } e3 (by simp) (fun _ _ _ y => y) rfl fun h4 e4 u4 z4 => ?_)
  show wpAny _ _ (Builtin.SmallTypes.ownedTupleHandOut (.ref e) (.ref sb.heap.objs.size) >>= _) _ _ { sb.setGen g gs' with heap := h4, toks := sb.toks + 1 }
  unfold Builtin.SmallTypes.ownedTupleHandOut
  refine wpAny_bind (wpAny_bind (put_field (h0 := h3) { sb.setGen g gs' with heap := h4, toks := sb.toks + 1 } e4 (by simp) u4 z4 fun h5 e5 u5 z5 => ?_))
  refine put_field (h0 := h3) { sb.setGen g gs' with heap := h5, toks := sb.toks + 1 } e5 (by simp) u5 z5 fun h6 e6 u6 z6 => ?_
  refine wpAny_bind (wpAny_letGo (wpAny_pure ⟨_, rfl, ?_⟩))
  exact out h6 _ rfl e6 (u6 _ _ (Nat.ne_of_gt el) t3) fun b o n y => u6 b o n (u3 b o n y)
theorem next_enumg {e a : Addr} {c : Int} {was : Value} {Q : Value → Shared → Prop} (he : IsEnum s.heap e a c was) (h : wpAny (model P w) A.in1 (Builtin.«enumerate.__next__» ⟨[.ref e], []⟩) (fun f s' => ∃ v, f = .done (.ret v) ∧ Q v s') (fun _ _ => False) s) :
    wpAny (model P w) A (pyNext (.ref e)) (fun r s' => ∃ v, r = some v ∧ Q v s') E s := by
  have ty : s.TypeIs (.ref e) "enumerate" := ⟨_, he, rfl⟩
  unfold pyNext
  refine wpAny_bind (wpAny_attempt (wpAny_callSpecial?_slot (name := Str.ofString "__next__") ty F.slot_enumerate_next (wpAny_call_entry F.slot_enumerate_next ty F.entry_enumerate_next (wpAny_mono h (fun f s' y => ?_) fun _ _ y => y.elim) (F.args_enumerate_next_1 _))))
  obtain ⟨v, rfl, q⟩ := y
  exact ⟨v, rfl, wpAny_pure ⟨v, rfl, q⟩⟩
/-- enumerate(g): the generator stands for itself -/
theorem meets_enum_g (a : Addr) (g : Nat) : Meets (Builtin.«enumerate.__new__» ⟨[.type "enumerate", .ref a], []⟩) (fun _ R s => s.heap.IsGen a g ∧ R (.ok (.ret (.ref s.heap.objs.size))) { s with heap := s.heap.push { cls := .type "enumerate", data := .fields #[.none, .bool false, .ref a, rawInt 0, .none, .none] } }) :=
  .of_wp fun prog w A R s h => by
    obtain ⟨hp, gn, d, tk, os⟩ := s
    obtain ⟨h1, h⟩ := h
    have hsub := sub_enumerate
    have e1 : Heap.IsGen (Shared.heap ⟨hp, gn, d, tk, os⟩) a g := h1
    wp_walk using wpAny_pyIter_gen e1
    refine wpAny_stack_any fun st => wpAny_pure ?_
    split
    · rename_i c _ _ _ _ _
      cases (c == Value.type "enumerate") <;> (wp_walk using wpAny_pyIter_gen e1; exact ⟨_, rfl, h⟩)
    · wp_walk using wpAny_pyIter_gen e1
      exact ⟨_, rfl, h⟩
theorem call_enum_g {a : Addr} {g : Nat} {Q : Value → Shared → Prop} (h1 : s.heap.IsGen a g) (h : ∀ h' : Heap, IsEnum h' s.heap.objs.size a 0 .none → (∀ b o, s.heap.get? b = some o → h'.get? b = some o) → Q (.ref s.heap.objs.size) { s with heap := h' }) :
    wpAny (model P w) A (call (.type "enumerate") [.ref a]) Q E s := by
  refine callType_new F.called_enumerate (by decide) (F.typeCall_enumerate_1 _) (F.newCall_enumerate_1 _) (fun obj => F.args_object_init_2 obj _) F.entry_enumerate_new (meets_enum_g a g) ⟨h1, ?_⟩
  have he : IsEnum (s.heap.push { cls := .type "enumerate", data := .fields #[.none, .bool false, .ref a, rawInt 0, .none, .none] }) s.heap.objs.size a 0 .none := Heap.get?_push_size _ rfl
  exact ⟨⟨_, he, rfl⟩, h _ he fun b o y => Heap.get?_push_of_some _ y⟩
end
/-! ### a loop over enumerate of the endless generator: what stands of the asking def while it walks -/
/-- what of the asking def stands while it walks -/
structure WalkB (X : Cx) (h0 : Heap) (os0 : OsState) (s : Shared) : Prop where
  os : s.os = os0
  bare : AllBare s.gens
  bs : ∀ c o, X.base.get? c = some o → s.heap.get? c = some o
  funs : s.heap.FunFrames X.base X.stack
  old : ∀ c o, c ∉ frs X.stack → h0.get? c = some o → s.heap.get? c = some o
  oldF : ∀ c o, c ∈ frs X.stack → c ≠ X.env.locals → h0.get? c = some o → ∃ sl, s.heap.get? c = some { o with slots := sl }
  loc : ∃ m, s.heap.Ns X.env.locals m
/-- where its things lie -/
structure ApartE (X : Cx) (h0 : Heap) (L2 e ga : Addr) : Prop where
  hs : X.stack = X.env :: X.outer
  hfr : X.env.frame = some X.env.locals
  hfs : frs X.stack = X.env.locals :: X.fs
  nlf : X.env.locals ∉ X.fs
  low : ∀ c ∈ frs X.stack, c < h0.objs.size
  bz : X.base.objs.size ≤ h0.objs.size
  l2 : h0.objs.size ≤ L2
  le : h0.objs.size ≤ e
  lg : h0.objs.size ≤ ga
section
variable {X : Cx} {pins : List (Addr × Obj)} {σ : L2.St} {H : Hp} {h0 : Heap} {os0 : OsState} {L2 e ga : Addr} {g : Nat} {s sb : Shared} {gs' : GenState} {h9 : Heap} {n : Nat} {x : Addr}
theorem ApartE.ne (D : ApartE X h0 L2 e ga) {c : Addr} (l : c < h0.objs.size) : c ≠ L2 ∧ c ≠ e ∧ c ≠ ga := by
  refine ⟨fun z => ?_, fun z => ?_, fun z => ?_⟩ <;> rw [z] at l
  · exact absurd l (Nat.not_lt.mpr D.l2)
  · exact absurd l (Nat.not_lt.mpr D.le)
  · exact absurd l (Nat.not_lt.mpr D.lg)
theorem ApartE.nf (D : ApartE X h0 L2 e ga) {c : Addr} (l : h0.objs.size ≤ c) : c ∉ frs X.stack := fun z => absurd (D.low c z) (Nat.not_lt.mpr l)
theorem ApartE.loc (D : ApartE X h0 L2 e ga) : X.env.locals ∈ frs X.stack := by
  rw [D.hfs]
  exact List.mem_cons_self
theorem ApartE.tl (D : ApartE X h0 L2 e ga) : frs X.outer = X.fs := by
  have c : frs X.stack = X.env.locals :: frs X.outer := by
    rw [D.hs]
    show List.filterMap _ _ = _
    rw [List.filterMap_cons, D.hfr]
    rfl
  exact (List.cons.inj (c.symm.trans D.hfs)).2
/-- behind a turn: what the generator did, and the def's own stores -/
theorem WalkB.more (D : ApartE X h0 L2 e ga) (W : WalkB X h0 os0 s) (os1 : sb.os = s.os) (b1 : AllBare sb.gens) (hb : gs'.bare = true) (st : Stays L2 (frs X.stack) s.heap sb.heap) (up : ∀ c o, c ≠ e → c ≠ X.env.locals → sb.heap.get? c = some o → h9.get? c = some o) (l9 : ∃ m, h9.Ns X.env.locals m) :
    WalkB X h0 os0 { sb.setGen g gs' with heap := h9, toks := n } := by
  have nl : ∀ {c : Addr}, c ∉ frs X.stack → c ≠ X.env.locals := fun {c} q z => q (z ▸ D.loc)
  refine ⟨os1.trans W.os, allBare_setGen (s := sb) b1 hb, fun c o q => ?_, ?_, fun c o nf q => ?_, fun c o hc n q => ?_, l9⟩
  · have nf : c ∉ frs X.stack := fun z => by
      have := (W.funs.mem z).1
      rw [q] at this
      cases this
    obtain ⟨n1, n2, _⟩ := D.ne (Nat.lt_of_lt_of_le (Heap.lt_size q) D.bz)
    exact up c o n2 (nl nf) (st.keep c o (W.bs c o q) n1 nf)
  · have fu : s.heap.FunFrames X.base (X.env :: X.outer) := D.hs ▸ W.funs
    obtain ⟨hk, ⟨M, o, hf, hbn, ho, hd⟩, hr⟩ := fu
    have hM : M = X.env.locals := by
      rw [D.hfr] at hf
      exact (Option.some.inj hf).symm
    subst hM
    obtain ⟨m9, o9, es, ep, ho9, hd9, rr9⟩ := l9
    rw [D.hs]
    refine ⟨hk, ⟨_, o9, D.hfr, hbn, ho9, fun vs q => by rw [hd9] at q; cases q⟩, funs_old (L := h0.objs.size) (fun c hc => ?_) (fun c o hc q => ?_) hr⟩
    · rw [D.tl] at hc
      exact D.low c (by rw [D.hfs]; exact List.mem_cons_of_mem _ hc)
    · rw [D.tl] at hc
      have hc' : c ∈ frs X.stack := by rw [D.hfs]; exact List.mem_cons_of_mem _ hc
      obtain ⟨n1, n2, _⟩ := D.ne (D.low c hc')
      obtain ⟨sl, e1⟩ := st.slot c o q n1 hc'
      exact ⟨sl, up c _ n2 (fun z => D.nlf (z ▸ hc)) e1⟩
  · obtain ⟨n1, n2, _⟩ := D.ne (Heap.lt_size q)
    exact up c o n2 (nl nf) (st.keep c o (W.old c o nf q) n1 nf)
  · obtain ⟨n1, n2, _⟩ := D.ne (Heap.lt_size q)
    obtain ⟨sl1, e1⟩ := W.oldF c o hc n q
    obtain ⟨sl2, e2⟩ := st.slot c _ e1 n1 hc
    exact ⟨sl2, up c _ n2 n e2⟩
/-- where it returns, all that was known stands -/
theorem inv_ret (D : ApartE X s.heap L2 e ga) {s0 : Shared} (I0 : Inv X pins σ H s) (W : WalkB X s.heap s.os s0) : Inv X pins (List.replicate X.N.length none) H s0 := by
  have trk : ∀ {c : Addr} {u : HO}, H c = some u → c ∉ frs X.stack := fun {c u} q hc => by
    rw [I0.stkFree c hc] at q
    cases q
  have lo : ∀ {c : Addr} {o : Obj}, X.s_0.heap.get? c = some o → c ≠ X.env.locals := fun {c o} q => Nat.ne_of_lt (Nat.lt_of_lt_of_le (Heap.lt_size q) I0.ok.above)
  have upto : ∀ {c : Addr} {o : Obj}, s.heap.get? c = some o → c ≠ X.env.locals → ∃ sl, s0.heap.get? c = some { o with slots := sl } := fun {c o} q n2 => by
    by_cases hc : c ∈ frs X.stack
    · exact W.oldF c o hc n2 q
    · exact ⟨o.slots, W.old c o hc q⟩
  have ncl : ∀ {c : Addr}, c ∉ X.fs → c ≠ X.env.locals → c ∉ frs X.stack := fun {c} n1 n2 => by
    rw [D.hfs]
    exact fun q => (List.mem_cons.mp q).elim n2 n1
  have cellat : ∀ {c : Addr} {v : Option Value}, c ≠ X.env.locals → s.heap.IsCell c v → s0.heap.IsCell c v := fun {c v} n2 z => by
    obtain ⟨o, ho, hd⟩ := z
    obtain ⟨sl, q⟩ := upto ho n2
    exact ⟨_, q, hd⟩
  obtain ⟨m, hn⟩ := W.loc
  refine ⟨I0.ok, W.os.trans I0.os, W.bare, ⟨fun c o q n nf nex => W.old c o (ncl nf (lo q)) (I0.base.keep c o q n nf nex), fun c o q n hc nex => ?_, I0.base.free, fun c o q nex => ?_, I0.base.tups, I0.base.frzs, I0.base.tbls⟩, ⟨m, hn, fun k y v q1 q2 _ => ?_⟩, fun y c q => ?_, I0.free, I0.freeC, fun p hp => ?_, fun c u q => ?_, List.length_replicate⟩
  · obtain ⟨sl, q1⟩ := I0.base.slot c o q n hc nex
    obtain ⟨sl', q2⟩ := upto q1 (lo q)
    exact ⟨sl', q2⟩
  · obtain ⟨o', q1⟩ := I0.base.there c o q nex
    obtain ⟨sl, q2⟩ := upto q1 (lo q)
    exact ⟨_, q2⟩
  · rw [List.getElem?_replicate] at q2
    split at q2 <;> cases q2
  · obtain ⟨v, hc⟩ := I0.cell y c q
    exact ⟨v, cellat (I0.cne y c q) hc⟩
  · obtain ⟨q, n, ne, nf, d⟩ := I0.pin p hp
    exact ⟨W.old p.1 p.2 (ncl nf ne) q, n, ne, nf, d⟩
  · refine (I0.hok c u q).stay (fun d o hd qo => ?_) (fun d qo => qo) fun d ys qo => qo
    rcases hd with rfl | hd
    · exact W.old _ _ (trk q) qo
    · exact W.old _ _ (trk hd) qo
end
/-! ### statements that are run while a generator sleeps -/
/-- the generator at its i-th turn -/
structure GenAt (X : Cx) (L2 e ga : Addr) (g : Nat) (F : Nat → Int × Int) (N i : Nat) (s : Shared) : Prop where
  en : ∃ was, IsEnum s.heap e ga i was
  gen : s.heap.IsGen ga g
  ns2 : ∃ m, s.heap.Ns L2 m
  sleep : ∃ gs, s.gens[g]? = some gs ∧ gs.bare = true ∧ (i = 0 ∨ sleeps gs = true) ∧ ∀ s', Between X.base X.stack L2 s s' → gs.Goes (model X.prog X.w) X.A.in1.in1 RNever (YPair X.base X.stack L2 F N) (N + 1 - i) (.send .none) s'
section
variable {X : Cx} {h0 : Heap} {os0 : OsState} {L2 e ga x : Addr} {g N i n : Nat} {F : Nat → Int × Int} {s s' sb : Shared} {gs' : GenState} {h9 : Heap}
theorem sleeps_of_goes {M : Model} {A : Around} {R : GenEnd} {Y : Protocol} {gs : GenState} {k : Nat} {z : Shared} (h : gs.Goes M A R Y k (.send (.bool true)) z) : sleeps gs = true := by
  cases gs with
  | fresh c => cases h.1
  | suspended _ _ _ _ _ _ => rfl
  | running => exact h.elim
  | finished => exact h.elim
/-- behind a turn -/
theorem GenAt.more (D : ApartE X h0 L2 e ga) (W : WalkB X h0 os0 s) (G : GenAt X L2 e ga g F N i s) (hi : i < N) (gz : g < sb.gens.size) (hb : gs'.bare = true)
    (hv : YPair X.base X.stack L2 F N (N + 1 - i - 1) (s.setGen g .running) (.ref x) sb (GoOn (model X.prog X.w) X.A.in1.in1 (YPair X.base X.stack L2 F N) gs' (N + 1 - i)))
    {was : Value} (en9 : IsEnum h9 e ga ((i : Int) + 1) was) (up : ∀ c o, c ≠ e → c ≠ X.env.locals → sb.heap.get? c = some o → h9.get? c = some o) :
    GenAt X L2 e ga g F N (i + 1) { sb.setGen g gs' with heap := h9, toks := n } := by
  obtain ⟨os1, b1, st, ⟨m2, hn2⟩, _, nxt⟩ := hv
  have st : Stays L2 (frs X.stack) s.heap sb.heap := st
  obtain ⟨was0, he⟩ := G.en
  have hl := W.loc
  obtain ⟨m20, hn20⟩ := G.ns2
  have eL : e ≠ L2 := get_neD he hn20 (by simp)
  have he1 : IsEnum sb.heap e ga i was0 := st.keep e _ he eL (D.nf D.le)
  have L2l : L2 ≠ X.env.locals := fun z => absurd (z ▸ D.l2) (Nat.not_le.mpr (D.low _ D.loc))
  rw [show N + 1 - i = (N - i) + 1 by omega] at nxt
  have fu1 : sb.heap.FunFrames X.base X.stack := funs_old (L := h0.objs.size) D.low (fun c o hc q => st.slot c o q (D.ne (D.low c hc)).1 hc) W.funs
  have bs1 : ∀ b o, X.base.get? b = some o → sb.heap.get? b = some o := fun b o q => by
    have nf : b ∉ frs X.stack := fun z => by
      have := (W.funs.mem z).1
      rw [q] at this
      cases this
    exact st.keep b o (W.bs b o q) (D.ne (Nat.lt_of_lt_of_le (Heap.lt_size q) D.bz)).1 nf
  have sl : sleeps gs' = true := by
    rcases nxt true sb ⟨b1, fun _ q => q, fun _ _ _ z => z, bs1, fu1⟩ with z | z
    · omega
    · exact sleeps_of_goes z
  refine ⟨⟨was, by rw [show (((i + 1 : Nat) : Int)) = (i : Int) + 1 by omega]; exact en9⟩, ?_, ⟨m2, hn2.at' fun o q => up L2 o eL.symm L2l q⟩, gs', setGen_at gz, hb, .inr sl, fun s' B => ?_⟩
  · obtain ⟨o, nm, qn, ho, hc, hd, hsl⟩ := G.gen
    have gL : ga ≠ L2 := get_neD ho hn20 (by rw [hd]; simp)
    have ge : ga ≠ e := get_ne ho he (by rw [hc]; simp)
    have gl : ga ≠ X.env.locals := fun z => absurd (z ▸ D.lg) (Nat.not_le.mpr (D.low _ D.loc))
    exact ⟨o, nm, qn, up ga o ge gl (st.keep ga o ho gL (D.nf D.lg)), hc, hd, hsl⟩
  · rw [show N + 1 - (i + 1) = N - i by omega]
    refine (nxt false s' ⟨B.bare, fun o q => B.frame o (up L2 o eL.symm L2l q), fun y p q z => B.pairs y p q ?_, B.bs, B.funs⟩).resolve_left (by omega)
    obtain ⟨its, rv, o, ho, hc, hrest⟩ := z
    have ye : y ≠ e := get_ne ho he1 (by rw [hc]; simp)
    have yl : y ≠ X.env.locals := fun z => by
      obtain ⟨_, lo, es, ep, hlo, hld, _⟩ := hl
      obtain ⟨sl, e1⟩ := st.slot _ lo hlo (by rw [← z]; exact fun w => absurd (D.low _ (z ▸ D.loc)) (Nat.not_lt.mpr (w ▸ D.l2))) D.loc
      rw [z, e1] at ho
      cases ho
      obtain ⟨_, hd⟩ := hrest
      rw [show ({ lo with slots := sl } : Obj).data = lo.data from rfl, hld] at hd
      cases hd
    exact ⟨its, rv, o, up y o ye yl ho, hc, hrest⟩
/-- a statement leaves the generator as it was -/
theorem GenAt.run (D : ApartE X h0 L2 e ga) (hl : ∃ m, s.heap.Ns X.env.locals m) (G : GenAt X L2 e ga g F N (i + 1) s) (st : Stays X.env.locals X.fs s.heap s'.heap) (kg : ∀ (g : Nat) x, s.gens[g]? = some x → sleeps x = true → s'.gens[g]? = some x) : GenAt X L2 e ga g F N (i + 1) s' := by
  have nl : ∀ {c : Addr}, h0.objs.size ≤ c → c ≠ X.env.locals ∧ c ∉ X.fs := fun {c} l => by
    have z := D.nf l
    rw [D.hfs] at z
    exact ⟨fun q => z (q ▸ List.mem_cons_self), fun q => z (List.mem_cons_of_mem _ q)⟩
  obtain ⟨was, he⟩ := G.en
  obtain ⟨m2, hn2⟩ := G.ns2
  have up : ∀ {c : Addr} {o : Obj}, h0.objs.size ≤ c → s.heap.get? c = some o → s'.heap.get? c = some o := fun {c o} l q => st.keep c o q (nl l).1 (nl l).2
  refine ⟨⟨was, up D.le he⟩, ?_, ⟨m2, hn2.at' fun o q => up D.l2 q⟩, ?_⟩
  · obtain ⟨o, nm, qn, ho, r⟩ := G.gen
    exact ⟨o, nm, qn, up D.lg ho, r⟩
  · obtain ⟨gs, hgs, hb, hs, go⟩ := G.sleep
    have hs : sleeps gs = true := hs.resolve_left (by omega)
    refine ⟨gs, kg g gs hgs hs, hb, .inr hs, fun s'' B => go s'' ⟨B.bare, fun o q => B.frame o (up D.l2 q), fun y p q z => B.pairs y p q (st.pair ?_ z), B.bs, B.funs⟩⟩
    obtain ⟨m, hn⟩ := hl
    exact pair_noL hn z
theorem WalkB.run (D : ApartE X h0 L2 e ga) (W : WalkB X h0 os0 s) (st : Stays X.env.locals X.fs s.heap s'.heap) (os1 : s'.os = s.os) (b1 : AllBare s'.gens) (l1 : ∃ m, s'.heap.Ns X.env.locals m) (fu : s'.heap.FunFrames X.base X.outer) : WalkB X h0 os0 s' := by
  have nl : ∀ {c : Addr}, c ∉ frs X.stack → c ≠ X.env.locals ∧ c ∉ X.fs := fun {c} z => by
    rw [D.hfs] at z
    exact ⟨fun q => z (q ▸ List.mem_cons_self), fun q => z (List.mem_cons_of_mem _ q)⟩
  refine ⟨os1.trans W.os, b1, fun c o q => ?_, ?_, fun c o nf q => st.keep c o (W.old c o nf q) (nl nf).1 (nl nf).2, fun c o hc n q => ?_, l1⟩
  · have nf : c ∉ frs X.stack := fun z => by
      have := (W.funs.mem z).1
      rw [q] at this
      cases this
    exact st.keep c o (W.bs c o q) (nl nf).1 (nl nf).2
  · have fu0 : s.heap.FunFrames X.base (X.env :: X.outer) := D.hs ▸ W.funs
    obtain ⟨hk, ⟨M, o, hf, hbn, ho, hd⟩, _⟩ := fu0
    have hM : M = X.env.locals := by
      rw [D.hfr] at hf
      exact (Option.some.inj hf).symm
    subst hM
    obtain ⟨m9, o9, es, ep, ho9, hd9, rr9⟩ := l1
    rw [D.hs]
    exact ⟨hk, ⟨_, o9, D.hfr, hbn, ho9, fun vs q => by rw [hd9] at q; cases q⟩, fu⟩
  · obtain ⟨sl1, e1⟩ := W.oldF c o hc n q
    have hf : c ∈ X.fs := by
      rw [D.hfs] at hc
      exact (List.mem_cons.mp hc).resolve_left n
    obtain ⟨sl2, e2⟩ := st.slot c _ e1 n hf
    exact ⟨sl2, e2⟩
end
/-! ### what a run over the sleeping table leaves -/
section
variable {P : Program} {w : World} {K : PySem.W.Frag} {mg : Str → Option Value} {base : Heap} {N : List Str} {env : Env} {A : Around} {outer : List Env} {s s1 : Shared} {T T' : List (Addr × Int × Int)} {σ σ' : L2.St} {H' : Hp}
theorem thaw_bare (h : AllBare s.gens) (h1 : AllBare s1.gens) : AllBare (thaw (asleep s.gens) s1).gens := by
  intro y hy
  obtain ⟨i, hi, rfl⟩ := Array.getElem_of_mem hy
  have e : (thaw (asleep s.gens) s1).gens[i]? = some ((thaw (asleep s.gens) s1).gens[i]) := Array.getElem?_eq_getElem hi
  generalize (thaw (asleep s.gens) s1).gens[i] = y at e
  have e : (thawA (asleep s.gens) s1.gens)[i]? = some y := e
  rw [thawA_at] at e
  cases q : s1.gens[i]? with
  | none => rw [q] at e; cases e
  | some z =>
    rw [q] at e
    have e : (asleep s.gens i).getD z = y := Option.some.inj e
    unfold asleep at e
    cases r : s.gens[i]? with
    | none => rw [r] at e; exact e ▸ h1 z (Array.mem_of_getElem? q)
    | some u =>
      rw [r] at e
      dsimp only at e
      split at e
      · exact e ▸ h u (Array.mem_of_getElem? r)
      · exact e ▸ h1 z (Array.mem_of_getElem? q)
theorem laid_bare (h : AllBare s.gens) : AllBare (laid s).gens := by
  intro y hy
  obtain ⟨x, hx, rfl⟩ := Array.mem_map.mp hy
  have := h x hx
  cases x <;> exact this
theorem WakeOk.laid (W : WakeOk K mg base env outer T s) : WakeOk K mg base env outer T (laid s) := ⟨laid_bare W.bare, W.bs, W.bz, W.funs, W.low, W.pairs⟩
/-- the raw facts behind a run -/
structure Ran (K : PySem.W.Frag) (mg : Str → Option Value) (base : Heap) (N : List Str) (env : Env) (outer : List Env) (s : Shared) (T' : List (Addr × Int × Int)) (σ' : L2.St) (s' : Shared) : Prop where
  wake : WakeOk K mg base env outer T' s'
  loc : LocIs env N s'.heap σ'
  stay : Stays env.locals (frs outer) s.heap s'.heap
  os : s'.os = s.os
  kg : ∀ (g : Nat) x, s.gens[g]? = some x → sleeps x = true → s'.gens[g]? = some x
theorem ran (E : GEnv env) (W : WakeOk K mg base env outer T s) (hl : LocIs env N s.heap σ) (I : Inv (gcx P w K mg base N env A outer (laid s) T) [] σ' H' s1) (sm : Same (wokenH env.locals s.heap T) H') (F : Frozen (asleep s.gens) s1)
    (hT : ∀ p ∈ T', p ∈ T ∨ (s.heap.get? p.1 = none ∧ PairIn s1.heap p.1 p.2.1 p.2.2)) : Ran K mg base N env outer s T' σ' (thaw (asleep s.gens) s1) := by
  have lt : env.locals ≤ s.heap.objs.size := by
    obtain ⟨_, m, hn, _⟩ := hl
    exact Nat.le_of_lt hn.lt
  have st : Stays env.locals (frs outer) s.heap s1.heap := stays_of (s := laid s) lt (fun p hp => (W.pairs p hp).2.2) I sm
  have nL : ∀ p ∈ T, p.1 ≠ env.locals := fun p hp => by
    obtain ⟨_, m, hn, _⟩ := id hl
    exact pair_noL hn (W.pairs p hp).2.2
  obtain ⟨W1, l1⟩ := after_run (T' := T') E W.laid I (fun p hp => by
    rcases hT p hp with q | ⟨q1, q2⟩
    · exact ⟨(W.pairs p q).1, (W.pairs p q).2.1, st.pair (nL p q) (W.pairs p q).2.2⟩
    · exact ⟨(W.new q1).1, (W.new q1).2, q2⟩)
  exact ⟨⟨thaw_bare W.bare W1.bare, W1.bs, W1.bz, W1.funs, W1.low, W1.pairs⟩, l1, st, I.os, fun g x h hs => thaw_keeps F h hs⟩
/-- a statement that stores alone -/
theorem run_stmt {st : Stmt} {ts : TS} {Φ : L2.St → Hp → Prop} {Q : Flow → Shared → Prop} {E : Value → Shared → Prop} (G : GEnv env) (M : Mod K mg base) (hd : A.handled = none) (fr : A.frames = some outer) (W : WakeOk K mg base env outer T s) (hl : LocIs env N s.heap σ)
    (ps : PS (gcx P w K mg base N env A outer (laid s) T) st ts) (h : ts { nx := Φ, rt := fun _ _ => False } σ (wokenH env.locals s.heap T))
    (q : ∀ σ' H' s1, Φ σ' H' → Inv (gcx P w K mg base N env A outer (laid s) T) [] σ' H' s1 → Frozen (asleep s.gens) s1 → Q .next (thaw (asleep s.gens) s1)) : wpAny (model P w) (A.deeper env) (exec st env) Q E s := by
  have I := awake (P := P) (w := w) (A := A) (s := laid s) G M hd fr W.laid hl
  refine wpAny_thaw (wpAny_mono (ps.run [] (laid s) _ _ _ I h) (fun fl s1 hs F => ?_) fun _ _ z => z.elim)
  match fl, hs with
  | .ret _, hs => obtain ⟨_, _, _, _, _, z⟩ := hs; exact z.elim
  | .brk, hs => obtain ⟨_, _, _, z⟩ := hs; exact z.elim
  | .cont, hs => obtain ⟨_, _, _, z⟩ := hs; exact z.elim
  | .next, hs =>
    obtain ⟨σ', H', I', z⟩ := hs
    exact q σ' H' s1 z I' F
/-- a test -/
theorem run_test {e : Expr} {tt : TT} {Φ : Bool → Hp → Prop} {Q : Bool → Shared → Prop} {E : Value → Shared → Prop} (G : GEnv env) (M : Mod K mg base) (hd : A.handled = none) (fr : A.frames = some outer) (W : WakeOk K mg base env outer T s) (hl : LocIs env N s.heap σ)
    (pt : PT (gcx P w K mg base N env A outer (laid s) T) e tt) (h : tt σ (wokenH env.locals s.heap T) Φ)
    (q : ∀ b H' s1, Φ b H' → Inv (gcx P w K mg base N env A outer (laid s) T) [] σ H' s1 → Frozen (asleep s.gens) s1 → Q b (thaw (asleep s.gens) s1)) : wpAny (model P w) (A.deeper env) (isTrue e env (eval e env)) Q E s := by
  have I := awake (P := P) (w := w) (A := A) (s := laid s) G M hd fr W.laid hl
  refine wpAny_thaw (wpAny_mono (pt.run [] (laid s) _ _ _ I h) (fun b s1 hs F => ?_) fun _ _ z => z.elim)
  obtain ⟨H', I', z⟩ := hs
  exact q b H' s1 z I' F
end
/-! ### tile lengths, coordinates -/
def tP (n p : Int) : Int := if n % 2 = 0 then -p else p
def tQ (n q : Int) : Int := if n % 2 = 0 then q else -q
section
variable {base : Heap} {K : PySem.W.Frag} {mg : Str → Option Value} {P : Program} {w : World}
def spTileOf (K : PySem.W.Frag) : Sp := fun vs H Q _ => ∃ (n p q : Int) (r : V), vs = [.int n, r] ∧ 0 ≤ n ∧ PairAt K H r p q ∧ NewPair H (tP n p) (tQ n q) Q
theorem ok_tile_of (T : Txt K mg) : FnOk P w K mg base CX0 1 T.f_tile_of T.d_tile_of ["number", "fraction"] (spTileOf K) := by
  refine T.F_tile_of.ok sc_tile_of (fun vs H Q E h => ?_) (fun cdv A outer s H vs Q E hr h => ?_)
  · obtain ⟨n, p, q, r, rfl, _⟩ := h
    rfl
  · obtain ⟨n, p, q, r, rfl, n0, ⟨t, rfl, ht⟩, k⟩ := h
    refine ⟨_, (pss_cons (ps_asg (pv 1) (pg_tup (by rfl) (pgs_cons (pg_name (i := 2) sc_tile_of.nd rfl (Or.inl rfl)) (pgs_cons (pg_name (i := 3) sc_tile_of.nd rfl (Or.inl rfl)) pgs_nil))))
      (pss_one (ps_ret (pe_ifExp (pt_cmpR op_eq (pe_op op_mod (pv 0) pe_int) pe_int (nomark _)) (pe_tup (pa_cons (pe_un un_neg (pv 2)) (pa_cons (pv 3) pa_nil))) (pe_tup (pa_cons (pv 2) (pa_cons (pe_un un_neg (pv 3)) pa_nil))))))), ?_⟩
    refine ⟨_, rfl, t, _, rfl, ht, rfl, .int p, _, rfl, .int q, _, rfl, rfl, ?_⟩
    refine ⟨_, rfl, n, 2, rfl, rfl, (by show (0 : Int) < 2; decide), rfl, _, rfl, ite2 (fun e => ?_) (fun e => ?_)⟩
    · have z : n % 2 = 0 := V.int.inj (of_decide_eq_true e)
      refine ⟨_, rfl, p, rfl, _, rfl, by show 2 ≤ sizeLine; decide, fun x nx => k x _ nx (same_new nx) ?_⟩
      unfold tP tQ
      rw [if_pos z, if_pos z]
      exact upd_same
    · have z : ¬ n % 2 = 0 := fun z => e (decide_eq_true (congrArg V.int z))
      refine ⟨_, rfl, _, rfl, q, rfl, by show 2 ≤ sizeLine; decide, fun x nx => k x _ nx (same_new nx) ?_⟩
      unfold tP tQ
      rw [if_neg z, if_neg z]
      exact upd_same
end
section
theorem objok_there {P : Program} {w : World} {H : Hp} {h : Heap} {a : Addr} {o : HO} (x : ObjOk P w H h a o) : ∃ ob, h.get? a = some ob := by
  cases o with
  | lst xs => obtain ⟨_, _, _, _, e⟩ := x; exact ⟨_, e⟩
  | tup xs => obtain ⟨_, _, _, o, e, _⟩ := x; exact ⟨_, e⟩
  | dK kvs => obtain ⟨_, _, _, _, o, _, _, e, _⟩ := x; exact ⟨_, e⟩
  | dT kvs => obtain ⟨_, _, _, _, o, _, _, e, _⟩ := x; exact ⟨_, e⟩
  | set S n => obtain ⟨o, _, _, _, e, _⟩ := x; exact ⟨_, e⟩
  | ins C dx fs => obtain ⟨_, _, _, e, _⟩ := x; exact ⟨_, e⟩
  | own y => exact x
  | xd fs => obtain ⟨_, ⟨_, _, _, e, _⟩, _⟩ := x; exact ⟨_, e⟩
  | rng lo hi => obtain ⟨_, _, _, e⟩ := x; exact ⟨_, e⟩
  | frz ob u => exact ⟨_, x.1⟩
  | tbl ps => exact ⟨_, x⟩
  | met f y => exact ⟨_, x⟩
  | ext φ => exact x.2.1
end
section
variable {X : Cx} {s : Shared}
theorem name_read {m : Str → Option Value} {x : Str} {u : Value} {p : Pos} {Q : Value → Shared → Prop} {E : Value → Shared → Prop} (kf : X.env.scope.kind = .function) (kx : X.env.kindOf x = some .local) (hn : s.heap.Ns X.env.locals m) (hv : m x = some u) (nd : (x == ("__debug__" : Str)) = false) (q : Q u s) :
    wpAny (model X.prog X.w) X.A (eval (.Name x p) X.env) Q E s := wpAny_Name (wpAny_loadName_local kf kx hn hv q) nd
theorem assign_in {x : Str} {es : List Expr} {p1 t1 t2 : Pos} {k1 k2} {T : Addr} {va vb : Value} {Q : Unit → Shared → Prop} {E : Value → Shared → Prop} (hh : X.A.handled = none) (ht : s.heap.IsTuple T #[va, vb])
    (h : ∀ h', Heap.ExtBut s.heap.objs.size s.heap h' → wpAny (model X.prog X.w) X.A (do holding [vb] (assign (.Name x p1) X.env va); holding [] (assign (.Tuple es k1 t1) X.env vb); pure ()) Q E { s with heap := h' }) : wpAny (model X.prog X.w) X.A (assign (.Tuple [.Name x p1, .Tuple es k1 t1] k2 t2) X.env (.ref T)) Q E s :=
  wpAny_assign_Tuple hh ht rfl rfl h
theorem assign_pq {x y : Str} {p1 p2 t2 : Pos} {k2} {T : Addr} {va vb : Value} {Q : Unit → Shared → Prop} {E : Value → Shared → Prop} (hh : X.A.handled = none) (ht : s.heap.IsTuple T #[va, vb])
    (h : ∀ h', Heap.ExtBut s.heap.objs.size s.heap h' → wpAny (model X.prog X.w) X.A (do holding [vb] (assign (.Name x p1) X.env va); holding [] (assign (.Name y p2) X.env vb); pure ()) Q E { s with heap := h' }) : wpAny (model X.prog X.w) X.A (assign (.Tuple [.Name x p1, .Name y p2] k2 t2) X.env (.ref T)) Q E s :=
  wpAny_assign_Tuple hh ht rfl rfl h
end
/-! ### two_sheets: the turns of its loop -/
section
variable {base : Heap} {K : PySem.W.Frag} {mg : Str → Option Value} {P : Program} {w : World}
abbrev envT (L f : Addr) (cd : Value) : Env := envOfC "two_sheets" (defScope s_two_sheets) L f cd
theorem genv_t (L f : Addr) (cd : Value) : GEnv (envT L f cd) where
  kind := rfl
  glob := rfl
  blt := rfl
  frame := rfl
  cells := by kernel_rfl
  loc := fun x k e => (show ∀ y ∈ (defScope s_two_sheets).names, y.2 ≠ .cell ∧ y.2 ≠ .free by decide +kernel) (x, k) (PySem.mem_of_lookup e)
abbrev nmT : List Str := ["table", "root", "upper", "lower", "fraction", "part", "at", "p", "q", "before"]
def sigT (r : Int) (ux lx fx px : Addr) : L2.St := [none, some (.int r), some (.ref ux), some (.ref lx), some (.ref fx), some (.ref px), none, none, none, none]
def sigB (r : Int) (ux lx fx px : Addr) (i p q : Int) : L2.St := [none, some (.int r), some (.ref ux), some (.ref lx), some (.ref fx), some (.ref px), some (.int i), some (.int p), some (.int q), none]
def sigC (r : Int) (ux lx fx px : Addr) (i p q : Int) (bx : Addr) : L2.St := [none, some (.int r), some (.ref ux), some (.ref lx), some (.ref fx), some (.ref px), some (.int i), some (.int p), some (.int q), some (.ref bx)]
def fBody : Stmt → List Stmt
  | .For _ _ b _ _ => b
  | _ => []
def iTest : Stmt → Expr
  | .If t _ _ _ => t
  | _ => .Name "" ⟨0, 0, 0, 0⟩
def iThen : Stmt → List Stmt
  | .If _ b _ _ => b
  | _ => []
abbrev bodT : List Stmt := fBody (nthS (defBody s_two_sheets) 2)
abbrev tstT : Expr := iTest (nthS bodT 1)
abbrev retT : Stmt := nthS (iThen (nthS bodT 1)) 0
theorem bod_t : ∃ pp, bodT = [nthS bodT 0, .If tstT [retT] [] pp, nthS bodT 2] := ⟨_, rfl⟩
/-- the parts that the fractions give, those ahead of turn i last -/
def cT (r v a b c e : Int) : Nat → Int × Int
  | 0 => (0, 0)
  | i + 1 => (a * (cfF r v i).2 + c * (cfF r v i).1, b * (cfF r v i).2 + e * (cfF r v i).1)
def cG (r v : Int) : Nat → Int × Int
  | 0 => (0, 0)
  | i + 1 => cfF r v i
def lenB (r : Int) (z : Int × Int) : Bool := decide (0 < sgnI (vl z.1 z.2 r))
def Fits (h0 : Heap) (H : Hp) (x : Addr) (z : Int × Int) : Prop := h0.get? x = none ∨ H x = some (.tup [.int z.1, .int z.2])
abbrev tX (P : Program) (w : World) (K : PySem.W.Frag) (mg : Str → Option Value) (base : Heap) (f : Addr) (cd : Value) (A : Around) (outer : List Env) (s0 : Shared) (H0 : Hp) (E : XK) : Cx := (cxOf CX0 P w K mg base nmT "two_sheets" (defScope s_two_sheets) f cd A outer s0 H0 E).nox
theorem woken_at {L : Nat} {h : Heap} {T : List (Addr × Int × Int)} {p : Addr × Int × Int} (hp : p ∈ T) (hT : ∀ p ∈ T, PairIn h p.1 p.2.1 p.2.2) : PairAt K (wokenH L h T) (.ref p.1) p.2.1 p.2.2 := by
  obtain ⟨o, _, e⟩ := woken_pair (L := L) hp hT
  exact ⟨p.1, rfl, .inl (.inr ⟨o, e⟩)⟩
section
variable {L f : Addr} {cd : Value} {A : Around} {outer : List Env} {s : Shared} {r v a b c e : Int} {i : Nat} {ux lx fx px bx : Addr} {p q : Int} {U Lo F1 P1 B1 : Int × Int} {Q : Flow → Shared → Prop} {E : Value → Shared → Prop}
/-- before, part = part, added(scaled(upper, q), scaled(lower, p)) -/
theorem stmt_parts (T : Txt K mg) (M : Mod K mg base) (hr : Room 4 (A.deeper (envT L f cd))) (hd : A.handled = none) (fr : A.frames = some outer)
    (W : WakeOk K mg base (envT L f cd) outer [(ux, U), (lx, Lo), (fx, F1), (px, P1)] s) (hl : LocIs (envT L f cd) nmT s.heap (sigB r ux lx fx px i p q)) (bu : U.1.natAbs < 2 ^ 9000 ∧ U.2.natAbs < 2 ^ 9000) (bl : Lo.1.natAbs < 2 ^ 9000 ∧ Lo.2.natAbs < 2 ^ 9000) (bp : p.natAbs < 2 ^ 9000) (bq : q.natAbs < 2 ^ 9000)
    (k : ∀ x s', s.heap.get? x = none → Ran K mg base nmT (envT L f cd) outer s [(ux, U), (lx, Lo), (fx, F1), (px, P1), (x, (U.1 * q + Lo.1 * p, U.2 * q + Lo.2 * p))] (sigC r ux lx fx x i p q px) s' → Q .next s') : wpAny (model P w) (A.deeper (envT L f cd)) (exec (nthS bodT 0) (envT L f cd)) Q E s := by
  have hTT : ∀ p ∈ [(ux, U), (lx, Lo), (fx, F1), (px, P1)], PairIn s.heap p.1 p.2.1 p.2.2 := fun p hp => (W.pairs p hp).2.2
  have hu : PairAt K (wokenH L s.heap [(ux, U), (lx, Lo), (fx, F1), (px, P1)]) (.ref ux) U.1 U.2 := woken_at (p := (ux, U)) (by simp) hTT
  have hlo : PairAt K (wokenH L s.heap [(ux, U), (lx, Lo), (fx, F1), (px, P1)]) (.ref lx) Lo.1 Lo.2 := woken_at (p := (lx, Lo)) (by simp) hTT
  have lt : L ≤ (laid s).heap.objs.size := by
    obtain ⟨_, m, hn, _⟩ := id hl
    exact Nat.le_of_lt hn.lt
  generalize hT : [(ux, U), (lx, Lo), (fx, F1), (px, P1)] = TT at *
  refine run_stmt (σ := sigB r ux lx fx px i p q) (Φ := fun σ' H' => ∃ x H1, σ' = sigC r ux lx fx x i p q px ∧ Same (wokenH L s.heap TT) H1 ∧ H1 x = none ∧ Same (wokenH L s.heap TT) H' ∧ H' x = some (.tup [.int (U.1 * q + Lo.1 * p), .int (U.2 * q + Lo.2 * p)])) (genv_t L f cd) M hd fr W hl
    (show PS (gcx P w K mg base nmT (envT L f cd) A outer (laid s) TT) (nthS bodT 0) _ from (ps_par (i := 9) (j := 5) (by rfl) sc_two_sheets.nd rfl rfl (by decide) rfl rfl (pa_cons (pv 5) (pa_cons (pe_callR (ok_added T) (hr.mono (by decide)) (by rfl) T.g_added T.F_added.kp pass0 (pa_cons (pe_call (ok_scaled T) (hr.mono (by decide)) (by rfl) T.g_scaled T.F_scaled.kp T.b_scaled .nil pass0 (pa_cons (pv 2) (pa_cons (pv 8) pa_nil))) (pa_cons (pe_call (ok_scaled T) (hr.mono (by decide)) (by rfl) T.g_scaled T.F_scaled.kp T.b_scaled .nil pass0 (pa_cons (pv 3) (pa_cons (pv 7) pa_nil))) pa_nil))) pa_nil)) (by rfl))) ?_ ?_
  · refine ⟨_, rfl, _, rfl, _, rfl, .ref ux, U.1, U.2, q, rfl, hu, bu.1, bu.2, bq, fun p1 G1 n1 e1 h1 => ?_⟩
    refine ⟨_, rfl, _, rfl, .ref lx, Lo.1, Lo.2, p, rfl, hlo.same e1, bl.1, bl.2, bp, fun p2 G2 n2 e2 h2 => ?_⟩
    refine ⟨[(U.1 * q, U.2 * q), (Lo.1 * p, Lo.2 * p)], .cons ⟨p1, rfl, SqT.of (e2 _ _ h1)⟩ (.cons ⟨p2, rfl, SqT.of h2⟩ .nil), by simp, fun p3 G3 n3 e3 h3 => ?_⟩
    rw [show Gy.s1 [(U.1 * q, U.2 * q), (Lo.1 * p, Lo.2 * p)] = U.1 * q + Lo.1 * p by simp [Gy.s1], show Gy.s2 [(U.1 * q, U.2 * q), (Lo.1 * p, Lo.2 * p)] = U.2 * q + Lo.2 * p by simp [Gy.s2]] at h3
    exact ⟨_, _, rfl, p3, G2, rfl, e1.trans e2, n3, e1.trans (e2.trans e3), h3⟩
  · rintro σ' H' s1 ⟨x, H1, rfl, e1, nx, e2, hx⟩ I F
    obtain ⟨fresh, made⟩ := made_new lt I e1 nx hx
    refine k x _ fresh (ran (genv_t L f cd) W hl I e2 F fun p' hp' => ?_)
    have hp' : p' ∈ TT ++ [(x, (U.1 * q + Lo.1 * p, U.2 * q + Lo.2 * p))] := by
      rw [← hT]
      exact hp'
    rcases List.mem_append.mp hp' with z | z
    · exact .inl z
    · rw [List.mem_singleton.mp z]
      exact .inr ⟨fresh, made⟩
/-- is_length(before, root) and is_length(part, root) -/
theorem test_parts {Q : Bool → Shared → Prop} (T : Txt K mg) (M : Mod K mg base) (hr : Room 4 (A.deeper (envT L f cd))) (hd : A.handled = none) (fr : A.frames = some outer)
    (W : WakeOk K mg base (envT L f cd) outer [(ux, U), (lx, Lo), (fx, F1), (bx, B1), (px, P1)] s) (hl : LocIs (envT L f cd) nmT s.heap (sigC r ux lx fx px i p q bx)) (r99 : r.natAbs < 2 ^ 64) (b1 : B1.1.natAbs < 2 ^ 9000 ∧ B1.2.natAbs < 2 ^ 9000) (b2 : P1.1.natAbs < 2 ^ 9000 ∧ P1.2.natAbs < 2 ^ 9000)
    (k : ∀ s', Ran K mg base nmT (envT L f cd) outer s [(ux, U), (lx, Lo), (fx, F1), (bx, B1), (px, P1)] (sigC r ux lx fx px i p q bx) s' → Q (lenB r B1 && lenB r P1) s') : wpAny (model P w) (A.deeper (envT L f cd)) (isTrue tstT (envT L f cd) (eval tstT (envT L f cd))) Q E s := by
  have hTT : ∀ p ∈ [(ux, U), (lx, Lo), (fx, F1), (bx, B1), (px, P1)], PairIn s.heap p.1 p.2.1 p.2.2 := fun p hp => (W.pairs p hp).2.2
  have hb : PairAt K (wokenH L s.heap [(ux, U), (lx, Lo), (fx, F1), (bx, B1), (px, P1)]) (.ref bx) B1.1 B1.2 := woken_at (p := (bx, B1)) (by simp) hTT
  have hp1 : PairAt K (wokenH L s.heap [(ux, U), (lx, Lo), (fx, F1), (bx, B1), (px, P1)]) (.ref px) P1.1 P1.2 := woken_at (p := (px, P1)) (by simp) hTT
  generalize hT : [(ux, U), (lx, Lo), (fx, F1), (bx, B1), (px, P1)] = TT at *
  refine run_test (σ := sigC r ux lx fx px i p q bx) (Φ := fun b H' => b = (lenB r B1 && lenB r P1) ∧ H' = wokenH L s.heap TT) (genv_t L f cd) M hd fr W hl
    (show PT (gcx P w K mg base nmT (envT L f cd) A outer (laid s) TT) tstT _ from (PW.pt (pw_and (pt_val (pe_call (ok_is_length T) (hr.mono (by decide)) (by rfl) T.g_is_length T.F_is_length.kp T.b_is_length .nil pass0 (pa_cons (pv 9) (pa_cons (pv 1) pa_nil)))) (pw_and1 (pt_val (pe_call (ok_is_length T) (hr.mono (by decide)) (by rfl) T.g_is_length T.F_is_length.kp T.b_is_length .nil pass0 (pa_cons (pv 5) (pa_cons (pv 1) pa_nil)))))))) ?_ ?_
  · refine ⟨_, rfl, _, rfl, .ref bx, r, B1.1, B1.2, rfl, hb, r99, b1.1, b1.2, _, rfl, ?_⟩
    show (if decide (0 < sgnI (vl B1.1 B1.2 r)) = true then _ else _)
    refine ite2 (fun e => ⟨_, rfl, _, rfl, .ref px, r, P1.1, P1.2, rfl, hp1, r99, b2.1, b2.2, _, rfl, ?_, rfl⟩) (fun e => ⟨?_, rfl⟩)
    · unfold lenB
      rw [e, Bool.true_and]
    · unfold lenB
      rw [Bool.eq_false_iff.mpr e, Bool.false_and]
  · rintro b' H' s1 ⟨rfl, rfl⟩ I F
    exact k _ (ran (genv_t L f cd) W hl I (fun _ _ z => z) F fun p' hp' => .inl hp')
/-- fraction = (p, q) -/
theorem stmt_frac (T : Txt K mg) (M : Mod K mg base) (hd : A.handled = none) (fr : A.frames = some outer)
    (W : WakeOk K mg base (envT L f cd) outer [(ux, U), (lx, Lo), (fx, F1), (bx, B1), (px, P1)] s) (hl : LocIs (envT L f cd) nmT s.heap (sigC r ux lx fx px i p q bx))
    (k : ∀ x s', s.heap.get? x = none → Ran K mg base nmT (envT L f cd) outer s [(ux, U), (lx, Lo), (x, (p, q)), (px, P1)] (sigC r ux lx x px i p q bx) s' → Q .next s') : wpAny (model P w) (A.deeper (envT L f cd)) (exec (nthS bodT 2) (envT L f cd)) Q E s := by
  have lt : L ≤ (laid s).heap.objs.size := by
    obtain ⟨_, m, hn, _⟩ := id hl
    exact Nat.le_of_lt hn.lt
  have hin : ∀ z ∈ [(ux, U), (lx, Lo), (px, P1)], z ∈ [(ux, U), (lx, Lo), (fx, F1), (bx, B1), (px, P1)] := fun z hz => by
    simp only [List.mem_cons, List.not_mem_nil, or_false] at hz ⊢
    rcases hz with rfl | rfl | rfl <;> simp
  generalize hT : [(ux, U), (lx, Lo), (fx, F1), (bx, B1), (px, P1)] = TT at *
  refine run_stmt (σ := sigC r ux lx fx px i p q bx) (Φ := fun σ' H' => ∃ x H1, σ' = sigC r ux lx x px i p q bx ∧ Same (wokenH L s.heap TT) H1 ∧ H1 x = none ∧ Same (wokenH L s.heap TT) H' ∧ H' x = some (.tup [.int p, .int q])) (genv_t L f cd) M hd fr W hl
    (show PS (gcx P w K mg base nmT (envT L f cd) A outer (laid s) TT) (nthS bodT 2) _ from (ps_set (i := 4) sc_two_sheets.nd rfl (Or.inl rfl) (pe_tup (pa_cons (pv 7) (pa_cons (pv 8) pa_nil))))) ?_ ?_
  · exact ⟨_, rfl, _, rfl, by show 2 ≤ sizeLine; decide, fun x nx => ⟨x, _, rfl, fun _ _ z => z, nx, same_new nx, upd_same⟩⟩
  · rintro σ' H' s1 ⟨x, H1, rfl, e1, nx, e2, hx⟩ I F
    obtain ⟨fresh, made⟩ := made_new lt I e1 nx hx
    refine k x _ fresh (ran (genv_t L f cd) W hl I e2 F fun p' hp' => ?_)
    simp only [List.mem_cons, List.not_mem_nil, or_false] at hp'
    rcases hp' with rfl | rfl | rfl | rfl
    · exact .inl (hin _ (by simp))
    · exact .inl (hin _ (by simp))
    · exact .inr ⟨fresh, made⟩
    · exact .inl (hin _ (by simp))
end
end
/-! ### two_sheets: the walk, and the rule for its loop -/
section
variable {base : Heap} {K : PySem.W.Frag} {mg : Str → Option Value} {P : Program} {w : World}
/-- what stands ahead of turn i -/
structure WalkT (P : Program) (w : World) (K : PySem.W.Frag) (mg : Str → Option Value) (base : Heap) (f : Addr) (cd : Value) (A : Around) (outer : List Env) (s0 : Shared) (H0 : Hp) (E : XK) (H : Hp) (h0 : Heap) (os0 : OsState) (L2 e ga : Addr) (g : Nat) (r v a b c d : Int) (N : Nat) (ux lx : Addr) (i : Nat) (s : Shared) : Prop where
  wb : WalkB (tX P w K mg base f cd A outer s0 H0 E) h0 os0 s
  gn : GenAt (tX P w K mg base f cd A outer s0 H0 E) L2 e ga g (cfF r v) N i s
  loc : ∃ fx px, WakeOk K mg base (envT s0.heap.objs.size f cd) outer [(ux, (a, b)), (lx, (c, d)), (fx, cG r v i), (px, cT r v a b c d i)] s ∧ LocIs (envT s0.heap.objs.size f cd) nmT s.heap (sigT r ux lx fx px) ∧ Fits h0 H fx (cG r v i) ∧ Fits h0 H px (cT r v a b c d i)
theorem loc_more {env : Env} {h h' : Heap} {m m' : Str → Option Value} {σ σ' : L2.St} {N : List Str} (len : σ'.length = N.length) (hn : h'.Ns env.locals m')
    (look : ∀ (i : Nat) (x : Str) (v : V), N[i]? = some x → σ'[i]? = some (some v) → ∃ u, RelV v u ∧ env.kindOf x = some .local ∧ m' x = some u) : LocIs env N h' σ' := ⟨len, m', hn, fun i x v e1 e2 _ => look i x v e1 e2⟩
theorem small_pow {x : Int} {i n : Nat} (h0 : 0 ≤ x) (h : x < 2 ^ (5 * i + 1)) (hi : 5 * i + 1 ≤ n) : x.natAbs < 2 ^ n := by
  have e : x.natAbs < 2 ^ (5 * i + 1) := by
    have : ((x.natAbs : Nat) : Int) < ((2 ^ (5 * i + 1) : Nat) : Int) := by
      rw [Int.natAbs_of_nonneg h0, Int.natCast_pow]
      exact h
    exact_mod_cast this
  exact Nat.lt_of_lt_of_le e (Nat.pow_le_pow_right (by decide) hi)
theorem cT_bound {r v a b c d : Int} (r2 : 2 ≤ r) (r99 : r ≤ 99) (hw : isW r v) (ba : a.natAbs < 2 ^ 100 ∧ b.natAbs < 2 ^ 100) (bc : c.natAbs < 2 ^ 100 ∧ d.natAbs < 2 ^ 100) : ∀ i, i ≤ 802 → (cT r v a b c d i).1.natAbs < 2 ^ 4200 ∧ (cT r v a b c d i).2.natAbs < 2 ^ 4200
  | 0, _ => ⟨by show (0 : Nat) < _; exact Nat.two_pow_pos _, by show (0 : Nat) < _; exact Nat.two_pow_pos _⟩
  | i + 1, hi => by
    obtain ⟨⟨p0, q0, _, _⟩, pb, qb, _, _⟩ := cf_bound r2 r99 hw (i + 1)
    have bp : (cfF r v i).1.natAbs < 2 ^ 4095 := small_pow p0 pb (by omega)
    have bq : (cfF r v i).2.natAbs < 2 ^ 4095 := small_pow q0 qb (by omega)
    have one : ∀ {x y : Int}, x.natAbs < 2 ^ 100 → y.natAbs < 2 ^ 100 → (x * (cfF r v i).2 + y * (cfF r v i).1).natAbs < 2 ^ 4200 := fun {x y} hx hy => by
      have h1 := wide_lt hx bq
      have h2 := wide_lt hy bp
      have h3 : (2 : Nat) ^ (100 + 4095) + 2 ^ (100 + 4095) ≤ 2 ^ 4200 := by
        rw [← Nat.two_mul, ← Nat.pow_succ']
        exact Nat.pow_le_pow_right (by decide) (by decide)
      have := Int.natAbs_add_le (x * (cfF r v i).2) (y * (cfF r v i).1)
      generalize (x * (cfF r v i).2).natAbs = A at *
      generalize (y * (cfF r v i).1).natAbs = B at *
      generalize (2 : Nat) ^ (100 + 4095) = C at *
      generalize (2 : Nat) ^ 4200 = E at *
      omega
    exact ⟨one ba.1 bc.1, one ba.2 bc.2⟩
theorem lift9 {x : Int} (h : x.natAbs < 2 ^ 4200) : x.natAbs < 2 ^ 9000 := Nat.lt_of_lt_of_le h (Nat.pow_le_pow_right (by decide) (by decide))
theorem lift100 {x : Int} (h : x.natAbs < 2 ^ 100) : x.natAbs < 2 ^ 9000 := Nat.lt_of_lt_of_le h (Nat.pow_le_pow_right (by decide) (by decide))
section
variable {f : Addr} {cd : Value} {A : Around} {outer : List Env} {s0 s : Shared} {H0 H : Hp} {E : XK} {h0 : Heap} {os0 : OsState} {L2 e ga ux lx : Addr} {g j : Nat} {r v a b c d : Int}
/-- what is new at a turn was new when the loop began -/
theorem WalkB.fresh {X : Cx} {h0 : Heap} {os0 : OsState} {s' : Shared} {x : Addr} (W : WalkB X h0 os0 s') (n : s'.heap.get? x = none) : h0.get? x = none := by
  cases q : h0.get? x with
  | none => rfl
  | some o =>
    exfalso
    by_cases nf : x ∈ frs X.stack
    · by_cases z : x = X.env.locals
      · obtain ⟨_, o', _, _, e, _⟩ := W.loc
        rw [← z, n] at e
        cases e
      · obtain ⟨sl, e⟩ := W.oldF x o nf z q
        rw [n] at e
        cases e
    · have e := W.old x o nf q
      rw [n] at e
      cases e
theorem walk_two (T : Txt K mg) {sL : Shared} {σL : List (Option V)} {pins : List (Addr × Obj)} (IL : Inv (tX P w K mg base f cd A outer s0 H0 E) pins σL H sL) {R : Result → Shared → Prop} {p1 p2 p3 t1 t2 : Pos} {k1 k2} (M : Mod K mg base) (hr : Room 4 (A.deeper (envT s0.heap.objs.size f cd))) (hd : A.handled = none) (fr : A.frames = some outer)
    (D : ApartE (tX P w K mg base f cd A outer s0 H0 E) sL.heap L2 e ga) (r2' : 2 ≤ r) (r99 : r ≤ 99) (hw : isW r v) (ba : a.natAbs < 2 ^ 100 ∧ b.natAbs < 2 ^ 100) (bc : c.natAbs < 2 ^ 100 ∧ d.natAbs < 2 ^ 100) (hj : j ≤ 800)
    (pos : lenB r (cT r v a b c d j) = true ∧ lenB r (cT r v a b c d (j + 1)) = true) (neg : ∀ i, i < j → ¬ (lenB r (cT r v a b c d i) = true ∧ lenB r (cT r v a b c d (i + 1)) = true))
    (W0 : WalkT P w K mg base f cd A outer s0 H0 E H sL.heap sL.os L2 e ga g r v a b c d (j + 1) ux lx 0 s)
    (fin : ∀ s' fx px bx, WalkB (tX P w K mg base f cd A outer s0 H0 E) sL.heap sL.os s' → LocIs (envT s0.heap.objs.size f cd) nmT s'.heap (sigC r ux lx fx px j (cfF r v j).1 (cfF r v j).2 bx) → PairIn s'.heap fx (cG r v j).1 (cG r v j).2 → PairIn s'.heap px (cT r v a b c d (j + 1)).1 (cT r v a b c d (j + 1)).2 → PairIn s'.heap bx (cT r v a b c d j).1 (cT r v a b c d j).2 →
      Fits sL.heap H fx (cG r v j) → Fits sL.heap H px (cT r v a b c d (j + 1)) → Fits sL.heap H bx (cT r v a b c d j) → wpAny (model P w) (A.deeper (envT s0.heap.objs.size f cd)) (exec retT (envT s0.heap.objs.size f cd)) (fun fl s'' => ∃ u, fl = .ret u ∧ R (.ok (.ret u)) s'') (fun _ _ => False) s') :
    codeAny (model P w) (A.deeper (envT s0.heap.objs.size f cd)) (.forLoop (.Tuple [.Name "at" p1, .Tuple [.Name "p" p2, .Name "q" p3] k1 t1] k2 t2) (.ref e) bodT [] (envT s0.heap.objs.size f cd)) R s := by
  refine codeAny_forLoop_any (fun n s' => ∃ i, n + i = j + 1 ∧ i ≤ j ∧ WalkT P w K mg base f cd A outer s0 H0 E H sL.heap sL.os L2 e ga g r v a b c d (j + 1) ux lx i s') ?_ (j + 1) ⟨0, rfl, Nat.zero_le _, W0⟩
  rintro n s1 ⟨i, hn, hi, W⟩
  obtain ⟨was, he⟩ := W.gn.en
  obtain ⟨gs, hgs, hbr, _, go⟩ := W.gn.sleep
  have hgl : g < s1.gens.size := (Array.getElem?_eq_some_iff.mp hgs).1
  refine GenW.wpAny_gsz (n := g + 1) hgl (wpAny_mono (next_enumg (E := fun _ _ => False) (Q := fun u s4 => ∃ T x sb gs' h4, u = .ref T ∧ s4 = { sb.setGen g gs' with heap := h4, toks := sb.toks + 1 } ∧ gs'.bare = true ∧
    YPair base (envT s0.heap.objs.size f cd :: outer) L2 (cfF r v) (j + 1) (j + 1 + 1 - i - 1) (s1.setGen g .running) (.ref x) sb (GoOn (model P w) (A.deeper (envT s0.heap.objs.size f cd)).in1.in1 (YPair base (envT s0.heap.objs.size f cd :: outer) L2 (cfF r v) (j + 1)) gs' (j + 1 + 1 - i)) ∧ IsEnumOut h4 e ga ((i : Int) + 1) (.ref x) T ∧ T = sb.heap.objs.size ∧ IsPair h4 T (.int i sb.toks) (.ref x) ∧ ∀ c o, c ≠ e → sb.heap.get? c = some o → h4.get? c = some o) he ?_) (fun u s4 hq sz => ?_) fun _ _ z => z.elim)
  · refine enumg_item he (show (A.deeper (envT s0.heap.objs.size f cd)).depth < recursionLimit by have := hr.dp; omega) (IL.ok.mod.nolimit.keeps W.wb.bs) W.gn.gen hgs (go _ ⟨allBare_setGen W.wb.bare rfl, fun _ q => q, fun _ _ _ z => z, W.wb.bs, W.wb.funs⟩) fun u sb gs' hb hv => ?_
    obtain ⟨_, _, st, _, ⟨x, rfl, _, _⟩, _⟩ := id hv
    obtain ⟨m20, hn20⟩ := W.gn.ns2
    exact ⟨st.keep e _ he (get_neD he hn20 (by simp)) (D.nf D.le), fun h' T hT e' t' u' => ⟨T, x, sb, gs', h', rfl, rfl, hb, hv, e', hT, t', u'⟩⟩
  obtain ⟨y, rfl, T', x, sb, gs', h4, rfl, rfl, hb, hv, e4, hT, t4, u4⟩ := hq
  have gz : g < sb.gens.size := by
    have q : (sb.setGen g gs').gens.size = sb.gens.size := GenW.setGen_size _ _ _
    have sz' : g + 1 ≤ (sb.setGen g gs').gens.size := sz
    omega
  obtain ⟨os1, b1, st, _, ⟨x', ex, _, xp⟩, _⟩ := id hv
  cases ex
  have st : Stays L2 (frs (tX P w K mg base f cd A outer s0 H0 E).stack) s1.heap sb.heap := st
  have xp : PairIn sb.heap x (cfF r v i).1 (cfF r v i).2 := by
    rw [show i = j + 1 - (j + 1 + 1 - i - 1) by omega]
    exact xp
  have eb : IsEnum sb.heap e ga i was := by
    obtain ⟨m20, hn20⟩ := W.gn.ns2
    exact st.keep e _ he (get_neD he hn20 (by simp)) (D.nf D.le)
  have Te : T' ≠ e := by
    rw [hT]
    exact Nat.ne_of_gt (Heap.lt_size eb)
  obtain ⟨its, rv, ox, hox, hcx, nx, hdx⟩ := xp
  obtain ⟨tp, tq, rfl⟩ := rv.int2
  have xe : x ≠ e := get_ne hox eb (by rw [hcx]; simp)
  obtain ⟨fx, px, Wk, hloc, Ff, Fp⟩ := W.loc
  obtain ⟨len, m, hm, look⟩ := hloc
  have lkl : (tX P w K mg base f cd A outer s0 H0 E).env.locals = s0.heap.objs.size := rfl
  obtain ⟨nl1, nl2, _⟩ := D.ne (D.low _ D.loc)
  rw [lkl] at nl1 nl2
  have hm : s1.heap.Ns s0.heap.objs.size m := hm
  have hmb : sb.heap.Ns s0.heap.objs.size m := by
    obtain ⟨o, es, ep, ho, hdd, rr⟩ := hm
    obtain ⟨sl, e1⟩ := st.slot _ o ho nl1 D.loc
    exact ⟨_, es, ep, e1, hdd, rr⟩
  have xl : x ≠ s0.heap.objs.size := get_neD hox hmb (by rw [hdx]; simp)
  have u4 : ∀ c o, c ≠ e → sb.heap.get? c = some o → h4.get? c = some o := u4
  dsimp only
  refine wpAny_letOwnedTupleGo_enum (s := { sb.setGen g gs' with heap := h4, toks := sb.toks + 1 }) e4 fun h5 e5 k5 => ?_
  have k5 : Heap.SameBut e h4 h5 := k5
  have u5 : ∀ c o, c ≠ e → sb.heap.get? c = some o → h5.get? c = some o := fun c o n q => k5.extBut c o n (u4 c o n q)
  refine assign_in (X := tX P w K mg base f cd A outer s0 H0 E) (s := { sb.setGen g gs' with heap := h5, toks := sb.toks + 1 }) hd ⟨_, k5.extBut _ _ Te t4, rfl, _, rfl⟩ fun h6 k6 => ?_
  have u6 : ∀ c o, h5.get? c = some o → h6.get? c = some o := fun c o q => k6 c o (Nat.ne_of_lt (Heap.lt_size q)) q
  have hm6 : h6.Ns s0.heap.objs.size m := hmb.at' fun o q => u6 _ _ (u5 _ _ nl2 q)
  have kd : ∀ y ∈ nmT, (envT s0.heap.objs.size f cd).kindOf y = some .local := fun y hy => (show ∀ y ∈ nmT, (defScope s_two_sheets).names.lookup y = some .local by decide +kernel) y hy
  refine wpAny_bind (wpAny_holding (wpAny_assign_Name (wpAny_storeName_local (env := envT s0.heap.objs.size f cd) (s := { sb.setGen g gs' with heap := h6, toks := sb.toks + 1 }) (kd "at" (by decide)) hm6 (fun h7 hm7 k7 => ?_) rfl)))
  have k7 : Heap.SameBut s0.heap.objs.size h6 h7 := k7
  refine wpAny_bind (wpAny_holding (assign_pq (X := tX P w K mg base f cd A outer s0 H0 E) hd ⟨ox, k7.extBut _ _ xl (u6 _ _ (u5 _ _ xe hox)), hcx, nx, hdx⟩ fun h8 k8 => ?_))
  have u8 : ∀ c o, h7.get? c = some o → h8.get? c = some o := fun c o q => k8 c o (Nat.ne_of_lt (Heap.lt_size q)) q
  have hm8 := hm7.at' fun o q => u8 _ _ q
  refine wpAny_bind (wpAny_holding (wpAny_assign_Name (wpAny_storeName_local (env := envT s0.heap.objs.size f cd) (kd "p" (by decide)) hm8 (fun h9 hm9 k9 => ?_) rfl)))
  refine wpAny_bind (wpAny_holding (wpAny_assign_Name (wpAny_storeName_local (env := envT s0.heap.objs.size f cd) (kd "q" (by decide)) hm9 (fun h10 hm10 k10 => wpAny_pure (wpAny_pure ?_)) rfl)))
  have k9 : Heap.SameBut s0.heap.objs.size h8 h9 := k9
  have k10 : Heap.SameBut s0.heap.objs.size h9 h10 := k10
  have u10 : ∀ c o, c ≠ e → c ≠ s0.heap.objs.size → sb.heap.get? c = some o → h10.get? c = some o := fun c o n1 n2 q => k10.extBut c o n2 (k9.extBut c o n2 (u8 c o (k7.extBut c o n2 (u6 c o (u5 c o n1 q)))))
  have e10 : IsEnum h10 e ga ((i : Int) + 1) (.ref x) := k10.extBut e _ nl2.symm (k9.extBut e _ nl2.symm (u8 e _ (k7.extBut e _ nl2.symm (u6 e _ e5))))
  have W2 := fun tk : Nat => W.wb.more (g := g) (n := tk) D os1 b1 hb st u10 ⟨_, hm10⟩
  have G2 := fun tk : Nat => W.gn.more (n := tk) D W.wb (by omega) gz hb hv e10 u10
  have hn20 := W.gn.ns2
  have prs : ∀ y p q, PairIn s1.heap y p q → PairIn h10 y p q := fun y p q z => by
    obtain ⟨m20, hn20⟩ := W.gn.ns2
    obtain ⟨its, rv', o, ho, hc, hrest⟩ := st.pair (pair_noL hn20 z) z
    have ye : y ≠ e := get_ne ho eb (by rw [hc]; simp)
    have yl : y ≠ s0.heap.objs.size := pair_noL hmb ⟨its, rv', o, ho, hc, hrest⟩
    exact ⟨its, rv', o, u10 y o ye yl ho, hc, hrest⟩
  have vis : ∀ y ∈ nmT, Vis (envT s0.heap.objs.size f cd).scope y := fun y hy => .inl (kd y hy)
  obtain ⟨_, ⟨tr, rfl⟩, _, mr⟩ := look 1 "root" (.int r) rfl rfl (vis _ (by decide))
  obtain ⟨_, rfl, _, mu⟩ := look 2 "upper" (.ref ux) rfl rfl (vis _ (by decide))
  obtain ⟨_, rfl, _, ml⟩ := look 3 "lower" (.ref lx) rfl rfl (vis _ (by decide))
  obtain ⟨_, rfl, _, mf⟩ := look 4 "fraction" (.ref fx) rfl rfl (vis _ (by decide))
  obtain ⟨_, rfl, _, mp⟩ := look 5 "part" (.ref px) rfl rfl (vis _ (by decide))
  have hl2 : LocIs (envT s0.heap.objs.size f cd) nmT h10 (sigB r ux lx fx px i (cfF r v i).1 (cfF r v i).2) := by
    obtain ⟨m10, hm10, n1, n2, n3, n4, n5, n6, n7, n8⟩ : ∃ m10, h10.Ns s0.heap.objs.size m10 ∧ m10 "root" = some (.int r tr) ∧ m10 "upper" = some (.ref ux) ∧ m10 "lower" = some (.ref lx) ∧ m10 "fraction" = some (.ref fx) ∧ m10 "part" = some (.ref px) ∧ m10 "at" = some (.int i sb.toks) ∧ m10 "p" = some (.int (cfF r v i).1 tp) ∧ m10 "q" = some (.int (cfF r v i).2 tq) :=
      ⟨_, hm10, by rw [if_neg (by decide +kernel), if_neg (by decide +kernel), if_neg (by decide +kernel)]; exact mr, by rw [if_neg (by decide +kernel), if_neg (by decide +kernel), if_neg (by decide +kernel)]; exact mu, by rw [if_neg (by decide +kernel), if_neg (by decide +kernel), if_neg (by decide +kernel)]; exact ml, by rw [if_neg (by decide +kernel), if_neg (by decide +kernel), if_neg (by decide +kernel)]; exact mf, by rw [if_neg (by decide +kernel), if_neg (by decide +kernel), if_neg (by decide +kernel)]; exact mp,
        by rw [if_neg (by decide +kernel), if_neg (by decide +kernel), if_pos rfl], by rw [if_neg (by decide +kernel), if_pos rfl], by rw [if_pos rfl]⟩
    refine ⟨rfl, m10, hm10, fun k x v e1 e2 _ => ?_⟩
    match k, e1, e2 with
    | 0, _, e2 => cases e2
    | 1, e1, e2 => cases e1; cases e2; exact ⟨_, ⟨tr, rfl⟩, kd _ (by decide), n1⟩
    | 2, e1, e2 => cases e1; cases e2; exact ⟨_, rfl, kd _ (by decide), n2⟩
    | 3, e1, e2 => cases e1; cases e2; exact ⟨_, rfl, kd _ (by decide), n3⟩
    | 4, e1, e2 => cases e1; cases e2; exact ⟨_, rfl, kd _ (by decide), n4⟩
    | 5, e1, e2 => cases e1; cases e2; exact ⟨_, rfl, kd _ (by decide), n5⟩
    | 6, e1, e2 => cases e1; cases e2; exact ⟨_, ⟨_, rfl⟩, kd _ (by decide), n6⟩
    | 7, e1, e2 => cases e1; cases e2; exact ⟨_, ⟨_, rfl⟩, kd _ (by decide), n7⟩
    | 8, e1, e2 => cases e1; cases e2; exact ⟨_, ⟨_, rfl⟩, kd _ (by decide), n8⟩
    | 9, _, e2 => cases e2
    | k + 10, e1, _ => simp [nmT] at e1
  clear e5 k5 k6 k7 k8 k9 k10 hm7 hm8 hm9 hm6 u5 u6 u8 e4 t4 u4 hox
  have fu2 : h10.FunFrames base (envT s0.heap.objs.size f cd :: outer) := (W2 0).funs
  have Wk2 : ∀ tk : Nat, WakeOk K mg base (envT s0.heap.objs.size f cd) outer [(ux, (a, b)), (lx, (c, d)), (fx, cG r v i), (px, cT r v a b c d i)] { sb.setGen g gs' with heap := h10, toks := tk } := fun tk =>
    ⟨(W2 tk).bare, (W2 tk).bs, Wk.bz, fu2.2.2, Wk.low, fun p hp => ⟨(Wk.pairs p hp).1, (Wk.pairs p hp).2.1, prs _ _ _ (Wk.pairs p hp).2.2⟩⟩
  obtain ⟨⟨pp0, pq0, _, _⟩, pb, qb, _, _⟩ := cf_bound r2' r99 hw (i + 1)
  have bp : (cfF r v i).1.natAbs < 2 ^ 9000 := two5000 pp0 pb (by omega)
  have bq : (cfF r v i).2.natAbs < 2 ^ 9000 := two5000 pq0 qb (by omega)
  obtain ⟨bx1, bx2⟩ := cT_bound r2' r99 hw ba bc i (by omega)
  obtain ⟨by1, by2⟩ := cT_bound r2' r99 hw ba bc (i + 1) (by omega)
  obtain ⟨pp, hbod⟩ := bod_t
  rw [hbod]
  refine wpAny_execs_cons (stmt_parts (P := P) (w := w) (s := { sb.setGen g gs' with heap := h10, toks := _ }) T M hr hd fr (Wk2 _) hl2 ⟨lift100 ba.1, lift100 ba.2⟩ ⟨lift100 bc.1, lift100 bc.2⟩ bp bq fun x3 s3 n3 R3 => ?_)
  have lcn : ∀ {σ' : List (Option V)} {h : Heap}, LocIs (envT s0.heap.objs.size f cd) nmT h σ' → ∃ m, h.Ns s0.heap.objs.size m := fun z => by
    obtain ⟨_, m, h, _⟩ := z
    exact ⟨m, h⟩
  have W3 := (W2 _).run D R3.stay R3.os R3.wake.bare (lcn R3.loc) R3.wake.funs
  have G3 := (G2 _).run D (lcn hl2) R3.stay R3.kg
  have F3 : Fits sL.heap H x3 (cT r v a b c d (i + 1)) := .inl ((W2 0).fresh n3)
  dsimp only
  refine wpAny_execs_cons (wpAny_If (test_parts (P := P) (w := w) (B1 := cT r v a b c d i) (P1 := cT r v a b c d (i + 1)) T M hr hd fr R3.wake R3.loc (by omega) ⟨lift9 bx1, lift9 bx2⟩ ⟨lift9 by1, lift9 by2⟩ fun s4 R4 => ?_))
  have W4 := W3.run D R4.stay R4.os R4.wake.bare (lcn R4.loc) R4.wake.funs
  have G4 := G3.run D (lcn R3.loc) R4.stay R4.kg
  by_cases cc : lenB r (cT r v a b c d i) = true ∧ lenB r (cT r v a b c d (i + 1)) = true
  · have hij : i = j := by
      rcases Nat.lt_or_ge i j with z | z
      · exact absurd cc (neg i z)
      · omega
    rw [cc.1, cc.2, if_pos (by rfl)]
    subst hij
    refine wpAny_execs_cons (wpAny_mono (fin s4 fx x3 px W4 R4.loc (R4.wake.pairs (fx, cG r v i) (by simp)).2.2 (R4.wake.pairs (x3, cT r v a b c d (i + 1)) (by simp)).2.2 (R4.wake.pairs (px, cT r v a b c d i) (by simp)).2.2 Ff F3 Fp) (fun fl s5 z => ?_) fun _ _ z => z.elim)
    obtain ⟨u, rfl, z⟩ := z
    exact z
  · have hij : i < j := by
      rcases Nat.lt_or_ge i j with z | z
      · exact z
      · rw [show i = j by omega] at cc
        exact absurd pos cc
    have cb : (lenB r (cT r v a b c d i) && lenB r (cT r v a b c d (i + 1))) = false := by
      rw [Bool.eq_false_iff]
      intro z
      rw [Bool.and_eq_true] at z
      exact cc z
    rw [cb, if_neg (by decide)]
    refine wpAny_execs_nil (wpAny_execs_cons (stmt_frac (P := P) (w := w) (F1 := cG r v i) (B1 := cT r v a b c d i) (P1 := cT r v a b c d (i + 1)) T M hd fr R4.wake R4.loc fun x5 s5 n5 R5 => ?_))
    have W5 := W4.run D R5.stay R5.os R5.wake.bare (lcn R5.loc) R5.wake.funs
    have G5 := G4.run D (lcn R4.loc) R5.stay R5.kg
    have F5 : Fits sL.heap H x5 (cG r v (i + 1)) := .inl (W4.fresh n5)
    refine wpAny_execs_nil ⟨j - i, by omega, i + 1, by omega, by omega, ⟨W5, G5, x5, x3, R5.wake, ?_, F5, F3⟩⟩
    obtain ⟨_, m5, hm5, look5⟩ := R5.loc
    refine ⟨rfl, m5, hm5, fun k x v e1 e2 e3 => look5 k x v e1 ?_ e3⟩
    match k, e2 with
    | 0, e2 => exact e2
    | 1, e2 => exact e2
    | 2, e2 => exact e2
    | 3, e2 => exact e2
    | 4, e2 => exact e2
    | 5, e2 => exact e2
    | 6, e2 => cases e2
    | 7, e2 => cases e2
    | 8, e2 => cases e2
    | 9, e2 => cases e2
    | k + 10, e2 => simp [sigT] at e2
end
end
/-! ### two_sheets: the rule for its loop -/
/-- what is known of the heap, and pairs besides -/
def addT (H : Hp) (T : List (Addr × Int × Int)) : Hp := fun x => match H x with
  | some u => some u
  | none => match T.find? (fun p => p.1 == x) with
    | some p => some (.tup [.int p.2.1, .int p.2.2])
    | none => none
theorem addT_same (H : Hp) (T : List (Addr × Int × Int)) : Same H (addT H T) := fun x u e => by
  unfold addT
  rw [e]
section
variable {X : Cx} {pins : List (Addr × Obj)} {σ σ' : List (Option V)} {H : Hp} {L2 e ga : Addr} {sL s' : Shared} {T : List (Addr × Int × Int)}
theorem addT_new {h : Heap} (hp : ∀ p ∈ T, PairIn h p.1 p.2.1 p.2.2) {x : Addr} (n : H x = none) {u : HO} (e : addT H T x = some u) : ∃ p ∈ T, p.1 = x ∧ u = .tup [.int p.2.1, .int p.2.2] := by
  unfold addT at e
  rw [n] at e
  dsimp only at e
  cases hf : T.find? (fun p => p.1 == x) with
  | none => rw [hf] at e; cases e
  | some p =>
    rw [hf] at e
    cases e
    exact ⟨p, List.mem_of_find?_eq_some hf, by simpa using List.find?_some hf, rfl⟩
theorem addT_at {h0 : Heap} {h : Heap} (hp : ∀ p ∈ T, PairIn h p.1 p.2.1 p.2.2) (hf : ∀ p ∈ T, Fits h0 H p.1 p.2) (h0n : ∀ x u, H x = some u → ∃ o, h0.get? x = some o) {p : Addr × Int × Int} (m : p ∈ T) : addT H T p.1 = some (.tup [.int p.2.1, .int p.2.2]) := by
  unfold addT
  rcases hf p m with z | z
  · have n : H p.1 = none := by
      cases q : H p.1 with
      | none => rfl
      | some u =>
        obtain ⟨o, e⟩ := h0n _ _ q
        rw [z] at e
        cases e
    rw [n]
    dsimp only
    cases hq : T.find? (fun q => q.1 == p.1) with
    | none =>
      have := List.find?_eq_none.mp hq p m
      simp at this
    | some q =>
      have hb : q.1 = p.1 := by simpa using List.find?_some hq
      have h1 := hp q (List.mem_of_find?_eq_some hq)
      rw [hb] at h1
      obtain ⟨e1, e2⟩ := pair_inj h1 (hp p m)
      dsimp only
      rw [e1, e2]
  · rw [z]
/-- back in the asking def, with the pairs that were made -/
theorem inv_two (D : ApartE X sL.heap L2 e ga) (I0 : Inv X pins σ H sL) (W : WalkB X sL.heap sL.os s') (hc : X.env.cells = []) (hl : LocIs X.env X.N s'.heap σ') (hp : ∀ p ∈ T, PairIn s'.heap p.1 p.2.1 p.2.2) (hf : ∀ p ∈ T, Fits sL.heap H p.1 p.2) : Inv X pins σ' (addT H T) s' := by
  have I1 := inv_ret D I0 W
  have there : ∀ x u, H x = some u → ∃ o, sL.heap.get? x = some o := fun x u q => objok_there (I0.hok x u q)
  have noH : ∀ {x : Addr} {o : Obj}, sL.heap.get? x = some o → H x = none → addT H T x = none := fun {x o} q n => by
    cases z : addT H T x with
    | none => rfl
    | some u =>
      obtain ⟨p, m, rfl, _⟩ := addT_new hp n z
      rcases hf p m with y | y
      · rw [q] at y
        cases y
      · rw [n] at y
        cases y
  have noc : ∀ x c, X.env.cells.lookup x = some c → False := fun x c e => by
    rw [hc] at e
    cases e
  obtain ⟨len, m, hn, look⟩ := hl
  refine ⟨I1.ok, I1.os, I1.bare, ⟨I1.base.keep, I1.base.slot, fun x o q n nex => ?_, I1.base.there, fun x xs q => addT_same H T _ _ (I1.base.tups x xs q), fun x o u q => addT_same H T _ _ (I1.base.frzs x o u q), fun x ps q => ?_⟩, ⟨m, hn, fun i x v e1 e2 e3 => ?_⟩, fun x c q => (noc x c q).elim, ?_, fun x c q => (noc x c q).elim, fun p q => ?_, fun x u q => ?_, len⟩
  · obtain ⟨o', q'⟩ := I0.base.there x o q nex
    exact noH q' (I0.base.free x o q n nex)
  · obtain ⟨more, z⟩ := I1.base.tbls x ps q
    exact ⟨more, addT_same H T _ _ z⟩
  · obtain ⟨u, ru, k, z⟩ := look i x v e1 e2 e3
    exact ⟨u, ru, .inl ⟨k, z⟩⟩
  · obtain ⟨_, hns, _⟩ := I0.loc
    obtain ⟨o, _, _, ho, _⟩ := hns
    exact noH ho I0.free
  · obtain ⟨z1, z2, z3, z4, z5⟩ := I1.pin p q
    exact ⟨z1, noH (I0.pin p q).1 z2, z3, z4, z5⟩
  · cases n : H x with
    | some u' =>
      have z := addT_same H T _ _ n
      rw [q] at z
      cases z
      exact (I1.hok x u n).stay (fun c o hcc qo => qo) (fun c qo => addT_same H T _ _ qo) fun c ys qo => addT_same H T _ _ qo
    | none =>
      obtain ⟨p, m, rfl, rfl⟩ := addT_new hp n q
      obtain ⟨its, rvs, it⟩ := hp p m
      exact ⟨by show 2 ≤ sizeLine; decide, its, rvs, it⟩
end
section
variable {base : Heap} {K : PySem.W.Frag} {mg : Str → Option Value} {P : Program} {w : World}
/-- the tuple of two sheets -/
def TwoAt (H : Hp) (R : Addr) (x y : Sh) : Prop := ∃ p q : Addr, H R = some (.tup [.ref p, .ref q]) ∧ ShAt H p x ∧ ShAt H q y
theorem TwoAt.same {H H' : Hp} {R : Addr} {x y : Sh} (h : TwoAt H R x y) (s : Same H H') : TwoAt H' R x y := by
  obtain ⟨p, q, h1, h2, h3⟩ := h
  exact ⟨p, q, s _ _ h1, h2.same s, h3.same s⟩
/-- the two sheets that are due -/
def shA (r v a b c d : Int) (j : Nat) : Sh := (tP ((j : Int) - 1) (cG r v j).1, tQ ((j : Int) - 1) (cG r v j).2, (cT r v a b c d (j + 1)).1, (cT r v a b c d (j + 1)).2)
def shB2 (r v a b c d : Int) (j : Nat) : Sh := (tP j (cfF r v j).1, tQ j (cfF r v j).2, (cT r v a b c d j).1, (cT r v a b c d j).2)
def StopAt (r v a b c d : Int) (j : Nat) : Prop := (lenB r (cT r v a b c d j) = true ∧ lenB r (cT r v a b c d (j + 1)) = true) ∧ ∀ i, i < j → ¬ (lenB r (cT r v a b c d i) = true ∧ lenB r (cT r v a b c d (i + 1)) = true)
def tForT : TS := fun D σ H => ∃ (tb : Option V) (r v a b c d : Int) (j : Nat) (ux lx fx px : Addr), σ = [tb, some (.int r), some (.ref ux), some (.ref lx), some (.ref fx), some (.ref px), none, none, none, none] ∧ H ux = some (.tup [.int a, .int b]) ∧ H lx = some (.tup [.int c, .int d]) ∧ H fx = some (.tup [.int 0, .int 0]) ∧ H px = some (.tup [.int 0, .int 0]) ∧
  2 ≤ r ∧ r ≤ 99 ∧ isW r v ∧ (a.natAbs < 2 ^ 100 ∧ b.natAbs < 2 ^ 100) ∧ (c.natAbs < 2 ^ 100 ∧ d.natAbs < 2 ^ 100) ∧ j ≤ 800 ∧ StopAt r v a b c d j ∧ ∀ R H', H R = none → Same H H' → TwoAt H' R (shA r v a b c d j) (shB2 r v a b c d j) → D.rt (.ref R) H'
theorem frames_of {A : Around} {env : Env} {outer : List Env} (h : (A.deeper env).frames = some (env :: outer)) : A.frames = some outer := by
  have h : A.frames.map (env :: ·) = some (env :: outer) := h
  cases q : A.frames with
  | none => rw [q] at h; cases h
  | some l =>
    rw [q] at h
    have := Option.some.inj h
    rw [(List.cons.inj this).2]
/-- the return -/
theorem ret_two (T : Txt K mg) {f : Addr} {cd : Value} {A : Around} {outer : List Env} {s0 s' : Shared} {H0 H : Hp} {E : XK} {pins : List (Addr × Obj)} {r v a b c d : Int} {ux lx fx px bx : Addr} {j : Nat} {Q : VK} (hr : Room 7 (A.deeper (envT s0.heap.objs.size f cd))) (j0 : 1 ≤ j)
    (I : Inv (tX P w K mg base f cd A outer s0 H0 E) pins (sigC r ux lx fx px j (cfF r v j).1 (cfF r v j).2 bx) H s') (hf : H fx = some (.tup [.int (cG r v j).1, .int (cG r v j).2])) (hp : H px = some (.tup [.int (cT r v a b c d (j + 1)).1, .int (cT r v a b c d (j + 1)).2])) (hb : H bx = some (.tup [.int (cT r v a b c d j).1, .int (cT r v a b c d j).2]))
    (q : ∀ R H', H R = none → Same H H' → TwoAt H' R (shA r v a b c d j) (shB2 r v a b c d j) → Q (.ref R) H') :
    wpAny (model P w) (A.deeper (envT s0.heap.objs.size f cd)) (exec retT (envT s0.heap.objs.size f cd)) (fun fl s'' => ∃ u y σ' H', fl = .ret u ∧ Inv (tX P w K mg base f cd A outer s0 H0 E) pins σ' H' s'' ∧ RelV y u ∧ Q y H') (fun _ _ => False) s' := by
  refine wpAny_mono ((show PS (tX P w K mg base f cd A outer s0 H0 E) retT _ from (ps_ret (pe_tup (pa_cons (pe_tup (pa_cons (pe_call (ok_tile_of T) (hr.mono (by decide)) (by rfl) T.g_tile_of T.F_tile_of.kp T.b_tile_of .nil pass0 (pa_cons (pe_op op_sub (pv 6) pe_int) (pa_cons (pv 4) pa_nil))) (pa_cons (pv 5) pa_nil))) (pa_cons (pe_tup (pa_cons (pe_call (ok_tile_of T) (hr.mono (by decide)) (by rfl) T.g_tile_of T.F_tile_of.kp T.b_tile_of .nil pass0 (pa_cons (pv 6) (pa_cons (pe_tup (pa_cons (pv 7) (pa_cons (pv 8) pa_nil))) pa_nil))) (pa_cons (pv 9) pa_nil))) pa_nil))))).run pins s' _ _ { nx := fun _ _ => False, rt := Q } I ?_) ?_ fun _ _ z => z.elim
  · refine ⟨_, rfl, (j : Int), 1, rfl, rfl, _, rfl, (j : Int) - 1, (cG r v j).1, (cG r v j).2, .ref fx, rfl, by omega, ⟨fx, rfl, SqT.of hf⟩, fun p1 G1 n1 e1 h1 => ?_⟩
    refine ⟨_, rfl, by show 2 ≤ sizeLine; decide, fun p2 n2 => ?_⟩
    have e2 := same_new (o := .tup [.ref p1, .ref px]) n2
    refine ⟨_, rfl, _, rfl, _, rfl, by show 2 ≤ sizeLine; decide, fun p3 n3 => ?_⟩
    have e3 := same_new (o := .tup [.int (cfF r v j).1, .int (cfF r v j).2]) n3
    refine ⟨(j : Int), (cfF r v j).1, (cfF r v j).2, .ref p3, rfl, by omega, ⟨p3, rfl, SqT.of upd_same⟩, fun p4 G4 n4 e4 h4 => ?_⟩
    refine ⟨_, rfl, by show 2 ≤ sizeLine; decide, fun p5 n5 => ⟨by show 2 ≤ sizeLine; decide, fun R nR => ?_⟩⟩
    have e5 := same_new (o := .tup [.ref p4, .ref bx]) n5
    have e6 := same_new (o := .tup [.ref p2, .ref p5]) nR
    have c5 := e5.trans e6
    have c4 := e4.trans c5
    have c3 := e3.trans c4
    have c2 := e2.trans c3
    have c1 := e1.trans c2
    exact q R _ ((e1.trans (e2.trans (e3.trans (e4.trans e5)))).free nR) c1 ⟨p2, p5, upd_same, ⟨p1, px, c3 _ _ upd_same, c2 _ _ h1, c1 _ _ hp⟩, p4, bx, e6 _ _ upd_same, c5 _ _ h4, c1 _ _ hb⟩
  · intro fl s2 hs
    match fl, hs with
    | .ret _, hs =>
      obtain ⟨y, σ', H', I', ry, z⟩ := hs
      exact ⟨_, y, σ', H', rfl, I', ry, z⟩
    | .brk, hs => obtain ⟨_, _, _, z⟩ := hs; exact z.elim
    | .cont, hs => obtain ⟨_, _, _, z⟩ := hs; exact z.elim
    | .next, hs => obtain ⟨_, _, _, z⟩ := hs; exact z.elim
theorem stop_pos {r v a b c d : Int} {j : Nat} (h : StopAt r v a b c d j) : 1 ≤ j := by
  cases j with
  | zero =>
    have z := h.1.1
    have e : lenB r (cT r v a b c d 0) = decide (0 < sgnI (vl 0 0 r)) := rfl
    rw [e, show vl 0 0 r = 0 by unfold vl ab; simp] at z
    revert z
    decide
  | succ n => omega
theorem ps_forT (T : Txt K mg) {f : Addr} {cd : Value} {A : Around} {outer : List Env} {s0 : Shared} {H0 : Hp} {E : XK} (hr : Room 7 (A.deeper (envT s0.heap.objs.size f cd))) : PS (tX P w K mg base f cd A outer s0 H0 E) (nthS (defBody s_two_sheets) 2) tForT := by
  refine ⟨fun pins s σ H D I hq => ?_⟩
  obtain ⟨tb, r, v, a, b, c, d, j, ux, lx, fx, px, rfl, hux, hlx, hfx, hpx, r2, r99, hw, ba, bc, hj, stop, q⟩ := hq
  obtain ⟨p1, p2, p3, k1, t1, k2, t2, pe, pf, pr, c1, c2, pos, hfor⟩ : ∃ p1 p2 p3 k1 t1 k2 t2 pe pf pr c1 c2 pos, nthS (defBody s_two_sheets) 2 = .For (.Tuple [.Name "at" p1, .Tuple [.Name "p" p2, .Name "q" p3] k1 t1] k2 t2) (.Call (.Name "enumerate" pe) [.Call (.Name "endless_fractions" pf) [.Name "root" pr] [] c1] [] c2) bodT [] pos := ⟨_, _, _, _, _, _, _, _, _, _, _, _, _, rfl⟩
  rw [hfor]
  have gE := genv_t s0.heap.objs.size f cd
  have hd : A.handled = none := I.ok.hd rfl
  have fr : A.frames = some outer := frames_of I.ok.frames
  have M : Mod K mg base := I.ok.mod
  have kd : ∀ y ∈ nmT, (envT s0.heap.objs.size f cd).kindOf y = some .local := fun y hy => (show ∀ y ∈ nmT, (defScope s_two_sheets).names.lookup y = some .local by decide +kernel) y hy
  obtain ⟨m0, hm, hlk⟩ := id I.loc
  have lkl : ∀ {y : Str} {u : Value}, y ∈ nmT → Look (envT s0.heap.objs.size f cd) s.heap m0 y u → m0 y = some u := fun {y u} hy l => by
    rcases l with ⟨_, z⟩ | ⟨z, _⟩
    · exact z
    · exfalso
      rcases z with z | z <;> (rw [kd y hy] at z; cases z)
  have vis : ∀ y ∈ nmT, Vis (envT s0.heap.objs.size f cd).scope y := fun y hy => .inl (kd y hy)
  obtain ⟨_, ⟨tr, rfl⟩, lr⟩ := hlk 1 "root" (.int r) rfl rfl (vis _ (by decide))
  obtain ⟨_, rfl, lu⟩ := hlk 2 "upper" (.ref ux) rfl rfl (vis _ (by decide))
  obtain ⟨_, rfl, ll⟩ := hlk 3 "lower" (.ref lx) rfl rfl (vis _ (by decide))
  obtain ⟨_, rfl, lf⟩ := hlk 4 "fraction" (.ref fx) rfl rfl (vis _ (by decide))
  obtain ⟨_, rfl, lp⟩ := hlk 5 "part" (.ref px) rfl rfl (vis _ (by decide))
  have mr := lkl (by decide) lr
  have mu := lkl (by decide) lu
  have ml := lkl (by decide) ll
  have mf := lkl (by decide) lf
  have mp := lkl (by decide) lp
  have hm : s.heap.Ns s0.heap.objs.size m0 := hm
  have s1 : starEach [.Call (.Name "endless_fractions" pf) [.Name "root" pr] [] c1] (envT s0.heap.objs.size f cd) = [(false, eval (.Call (.Name "endless_fractions" pf) [.Name "root" pr] [] c1) (envT s0.heap.objs.size f cd))] := rfl
  have s2 : starEach [.Name "root" pr] (envT s0.heap.objs.size f cd) = (false, eval (.Name "root" pr) (envT s0.heap.objs.size f cd)) :: starEach [] (envT s0.heap.objs.size f cd) := rfl
  refine wpAny_For ?_ (fun _ => rfl)
  refine wpAny_Call_Name_kw (ld_blt I (by rfl) T.n_enumerate PyProof.Rows.boot_enumerate (PyProof.Rows.callWith_type1 ?_ s1 rfl) (by decide) (by decide))
  show wpAny _ _ (spliced [(false, eval (.Call (.Name "endless_fractions" pf) [.Name "root" pr] [] c1) (envT s0.heap.objs.size f cd))]) _ _ _
  refine Calls.spliced_cons ?_
  refine wpAny_Call_Name_kw (ld_glob I (by rfl) T.g_endless_fractions (PySem.W.callWith_K (h₀ := base) I.ok.mod.kin T.F_endless_fractions.kp ?_ s2 rfl) (by decide))
  show wpAny _ _ (spliced [(false, eval (.Name "root" pr) (envT s0.heap.objs.size f cd))]) _ _ _
  refine Calls.spliced_cons (name_read (X := tX P w K mg base f cd A outer s0 H0 E) rfl (kd _ (by decide)) hm mr (by decide +kernel) (Calls.spliced_nil ⟨I.kIn, ?_⟩))
  refine wpAny_call (gen_made (vs := [.int r]) T.F_endless_fractions sc_endless_fractions (by decide +kernel) (show (A.deeper (envT s0.heap.objs.size f cd)).depth < recursionLimit by have := hr.dp; omega) I.kIn I.nolimit T.b_endless_fractions (.cons ⟨_, rfl⟩ .nil) rfl fun cdg ga h4 t4 la gg k4 hl4 => ?_)
  refine Calls.spliced_nil ?_
  refine call_enum_g (s := { s with gens := _, heap := h4, toks := t4 }) gg fun h5 e5 k5 => ?_
  have k5 : ∀ c o, h4.get? c = some o → h5.get? c = some o := k5
  refine wpAny_pyIter_enum (s := { s with gens := _, heap := h5, toks := t4 }) e5 ?_
  have e5 : IsEnum h5 h4.objs.size ga 0 .none := e5
  have la : s.heap.objs.size < ga := la
  have gl : ga < h4.objs.size := by
    obtain ⟨_, _, _, ho, _⟩ := id gg
    exact Heap.lt_size ho
  have kk : ∀ c o, s.heap.get? c = some o → h5.get? c = some o := fun c o z => k5 c o (k4 c o z)
  have hst : (tX P w K mg base f cd A outer s0 H0 E).stack = (tX P w K mg base f cd A outer s0 H0 E).env :: outer := rfl
  have nlf : s0.heap.objs.size ∉ frs outer := fun hb => by
    obtain ⟨_, o, ho, _⟩ := I.ok.funs.mem hb
    exact absurd (Heap.lt_size ho) (Nat.not_lt.mpr I.ok.above)
  have lowO : ∀ b ∈ frs outer, b < s0.heap.objs.size := fun b hb => by
    obtain ⟨_, o, ho, _⟩ := I.ok.funs.mem hb
    exact Nat.lt_of_lt_of_le (Heap.lt_size ho) I.ok.above
  have low : ∀ c ∈ frs (tX P w K mg base f cd A outer s0 H0 E).stack, c < s.heap.objs.size := fun c hc => by
    obtain ⟨_, o, ho, _⟩ := I.stack.mem hc
    exact Heap.lt_size ho
  have Ap : ApartE (tX P w K mg base f cd A outer s0 H0 E) s.heap s.heap.objs.size h4.objs.size ga := ⟨rfl, rfl, rfl, nlf, low, Nat.le_trans I.ok.bsz I.sz, Nat.le_refl _, Nat.le_of_lt (Nat.lt_trans la gl), Nat.le_of_lt la⟩
  have fu : h5.FunFrames base (envT s0.heap.objs.size f cd :: outer) := funs_old low (fun c o _ z => ⟨o.slots, kk c o z⟩) I.stack
  have bare : AllBare (s.gens.push (.fresh (.func (defBody s_endless_fractions) (envE s.heap.objs.size T.f_endless_fractions cdg)))) := AllBare.push I.bare rfl
  have pin0 : ∀ {x : Addr} {y z : Int}, H x = some (.tup [.int y, .int z]) → x ∉ frs outer ∧ base.get? x = none ∧ PairIn h5 x y z := fun {x y z} e => by
    obtain ⟨_, its, rv, o, ho, hc, n, hdx⟩ := I.hok x _ e
    refine ⟨fun hb => ?_, ?_, its, rv, o, kk x o ho, hc, n, hdx⟩
    · rw [I.stkFree x (List.mem_cons_of_mem _ hb)] at e
      cases e
    · cases z : base.get? x with
      | none => rfl
      | some o =>
        rw [(I.bs x o z).2] at e
        cases e
  have W0 : WalkT P w K mg base f cd A outer s0 H0 E H s.heap s.os s.heap.objs.size h4.objs.size ga s.gens.size r v a b c d (j + 1) ux lx 0 { s with gens := s.gens.push (.fresh (.func (defBody s_endless_fractions) (envE s.heap.objs.size T.f_endless_fractions cdg))), heap := h5, toks := t4 } := by
    refine ⟨⟨rfl, bare, fun c o z => kk c o (I.bk c o z), fu, fun c o _ z => kk c o z, fun c o _ _ z => ⟨o.slots, kk c o z⟩, m0, hm.keeps kk⟩, ⟨⟨_, e5⟩, ?_, ?_, _, Array.getElem?_push_size .., rfl, .inl rfl, fun s' B => ⟨rfl, ?_⟩⟩, fx, px, ⟨bare, fun c o z => kk c o (I.bk c o z), Nat.le_trans I.ok.bsz I.ok.above, fu.2.2, lowO, fun p hp => ?_⟩, ?_, .inr hfx, .inr hpx⟩
    · obtain ⟨o, nm, qn, ho, rest⟩ := gg
      exact ⟨o, nm, qn, k5 _ _ ho, rest⟩
    · obtain ⟨_, m, h, _⟩ := hl4
      exact ⟨m, h.keeps k5⟩
    · refine fresh_e (A := (A.deeper (envT s0.heap.objs.size f cd)).in1.in1) (outer := envT s0.heap.objs.size f cd :: outer) T M ?_ hr.hd I.ok.frames r2 r99 hw (by omega) s' ⟨B.bare, B.bs, Nat.le_trans I.ok.bsz I.sz, B.funs, low, fun p hp => nomatch hp⟩ ?_
      · exact (show Room 5 (A.deeper (envT s0.heap.objs.size f cd)).in1.in1 from Room.in1 (Room.in1 hr)).deeper _
      · obtain ⟨len, m, h, look⟩ := hl4
        exact ⟨len, m, (h.keeps k5).at' fun o z => B.frame o z, look⟩
    · simp only [List.mem_cons, List.not_mem_nil, or_false] at hp
      rcases hp with rfl | rfl | rfl | rfl
      · exact pin0 hux
      · exact pin0 hlx
      · exact pin0 hfx
      · exact pin0 hpx
    · refine ⟨rfl, m0, hm.keeps kk, fun k x v e1 e2 _ => ?_⟩
      match k, e1, e2 with
      | 0, _, e2 => cases e2
      | 1, e1, e2 => cases e1; cases e2; exact ⟨_, ⟨tr, rfl⟩, kd _ (by decide), mr⟩
      | 2, e1, e2 => cases e1; cases e2; exact ⟨_, rfl, kd _ (by decide), mu⟩
      | 3, e1, e2 => cases e1; cases e2; exact ⟨_, rfl, kd _ (by decide), ml⟩
      | 4, e1, e2 => cases e1; cases e2; exact ⟨_, rfl, kd _ (by decide), mf⟩
      | 5, e1, e2 => cases e1; cases e2; exact ⟨_, rfl, kd _ (by decide), mp⟩
      | 6, _, e2 => cases e2
      | 7, _, e2 => cases e2
      | 8, _, e2 => cases e2
      | 9, _, e2 => cases e2
      | k + 10, e1, _ => simp [nmT] at e1
  refine walk_two (P := P) (w := w) T I M (hr.mono (by decide)) hd fr Ap r2 r99 hw ba bc hj stop.1 stop.2 W0 fun s' fx' px' bx' W lc hf hp hb ff fp fb => ?_
  have hp3 : ∀ p ∈ [(fx', cG r v j), (px', cT r v a b c d (j + 1)), (bx', cT r v a b c d j)], PairIn s'.heap p.1 p.2.1 p.2.2 := fun p m => by
    simp only [List.mem_cons, List.not_mem_nil, or_false] at m
    rcases m with rfl | rfl | rfl
    · exact hf
    · exact hp
    · exact hb
  have hf3 : ∀ p ∈ [(fx', cG r v j), (px', cT r v a b c d (j + 1)), (bx', cT r v a b c d j)], Fits s.heap H p.1 p.2 := fun p m => by
    simp only [List.mem_cons, List.not_mem_nil, or_false] at m
    rcases m with rfl | rfl | rfl
    · exact ff
    · exact fp
    · exact fb
  have I4 := inv_two Ap I W gE.cells lc hp3 hf3
  have at3 := fun (p : Addr × Int × Int) m => addT_at (p := p) hp3 hf3 (fun x u e => objok_there (I.hok x u e)) m
  refine wpAny_mono (ret_two (Q := D.rt) T (hr.mono (by decide)) (stop_pos stop) I4 (at3 (fx', cG r v j) (by simp)) (at3 (px', cT r v a b c d (j + 1)) (by simp)) (at3 (bx', cT r v a b c d j) (by simp)) fun R H' nR sR tw => q R H' ((addT_same H _).free nR) ((addT_same H _).trans sR) tw) (fun fl s'' z => ?_) fun _ _ z => z
  obtain ⟨u, y, σ', H', rfl, I', ry, z⟩ := z
  exact ⟨u, rfl, y, σ', H', I', ry, z⟩
end
/-! ### two_sheets -/
section
variable {base : Heap} {K : PySem.W.Frag} {mg : Str → Option Value} {P : Program} {w : World}
def spTwo (C : Addr) : Sp := fun vs H Q _ => ∃ (p : Addr) (r v a b c d : Int) (j : Nat), vs = [.ref p, .int r] ∧ TabAt C H p a b c d ∧ 2 ≤ r ∧ r ≤ 99 ∧ isW r v ∧ (a.natAbs < 2 ^ 100 ∧ b.natAbs < 2 ^ 100) ∧ (c.natAbs < 2 ^ 100 ∧ d.natAbs < 2 ^ 100) ∧ j ≤ 800 ∧ StopAt r v a b c d j ∧
  ∀ R H', H R = none → Same H H' → TwoAt H' R (shA r v a b c d j) (shB2 r v a b c d j) → Q (.ref R) H'
theorem ok_two_sheets (T : Txt K mg) : FnOk P w K mg base CX0 10 T.f_two_sheets T.d_two_sheets ["table", "root"] (spTwo T.C_Table) := by
  refine T.F_two_sheets.ok sc_two_sheets (fun vs H Q E h => ?_) (fun cdv A outer s H vs Q E hr h => ?_)
  · obtain ⟨p, r, v, a, b, c, d, j, rfl, _⟩ := h
    rfl
  · obtain ⟨p, r, v, a, b, c, d, j, rfl, hp, r2, r99, hw, ba, bc, hj, stop, q⟩ := h
    refine ⟨_, (pss_cons (ps_asg (pe_meth0 (pv 0) T.cl_Table T.m_Table_rows (ok_Table_rows T) (hr.mono (by decide)) T.b_Table_rows .nil pass0) (pg_tup (by rfl) (pgs_cons (pg_name (i := 2) sc_two_sheets.nd rfl (Or.inl rfl)) (pgs_cons (pg_name (i := 3) sc_two_sheets.nd rfl (Or.inl rfl)) pgs_nil))))
      (pss_cons (ps_asg (pe_tup (pa_cons (pe_tup (pa_cons pe_int (pa_cons pe_int pa_nil))) (pa_cons (pe_tup (pa_cons pe_int (pa_cons pe_int pa_nil))) pa_nil))) (pg_tup (by rfl) (pgs_cons (pg_name (i := 4) sc_two_sheets.nd rfl (Or.inl rfl)) (pgs_cons (pg_name (i := 5) sc_two_sheets.nd rfl (Or.inl rfl)) pgs_nil))))
      (pss_one (ps_forT T (hr.mono (by decide)))))), ?_⟩
    have hp' := hp
    obtain ⟨dx, t0, hi, _⟩ := hp'
    refine ⟨_, rfl, p, dx, _, rfl, hi, rfl, p, a, b, c, d, rfl, hp, fun t ht => ?_⟩
    obtain ⟨u1, u2, ht, hu1, hu2⟩ := ht
    refine ⟨t, _, rfl, SqT.of ht, rfl, .ref u1, _, rfl, .ref u2, _, rfl, rfl, ?_⟩
    refine ⟨by show 2 ≤ sizeLine; decide, fun f1 n1 => ⟨by show 2 ≤ sizeLine; decide, fun f2 n2 => ⟨by show 2 ≤ sizeLine; decide, fun f3 n3 => ?_⟩⟩⟩
    have e1 := same_new (o := .tup [.int 0, .int 0]) n1
    have e2 := same_new (o := .tup [.int 0, .int 0]) n2
    have e3 := same_new (o := .tup [.ref f1, .ref f2]) n3
    have ee := e1.trans (e2.trans e3)
    refine ⟨f3, _, rfl, SqT.of upd_same, rfl, .ref f1, _, rfl, .ref f2, _, rfl, rfl, ?_⟩
    exact ⟨_, r, v, a, b, c, d, j, u1, u2, f1, f2, rfl, ee _ _ hu1, ee _ _ hu2, (e2.trans e3) _ _ upd_same, e3 _ _ upd_same, r2, r99, hw, ba, bc, hj, stop, fun R H' nR sR tw => q R H' (ee.free nR) (ee.trans sR) tw⟩
end
/-! ### what the fractions are like -/
def alt : Nat → Int
  | 0 => 1
  | i + 1 => -alt i
theorem alt_is (n : Nat) : alt n = if (n : Int) % 2 = 0 then 1 else -1 := by
  induction n with
  | zero => rfl
  | succ n ih =>
    show -alt n = _
    rw [ih]
    split <;> split <;> omega
theorem cf_det (r w : Int) : ∀ i, (cfR r w i).1.1 * (cfR r w i).2.2 - (cfR r w i).1.2 * (cfR r w i).2.1 = alt i
  | 0 => rfl
  | i + 1 => by
    have ih := cf_det r w i
    show ((cfR r w i).1.1 * (cfS r w i).2.2 + (cfR r w i).2.1) * (cfR r w i).1.2 - ((cfR r w i).1.2 * (cfS r w i).2.2 + (cfR r w i).2.2) * (cfR r w i).1.1 = -alt i
    rw [← ih]
    grind
theorem cf_det2 (r w : Int) (n : Nat) : (cfF r w (n + 1)).1 * (cfF r w n).2 - (cfF r w (n + 1)).2 * (cfF r w n).1 = alt n := by
  have := cf_det r w (n + 2)
  rw [cfR_two] at this
  have e : alt (n + 2) = alt n := Int.neg_neg _
  rw [e] at this
  exact this
/-! ### the norms of the fractions, the signs of the tile lengths -/
def cfU (r w : Int) : Nat → Int
  | 0 => r
  | i + 1 => (cfS r w i).2.1
structure CfNorm (r w : Int) (i : Nat) : Prop where
  tu : (cfS r w i).2.1 * cfU r w i = r - (cfS r w i).1 * (cfS r w i).1
  a : (cfR r w i).1.1 * (cfR r w i).1.1 - r * ((cfR r w i).1.2 * (cfR r w i).1.2) = alt i * (cfS r w i).2.1
  b : (cfR r w i).2.1 * (cfR r w i).2.1 - r * ((cfR r w i).2.2 * (cfR r w i).2.2) = -(alt i * cfU r w i)
  c : (cfR r w i).1.1 * (cfR r w i).2.1 - r * ((cfR r w i).1.2 * (cfR r w i).2.2) = -(alt i * (cfS r w i).1)
theorem cf_norm {r w : Int} (h2 : 2 ≤ r) (h99 : r ≤ 99) (hw : isW r w) : ∀ i, CfNorm r w i
  | 0 => by
    constructor
    · show (1 : Int) * r = r - 0 * 0
      omega
    · show (1 : Int) * 1 - r * (0 * 0) = 1 * 1
      omega
    · show (0 : Int) * 0 - r * (1 * 1) = -(1 * r)
      omega
    · show (1 : Int) * 0 - r * (0 * 1) = -(1 * 0)
      omega
  | i + 1 => by
    obtain ⟨tu, a, b, c⟩ := cf_norm h2 h99 hw i
    obtain ⟨_, _, t1, _, _, _⟩ := cf_num h2 h99 hw i
    have ed : (cfS r w (i + 1)).2.1 = cfU r w i - (cfS r w i).2.1 * ((cfS r w i).2.2 * (cfS r w i).2.2) + 2 * ((cfS r w i).2.2 * (cfS r w i).1) := by
      show (r - ((cfS r w i).2.1 * (cfS r w i).2.2 - (cfS r w i).1) * ((cfS r w i).2.1 * (cfS r w i).2.2 - (cfS r w i).1)) / (cfS r w i).2.1 = _
      generalize (cfS r w i).2.1 = t at *
      generalize (cfS r w i).2.2 = k at *
      generalize (cfS r w i).1 = m at *
      generalize cfU r w i = u at *
      have : r - (t * k - m) * (t * k - m) = t * (u - t * (k * k) + 2 * (k * m)) := by grind
      rw [this]
      exact Int.mul_ediv_cancel_left _ (by omega)
    have em : (cfS r w (i + 1)).1 = (cfS r w i).2.1 * (cfS r w i).2.2 - (cfS r w i).1 := rfl
    have ep : (cfR r w (i + 1)).1 = ((cfR r w i).1.1 * (cfS r w i).2.2 + (cfR r w i).2.1, (cfR r w i).1.2 * (cfS r w i).2.2 + (cfR r w i).2.2) := rfl
    have eq : (cfR r w (i + 1)).2 = (cfR r w i).1 := rfl
    have ea : alt (i + 1) = -alt i := rfl
    have eu : cfU r w (i + 1) = (cfS r w i).2.1 := rfl
    constructor
    · rw [ed, em, eu]
      clear ed em ep eq ea eu a b c
      generalize (cfS r w i).2.1 = t at *
      generalize (cfS r w i).2.2 = k at *
      generalize (cfS r w i).1 = m at *
      generalize cfU r w i = u at *
      grind
    · rw [ed, ep, ea]
      clear ed em ep eq ea eu
      generalize (cfS r w i).2.1 = t at *
      generalize (cfS r w i).2.2 = k at *
      generalize (cfS r w i).1 = m at *
      generalize cfU r w i = u at *
      generalize (cfR r w i).1.1 = p at *
      generalize (cfR r w i).1.2 = q at *
      generalize (cfR r w i).2.1 = x at *
      generalize (cfR r w i).2.2 = y at *
      generalize alt i = s at *
      show (p * k + x) * (p * k + x) - r * ((q * k + y) * (q * k + y)) = _
      have e : (p * k + x) * (p * k + x) - r * ((q * k + y) * (q * k + y)) = k * k * (p * p - r * (q * q)) + 2 * k * (p * x - r * (q * y)) + (x * x - r * (y * y)) := by grind
      rw [e, a, b, c]
      grind
    · rw [eq, eu, ea, a]
      grind
    · rw [ep, eq, ea, em]
      clear ed em ep eq ea eu
      generalize (cfS r w i).2.1 = t at *
      generalize (cfS r w i).2.2 = k at *
      generalize (cfS r w i).1 = m at *
      generalize (cfR r w i).1.1 = p at *
      generalize (cfR r w i).1.2 = q at *
      generalize (cfR r w i).2.1 = x at *
      generalize (cfR r w i).2.2 = y at *
      generalize alt i = s at *
      show (p * k + x) * p - r * ((q * k + y) * q) = _
      have e : (p * k + x) * p - r * ((q * k + y) * q) = k * (p * p - r * (q * q)) + (p * x - r * (q * y)) := by grind
      rw [e, a, c]
      grind
/-- the norm of a fraction -/
theorem cfF_norm {r w : Int} (h2 : 2 ≤ r) (h99 : r ≤ 99) (hw : isW r w) (n : Nat) : r * ((cfF r w n).2 * (cfF r w n).2) - (cfF r w n).1 * (cfF r w n).1 = alt n * (cfS r w (n + 1)).2.1 := by
  have := (cf_norm h2 h99 hw (n + 1)).a
  have ea : alt (n + 1) = -alt n := rfl
  rw [ea] at this
  show r * ((cfR r w (n + 1)).1.2 * (cfR r w (n + 1)).1.2) - (cfR r w (n + 1)).1.1 * (cfR r w (n + 1)).1.1 = _
  grind
/-- of two in a row -/
theorem cfF_two {r w : Int} (h2 : 2 ≤ r) (h99 : r ≤ 99) (hw : isW r w) (n : Nat) : r * (((cfF r w n).2 + (cfF r w (n + 1)).2) * ((cfF r w n).2 + (cfF r w (n + 1)).2)) - ((cfF r w n).1 + (cfF r w (n + 1)).1) * ((cfF r w n).1 + (cfF r w (n + 1)).1) =
    alt n * ((cfS r w (n + 1)).2.1 - (cfS r w (n + 2)).2.1 + 2 * (cfS r w (n + 2)).1) := by
  have h0 := cfF_norm h2 h99 hw n
  have h1 := cfF_norm h2 h99 hw (n + 1)
  have hc := (cf_norm h2 h99 hw (n + 2)).c
  rw [cfR_two] at hc
  have ea : alt (n + 1) = -alt n := rfl
  have eb : alt (n + 2) = alt n := Int.neg_neg _
  rw [ea] at h1
  rw [eb] at hc
  dsimp only at hc
  generalize (cfF r w n).1 = p at *
  generalize (cfF r w n).2 = q at *
  generalize (cfF r w (n + 1)).1 = x at *
  generalize (cfF r w (n + 1)).2 = y at *
  grind
theorem cf_gap {r w : Int} (h2 : 2 ≤ r) (h99 : r ≤ 99) (hw : isW r w) (n : Nat) : 0 < (cfS r w (n + 1)).2.1 - (cfS r w (n + 2)).2.1 + 2 * (cfS r w (n + 2)).1 := by
  obtain ⟨g, _⟩ := cf_good h2 h99 hw (n + 1)
  obtain ⟨m1, m2, t1, t2, t3, t4, t5, t6⟩ := of_decide_eq_true g
  have tu := (cf_norm h2 h99 hw (n + 2)).tu
  have e : (r - (cfS r w (n + 1 + 1)).1 * (cfS r w (n + 1 + 1)).1) / (cfS r w (n + 1 + 1)).2.1 = (cfS r w (n + 1)).2.1 := by
    rw [← tu]
    exact Int.mul_ediv_cancel_left _ (show (cfS r w (n + 2)).2.1 ≠ 0 by have : 1 ≤ (cfS r w (n + 2)).2.1 := t1; omega)
  rw [e] at t6
  have : (cfS r w (n + 2)).2.1 < (cfS r w (n + 1)).2.1 + 2 * (cfS r w (n + 2)).1 := t6
  omega
theorem vl_np {p q r : Int} (hp : 0 ≤ p) (hq : 0 ≤ q) : vl (-p) q r = r * (q * q) - p * p := by
  unfold vl
  rw [ab_nn hq, show ab (-p) = p by unfold ab; split <;> omega]
  grind
theorem vl_pn {p q r : Int} (hp : 0 ≤ p) (hq : 0 ≤ q) : vl p (-q) r = p * p - r * (q * q) := by
  unfold vl
  rw [ab_nn hp, show ab (-q) = q by unfold ab; split <;> omega]
  grind
/-- a tile length is more than nothing -/
theorem tile_pos {r w : Int} (h2 : 2 ≤ r) (h99 : r ≤ 99) (hw : isW r w) (n : Nat) : 0 < vl (tP n (cfF r w n).1) (tQ n (cfF r w n).2) r := by
  obtain ⟨⟨a, b, _, _⟩, _⟩ := cf_bound h2 h99 hw (n + 1)
  have hn := cfF_norm h2 h99 hw n
  obtain ⟨_, _, t1, _, _, _⟩ := cf_num h2 h99 hw (n + 1)
  have a : 0 ≤ (cfF r w n).1 := a
  have b : 0 ≤ (cfF r w n).2 := b
  rw [alt_is] at hn
  unfold tP tQ
  by_cases e : (n : Int) % 2 = 0
  · rw [if_pos e] at hn
    rw [if_pos e, if_pos e, vl_np a b]
    show 0 < r * ((cfF r w n).2 * (cfF r w n).2) - (cfF r w n).1 * (cfF r w n).1
    omega
  · rw [if_neg e] at hn
    rw [if_neg e, if_neg e, vl_pn a b]
    show 0 < (cfF r w n).1 * (cfF r w n).1 - r * ((cfF r w n).2 * (cfF r w n).2)
    omega
/-- and more than the next -/
theorem tile_gap {r w : Int} (h2 : 2 ≤ r) (h99 : r ≤ 99) (hw : isW r w) (n : Nat) : 0 < vl (tP n (cfF r w n).1 - tP ((n : Int) + 1) (cfF r w (n + 1)).1) (tQ n (cfF r w n).2 - tQ ((n : Int) + 1) (cfF r w (n + 1)).2) r := by
  obtain ⟨⟨a, b, _, _⟩, _⟩ := cf_bound h2 h99 hw (n + 1)
  obtain ⟨⟨a', b', _, _⟩, _⟩ := cf_bound h2 h99 hw (n + 2)
  have a : 0 ≤ (cfF r w n).1 := a
  have b : 0 ≤ (cfF r w n).2 := b
  have a' : 0 ≤ (cfF r w (n + 1)).1 := a'
  have b' : 0 ≤ (cfF r w (n + 1)).2 := b'
  have hn := cfF_two h2 h99 hw n
  have hg := cf_gap h2 h99 hw n
  rw [alt_is] at hn
  unfold tP tQ
  by_cases e : (n : Int) % 2 = 0
  · rw [if_pos e] at hn
    rw [if_pos e, if_pos e, if_neg (by omega), if_neg (by omega)]
    rw [show -(cfF r w n).1 - (cfF r w (n + 1)).1 = -((cfF r w n).1 + (cfF r w (n + 1)).1) by omega, show (cfF r w n).2 - -(cfF r w (n + 1)).2 = (cfF r w n).2 + (cfF r w (n + 1)).2 by omega, vl_np (by omega) (by omega)]
    omega
  · rw [if_neg e] at hn
    rw [if_neg e, if_neg e, if_pos (by omega), if_pos (by omega)]
    rw [show (cfF r w n).1 - -(cfF r w (n + 1)).1 = (cfF r w n).1 + (cfF r w (n + 1)).1 by omega, show -(cfF r w n).2 - (cfF r w (n + 1)).2 = -((cfF r w n).2 + (cfF r w (n + 1)).2) by omega, vl_pn (by omega) (by omega)]
    omega
/-! ### that two sheets are found -/
def cN (r v a b : Int) (i : Nat) : Int := a * (cfF r v i).2 + b * (cfF r v i).1
section
variable {r v a b c d : Int}
theorem cN_two (r v a b : Int) (i : Nat) : cN r v a b (i + 2) = (cfS r v (i + 2)).2.2 * cN r v a b (i + 1) + cN r v a b i := by
  have e1 : cfF r v (i + 2) = ((cfF r v (i + 1)).1 * (cfS r v (i + 2)).2.2 + (cfF r v i).1, (cfF r v (i + 1)).2 * (cfS r v (i + 2)).2.2 + (cfF r v i).2) := rfl
  unfold cN
  rw [e1]
  dsimp only
  grind
/-- both coordinates at a number are not negative -/
def OkAt (r v a b : Int) (n : Nat) : Prop := 0 ≤ cN r v a b n ∧ 0 ≤ cN r v a b (n + 1)
theorem OkAt.up (r2 : 2 ≤ r) (r99 : r ≤ 99) (hw : isW r v) {n : Nat} (h : OkAt r v a b n) : OkAt r v a b (n + 1) := by
  obtain ⟨_, _, _, _, k1, _⟩ := cf_num r2 r99 hw (n + 2)
  refine ⟨h.2, ?_⟩
  rw [show n + 1 + 1 = n + 2 from rfl, cN_two]
  have := Int.mul_nonneg (show 0 ≤ (cfS r v (n + 2)).2.2 by omega) h.2
  have := h.1
  omega
theorem OkAt.le (r2 : 2 ≤ r) (r99 : r ≤ 99) (hw : isW r v) {n : Nat} (h : OkAt r v a b n) : ∀ d, OkAt r v a b (n + d)
  | 0 => h
  | d + 1 => (OkAt.le r2 r99 hw h d).up r2 r99 hw
theorem q_grow (r2 : 2 ≤ r) (r99 : r ≤ 99) (hw : isW r v) : ∀ m : Nat, (2 : Int) ^ m ≤ (cfF r v (2 * m)).2 ∧ (2 : Int) ^ m ≤ (cfF r v (2 * m + 1)).2
  | 0 => by
    obtain ⟨_, _, _, _, k1, _⟩ := cf_num r2 r99 hw 1
    refine ⟨show (1 : Int) ≤ 0 * v + 1 by omega, ?_⟩
    show (1 : Int) ≤ (0 * v + 1) * (cfS r v 1).2.2 + 0
    rw [Int.zero_mul, Int.zero_add, Int.one_mul, Int.add_zero]
    exact k1
  | m + 1 => by
    obtain ⟨h0, h1⟩ := q_grow r2 r99 hw m
    obtain ⟨_, _, _, _, k1, _⟩ := cf_num r2 r99 hw (2 * m + 2)
    obtain ⟨_, _, _, _, k1', _⟩ := cf_num r2 r99 hw (2 * m + 3)
    have e2 : (cfF r v (2 * m + 2)).2 = (cfF r v (2 * m + 1)).2 * (cfS r v (2 * m + 2)).2.2 + (cfF r v (2 * m)).2 := rfl
    have e3 : (cfF r v (2 * m + 3)).2 = (cfF r v (2 * m + 2)).2 * (cfS r v (2 * m + 3)).2.2 + (cfF r v (2 * m + 1)).2 := rfl
    have p : (0 : Int) < 2 ^ m := Int.pow_pos (by decide)
    have u2 := Int.mul_le_mul_of_nonneg_left k1 (show 0 ≤ (cfF r v (2 * m + 1)).2 by omega)
    have ep : (2 : Int) ^ (m + 1) = 2 ^ m * 2 := Int.pow_succ 2 m
    have g2 : (2 : Int) ^ (m + 1) ≤ (cfF r v (2 * m + 2)).2 := by omega
    have u3 := Int.mul_le_mul_of_nonneg_left k1' (show 0 ≤ (cfF r v (2 * m + 2)).2 by omega)
    exact ⟨g2, by show (2 : Int) ^ (m + 1) ≤ (cfF r v (2 * m + 3)).2; omega⟩
theorem sq_less {x y : Int} (hx : 0 ≤ x) (h : x < y) : x * x < y * y := by
  have h1 := Int.mul_le_mul_of_nonneg_left (Int.le_of_lt h) hx
  have h2 := Int.mul_lt_mul_of_pos_right h (show 0 < y by omega)
  omega
/-- a length is nearly its own first coordinate, where the denominator is great -/
theorem first_nn {p q : Int} (h : 0 < vl a b r) (hr : 2 ≤ r) (hp : 0 ≤ p) (hq : 0 ≤ q) (n1 : r * (q * q) - p * p ≤ 99) (n2 : p * p - r * (q * q) ≤ 99) (big : 99 * (b * b) < q * q) : 0 ≤ a * q + b * p := by
  unfold vl at h
  have B0 : 0 ≤ b * b := by
    rcases Int.le_total 0 b with z | z
    · exact Int.mul_nonneg z z
    · exact Int.mul_nonneg_of_nonpos_of_nonpos z z
  have Q0 : 0 ≤ q * q := Int.mul_nonneg hq hq
  have e1 := Int.mul_le_mul_of_nonneg_left n1 B0
  have e2 := Int.mul_le_mul_of_nonneg_left n2 B0
  rcases Int.lt_or_le (a * q + b * p) 0 with c | c
  · exfalso
    rcases Int.lt_or_le a 0 with ha | ha <;> rcases Int.lt_or_le b 0 with hb | hb
    · rw [ab_neg ha, ab_neg hb] at h
      have t1 := Int.mul_pos_of_neg_of_neg ha ha
      have t2 := Int.mul_nonneg (show 0 ≤ r by omega) B0
      grind
    · rw [ab_neg ha, ab_nn hb] at h
      have t := sq_less (x := b * p) (y := -a * q) (Int.mul_nonneg hb hp) (by grind)
      have f : (a * a + 1) * (q * q) ≤ (r * (b * b)) * (q * q) := Int.mul_le_mul_of_nonneg_right (by grind) Q0
      grind
    · rw [ab_nn ha, ab_neg hb] at h
      have t := sq_less (x := a * q) (y := -b * p) (Int.mul_nonneg ha hq) (by grind)
      have f : (r * (b * b) + 1) * (q * q) ≤ (a * a) * (q * q) := Int.mul_le_mul_of_nonneg_right (by grind) Q0
      grind
    · have t1 := Int.mul_nonneg ha hq
      have t2 := Int.mul_nonneg hb hp
      omega
  · exact c
theorem norm_le (r2 : 2 ≤ r) (r99 : r ≤ 99) (hw : isW r v) (i : Nat) : r * ((cfF r v i).2 * (cfF r v i).2) - (cfF r v i).1 * (cfF r v i).1 ≤ 99 ∧ (cfF r v i).1 * (cfF r v i).1 - r * ((cfF r v i).2 * (cfF r v i).2) ≤ 99 := by
  obtain ⟨_, _, t1, t2, _, _⟩ := cf_num r2 r99 hw (i + 1)
  have hn := cfF_norm r2 r99 hw i
  rw [alt_is] at hn
  split at hn <;> omega
theorem q_one (r2 : 2 ≤ r) (r99 : r ≤ 99) (hw : isW r v) (i : Nat) : 1 ≤ (cfF r v i).2 := by
  obtain ⟨h0, h1⟩ := q_grow r2 r99 hw (i / 2)
  have p : (0 : Int) < 2 ^ (i / 2) := Int.pow_pos (by decide)
  rcases Nat.mod_two_eq_zero_or_one i with z | z
  · rw [show 2 * (i / 2) = i by omega] at h0
    omega
  · rw [show 2 * (i / 2) + 1 = i by omega] at h1
    omega
theorem p_nn (r2 : 2 ≤ r) (r99 : r ≤ 99) (hw : isW r v) (i : Nat) : 0 ≤ (cfF r v i).1 := (cf_bound r2 r99 hw (i + 1)).1.1
theorem p_le (r2 : 2 ≤ r) (r99 : r ≤ 99) (hw : isW r v) (i : Nat) : (cfF r v i).1 ≤ 20 * (cfF r v i).2 := by
  have q1 := q_one r2 r99 hw i
  have p0 := p_nn r2 r99 hw i
  obtain ⟨_, n2⟩ := norm_le r2 r99 hw i
  generalize (cfF r v i).1 = p at *
  generalize (cfF r v i).2 = q at *
  rcases Int.lt_or_le (20 * q) p with z | z
  · exfalso
    have h1 := sq_less (x := 20 * q) (y := p) (by omega) z
    have h2 : r * (q * q) ≤ 99 * (q * q) := Int.mul_le_mul_of_nonneg_right r99 (Int.mul_nonneg (by omega) (by omega))
    have h3 : (20 * q) * (20 * q) = 400 * (q * q) := by grind
    have h4 : 1 ≤ q * q := by
      have := Int.mul_le_mul q1 q1 (by decide) (by omega)
      omega
    omega
  · exact z
/-- a pair that is long by a fraction is a length -/
theorem part_pos {p q x y : Int} (hr : 2 ≤ r) (p0 : 0 ≤ p) (q1 : 1 ≤ q) (n1 : r * (q * q) - p * p ≤ 99) (n2 : p * p - r * (q * q) ≤ 99) (big : 99 * (y.natAbs : Int) < q * x + p * y) : 0 < vl x y r := by
  unfold vl
  rcases Int.lt_or_le x 0 with hx | hx <;> rcases Int.lt_or_le y 0 with hy | hy
  · exfalso
    have t1 := Int.mul_nonneg (show 0 ≤ q by omega) (show 0 ≤ -x by omega)
    have t2 := Int.mul_nonneg p0 (show 0 ≤ -y by omega)
    rw [Int.mul_neg] at t1 t2
    omega
  · rw [ab_neg hx, ab_nn hy]
    have e : ((y.natAbs : Nat) : Int) = y := Int.natAbs_of_nonneg hy
    rw [e] at big
    rcases Int.lt_or_le 0 (x * -x + r * y * y) with z | z
    · exact z
    · exfalso
      have b2 : q * -x < (p - 99) * y := by
        rw [Int.mul_neg, Int.sub_mul]
        omega
      have b0 : 0 ≤ q * -x := Int.mul_nonneg (by omega) (by omega)
      have s := sq_less b0 b2
      have p99 : 100 ≤ p := by
        rcases Int.lt_or_le p 100 with w | w
        · exfalso
          have := Int.mul_nonneg (show 0 ≤ 99 - p by omega) hy
          have e2 : (99 - p) * y = -((p - 99) * y) := by grind
          omega
        · exact w
      have y2 : 0 ≤ y * y := Int.mul_nonneg hy hy
      have m1 := Int.mul_le_mul_of_nonneg_right (show (p - 99) * (p - 99) ≤ r * (q * q) by
        have : (p - 99) * (p - 99) = p * p - 198 * p + 9801 := by grind
        omega) y2
      have m2 := Int.mul_le_mul_of_nonneg_left (show r * (y * y) ≤ x * x by
        have : x * -x + r * y * y = r * (y * y) - x * x := by grind
        omega) (show 0 ≤ q * q from Int.mul_nonneg (by omega) (by omega))
      have e1 : (q * -x) * (q * -x) = (q * q) * (x * x) := by grind
      have e2 : ((p - 99) * y) * ((p - 99) * y) = (p - 99) * (p - 99) * (y * y) := by grind
      have e3 : r * (q * q) * (y * y) = q * q * (r * (y * y)) := by grind
      omega
  · rw [ab_nn hx, ab_neg hy]
    have e : ((y.natAbs : Nat) : Int) = -y := by omega
    rw [e] at big
    rcases Int.lt_or_le 0 (x * x + r * y * -y) with z | z
    · exact z
    · exfalso
      have b2 : (p + 99) * -y < q * x := by
        have : (p + 99) * -y = -(p * y) - 99 * y := by grind
        omega
      have b0 : 0 ≤ (p + 99) * -y := Int.mul_nonneg (by omega) (by omega)
      have s := sq_less b0 b2
      have y2 : 0 ≤ y * y := Int.mul_nonneg_of_nonpos_of_nonpos (by omega) (by omega)
      have m1 := Int.mul_le_mul_of_nonneg_right (show r * (q * q) ≤ (p + 99) * (p + 99) by
        have : (p + 99) * (p + 99) = p * p + 198 * p + 9801 := by grind
        omega) y2
      have m2 := Int.mul_le_mul_of_nonneg_left (show x * x ≤ r * (y * y) by
        have : x * x + r * y * -y = x * x - r * (y * y) := by grind
        omega) (show 0 ≤ q * q from Int.mul_nonneg (by omega) (by omega))
      have e1 : (q * x) * (q * x) = (q * q) * (x * x) := by grind
      have e2 : ((p + 99) * -y) * ((p + 99) * -y) = (p + 99) * (p + 99) * (y * y) := by grind
      have e3 : r * (q * q) * (y * y) = q * q * (r * (y * y)) := by grind
      omega
  · rw [ab_nn hx, ab_nn hy]
    have t1 := Int.mul_nonneg hx hx
    have t2 := Int.mul_nonneg (show 0 ≤ r by omega) (Int.mul_nonneg hy hy)
    have e2 : r * y * y = r * (y * y) := by grind
    rcases Int.lt_or_le 0 (x * x + r * y * y) with z | z
    · exact z
    · exfalso
      have x0 : x = 0 := by
        rcases Int.lt_or_le 0 x with w | w
        · have := Int.mul_pos w w
          omega
        · omega
      have y0 : y = 0 := by
        rcases Int.lt_or_le 0 y with w | w
        · have := Int.mul_pos (show 0 < r by omega) (Int.mul_pos w w)
          omega
        · omega
      subst x0
      subst y0
      simp at big
theorem okat_big (r2 : 2 ≤ r) (r99 : r ≤ 99) (hw : isW r v) (h : 0 < vl a b r) (hb : b.natAbs < 2 ^ 101) : OkAt r v a b 220 := by
  have nn : ∀ i, (2 : Int) ^ 110 ≤ (cfF r v i).2 → 0 ≤ cN r v a b i := fun i g => by
    obtain ⟨n1, n2⟩ := norm_le r2 r99 hw i
    have q0 := q_one r2 r99 hw i
    have big : 99 * (b * b) < (cfF r v i).2 * (cfF r v i).2 := by
      have hb2 : b * b ≤ 2 ^ 101 * 2 ^ 101 := by
        have e : b * b = ((b.natAbs : Nat) : Int) * ((b.natAbs : Nat) : Int) := (Int.natAbs_mul_self (a := b)).symm
        rw [e]
        exact Int.mul_le_mul (by omega) (by omega) (by omega) (by decide)
      have g2 := Int.mul_le_mul g g (by decide) (by omega)
      have : (99 : Int) * (2 ^ 101 * 2 ^ 101) < 2 ^ 110 * 2 ^ 110 := by decide
      omega
    exact first_nn h r2 (p_nn r2 r99 hw i) (by omega) n1 n2 big
  obtain ⟨g0, g1⟩ := q_grow r2 r99 hw 110
  exact ⟨nn 220 g0, nn 221 g1⟩
/-- it grows -/
theorem cN_grow (r2 : 2 ≤ r) (r99 : r ≤ 99) (hw : isW r v) (h : 0 < vl a b r) (hb : b.natAbs < 2 ^ 101) : ∀ m : Nat, (2 : Int) ^ m ≤ cN r v a b (222 + 2 * m) ∧ (2 : Int) ^ m ≤ cN r v a b (223 + 2 * m)
  | 0 => by
    obtain ⟨g0, g1⟩ := okat_big r2 r99 hw h hb
    obtain ⟨_, _, _, _, k1, _⟩ := cf_num r2 r99 hw 222
    obtain ⟨_, _, _, _, k2, _⟩ := cf_num r2 r99 hw 223
    have e1 : cN r v a b 222 = (cfS r v 222).2.2 * cN r v a b 221 + cN r v a b 220 := cN_two r v a b 220
    have e2 : cN r v a b 223 = (cfS r v 223).2.2 * cN r v a b 222 + cN r v a b 221 := cN_two r v a b 221
    have g1 : 0 ≤ cN r v a b 221 := g1
    have m1 := Int.mul_le_mul_of_nonneg_right k1 g1
    have pos : 1 ≤ cN r v a b 220 + cN r v a b 221 := by
      rcases Int.lt_or_le (cN r v a b 220 + cN r v a b 221) 1 with z | z
      · exfalso
        have z0 : cN r v a b 220 = 0 := by omega
        have z1 : cN r v a b 221 = 0 := by omega
        have dt := cf_det2 r v 220
        rw [alt_is, if_pos (by decide)] at dt
        have q1 := q_one r2 r99 hw 220
        unfold cN at z0 z1
        have b0 : b = 0 := by grind
        subst b0
        have a0 : a = 0 := by
          rw [Int.zero_mul, Int.add_zero] at z0
          rcases Int.mul_eq_zero.mp z0 with y | y
          · exact y
          · omega
        subst a0
        revert h
        unfold vl ab
        simp
      · exact z
    have c2 : 1 ≤ cN r v a b 222 := by omega
    have m2 := Int.mul_le_mul_of_nonneg_right k2 (show 0 ≤ cN r v a b 222 by omega)
    exact ⟨by show (1 : Int) ≤ _; exact c2, by show (1 : Int) ≤ cN r v a b 223; omega⟩
  | m + 1 => by
    obtain ⟨h0, h1⟩ := cN_grow r2 r99 hw h hb m
    obtain ⟨_, _, _, _, k1, _⟩ := cf_num r2 r99 hw (222 + 2 * m + 2)
    obtain ⟨_, _, _, _, k2, _⟩ := cf_num r2 r99 hw (223 + 2 * m + 2)
    have e1 := cN_two r v a b (222 + 2 * m)
    have e2 := cN_two r v a b (223 + 2 * m)
    rw [show 222 + 2 * m + 1 = 223 + 2 * m by omega] at e1
    rw [show 223 + 2 * m + 1 = 222 + 2 * m + 2 by omega] at e2
    have p : (0 : Int) < 2 ^ m := Int.pow_pos (by decide)
    have m1 := Int.mul_le_mul_of_nonneg_right k1 (show 0 ≤ cN r v a b (223 + 2 * m) by omega)
    have ep : (2 : Int) ^ (m + 1) = 2 ^ m * 2 := Int.pow_succ 2 m
    have g2 : (2 : Int) ^ (m + 1) ≤ cN r v a b (222 + 2 * m + 2) := by omega
    have m2 := Int.mul_le_mul_of_nonneg_right k2 (show 0 ≤ cN r v a b (222 + 2 * m + 2) by omega)
    refine ⟨g2, ?_⟩
    rw [show 223 + 2 * (m + 1) = 223 + 2 * m + 2 by omega]
    omega
theorem lenB_pos {z : Int × Int} (h : 0 < vl z.1 z.2 r) : lenB r z = true := by
  unfold lenB
  rw [sgnI_pos h]
  rfl
theorem pos_lenB {z : Int × Int} (h : lenB r z = true) : 0 < vl z.1 z.2 r := by
  unfold lenB at h
  have h := of_decide_eq_true h
  rcases Int.lt_trichotomy (vl z.1 z.2 r) 0 with w | w | w
  · rw [sgnI_neg w] at h
    omega
  · rw [w, sgnI_zero] at h
    omega
  · exact w
/-- from some number on all parts are lengths -/
theorem part_late (r2 : 2 ≤ r) (r99 : r ≤ 99) (hw : isW r v) (h : 0 < vl (a + r * d) (b + c) r) (bb : b.natAbs < 2 ^ 100) (bc : c.natAbs < 2 ^ 100) (bd : d.natAbs < 2 ^ 100) {i : Nat} (g : (2 : Int) ^ 120 ≤ cN r v (a + r * d) (b + c) i) : lenB r (cT r v a b c d (i + 1)) = true := by
  obtain ⟨n1, n2⟩ := norm_le r2 r99 hw i
  have q1 := q_one r2 r99 hw i
  have p0 := p_nn r2 r99 hw i
  have pl := p_le r2 r99 hw i
  refine lenB_pos (part_pos r2 p0 q1 n1 n2 ?_)
  show 99 * ((b * (cfF r v i).2 + d * (cfF r v i).1).natAbs : Int) < (cfF r v i).2 * (a * (cfF r v i).2 + c * (cfF r v i).1) + (cfF r v i).1 * (b * (cfF r v i).2 + d * (cfF r v i).1)
  unfold cN at g
  generalize (cfF r v i).1 = p at *
  generalize (cfF r v i).2 = q at *
  have e : q * (a * q + c * p) + p * (b * q + d * p) = q * ((a + r * d) * q + (b + c) * p) + d * (p * p - r * (q * q)) := by grind
  rw [e]
  have t0 := Int.mul_le_mul_of_nonneg_left g (show 0 ≤ q by omega)
  have y1 : ((b * q + d * p).natAbs : Int) ≤ 2 ^ 100 * (21 * q) := by
    have s1 : ((b * q).natAbs : Int) ≤ 2 ^ 100 * q := by
      rw [Int.natAbs_mul, Int.natCast_mul, Int.natAbs_of_nonneg (show 0 ≤ q by omega)]
      exact Int.mul_le_mul_of_nonneg_right (by omega) (by omega)
    have s2 : ((d * p).natAbs : Int) ≤ 2 ^ 100 * (20 * q) := by
      rw [Int.natAbs_mul, Int.natCast_mul, Int.natAbs_of_nonneg p0]
      exact Int.mul_le_mul (by omega) pl p0 (by decide)
    have := Int.natAbs_add_le (b * q) (d * p)
    omega
  have d1 : -(2 ^ 100 * 99) ≤ d * (p * p - r * (q * q)) := by
    have s : ((d * (p * p - r * (q * q))).natAbs : Int) ≤ 2 ^ 100 * 99 := by
      rw [Int.natAbs_mul, Int.natCast_mul]
      exact Int.mul_le_mul (by omega) (by omega) (by omega) (by decide)
    omega
  have k : (2 : Int) ^ 120 * q = q * 2 ^ 120 := Int.mul_comm _ _
  omega
theorem two_is (r2 : 2 ≤ r) (r99 : r ≤ 99) (hw : isW r v) (h : 0 < vl (a + r * d) (b + c) r) (bb : b.natAbs < 2 ^ 100) (bc : c.natAbs < 2 ^ 100) (bd : d.natAbs < 2 ^ 100) : ∃ j, j ≤ 463 ∧ StopAt r v a b c d j := by
  have least : ∀ n, (lenB r (cT r v a b c d n) = true ∧ lenB r (cT r v a b c d (n + 1)) = true) → ∃ j, j ≤ n ∧ StopAt r v a b c d j := fun n => by
    induction n using Nat.strongRecOn with
    | _ n ih =>
      intro hn
      by_cases c1 : ∃ i, i < n ∧ (lenB r (cT r v a b c d i) = true ∧ lenB r (cT r v a b c d (i + 1)) = true)
      · obtain ⟨i, hi, ho⟩ := c1
        obtain ⟨j, hj, N⟩ := ih i hi ho
        exact ⟨j, by omega, N⟩
      · exact ⟨n, Nat.le_refl _, hn, fun i hi z => c1 ⟨i, hi, z⟩⟩
  obtain ⟨g0, g1⟩ := cN_grow r2 r99 hw h (show (b + c).natAbs < 2 ^ 101 by omega) 120
  exact least 463 ⟨part_late r2 r99 hw h bb bc bd g0, part_late r2 r99 hw h bb bc bd g1⟩
/-- what the two sheets give together -/
theorem two_table {j : Nat} (j1 : 1 ≤ j) : (shA r v a b c d j).1 * (shA r v a b c d j).2.2.1 + (shB2 r v a b c d j).1 * (shB2 r v a b c d j).2.2.1 = a ∧ (shA r v a b c d j).1 * (shA r v a b c d j).2.2.2 + (shB2 r v a b c d j).1 * (shB2 r v a b c d j).2.2.2 = b ∧
    (shA r v a b c d j).2.1 * (shA r v a b c d j).2.2.1 + (shB2 r v a b c d j).2.1 * (shB2 r v a b c d j).2.2.1 = c ∧ (shA r v a b c d j).2.1 * (shA r v a b c d j).2.2.2 + (shB2 r v a b c d j).2.1 * (shB2 r v a b c d j).2.2.2 = d := by
  obtain ⟨n, rfl⟩ : ∃ n, j = n + 1 := ⟨j - 1, by omega⟩
  have dt := cf_det2 r v n
  rw [alt_is] at dt
  unfold shA shB2 tP tQ
  dsimp only [cG, cT]
  rw [show ((n + 1 : Nat) : Int) - 1 = (n : Int) by omega]
  generalize (cfF r v (n + 1)).1 = p' at *
  generalize (cfF r v (n + 1)).2 = q' at *
  generalize (cfF r v n).1 = p at *
  generalize (cfF r v n).2 = q at *
  by_cases z : (n : Int) % 2 = 0
  · have z' : ¬ ((n + 1 : Nat) : Int) % 2 = 0 := by omega
    rw [if_pos z] at dt
    simp only [if_pos z, if_neg z']
    refine ⟨?_, ?_, ?_, ?_⟩ <;> grind
  · have z' : ((n + 1 : Nat) : Int) % 2 = 0 := by omega
    rw [if_neg z] at dt
    simp only [if_neg z, if_pos z']
    refine ⟨?_, ?_, ?_, ?_⟩ <;> grind
/-- their sides are lengths -/
theorem two_good (r2 : 2 ≤ r) (r99 : r ≤ 99) (hw : isW r v) (ba : a.natAbs < 2 ^ 100 ∧ b.natAbs < 2 ^ 100) (bc : c.natAbs < 2 ^ 100 ∧ d.natAbs < 2 ^ 100) {j : Nat} (hj : j ≤ 463) (h : StopAt r v a b c d j) : ShOk r (shA r v a b c d j) ∧ ShOk r (shB2 r v a b c d j) := by
  have j1 := stop_pos h
  obtain ⟨n, rfl⟩ : ∃ n, j = n + 1 := ⟨j - 1, by omega⟩
  have tb : ∀ i, i ≤ 464 → ∀ k : Int, (tP k (cfF r v i).1).natAbs < 2 ^ 3000 ∧ (tQ k (cfF r v i).2).natAbs < 2 ^ 3000 := fun i hi k => by
    obtain ⟨⟨p0, q0, _, _⟩, pb, qb, _, _⟩ := cf_bound r2 r99 hw (i + 1)
    have bp : (cfF r v i).1.natAbs < 2 ^ 3000 := small_pow p0 pb (by omega)
    have bq : (cfF r v i).2.natAbs < 2 ^ 3000 := small_pow q0 qb (by omega)
    unfold tP tQ
    constructor <;> split <;> first | assumption | (rw [Int.natAbs_neg]; assumption)
  have cb : ∀ i, i ≤ 465 → (cT r v a b c d i).1.natAbs < 2 ^ 3000 ∧ (cT r v a b c d i).2.natAbs < 2 ^ 3000 := fun i hi => by
    cases i with
    | zero => exact ⟨by show (0 : Nat) < _; exact Nat.two_pow_pos _, by show (0 : Nat) < _; exact Nat.two_pow_pos _⟩
    | succ i =>
      obtain ⟨⟨p0, q0, _, _⟩, pb, qb, _, _⟩ := cf_bound r2 r99 hw (i + 1)
      have bp : (cfF r v i).1.natAbs < 2 ^ 2800 := small_pow p0 pb (by omega)
      have bq : (cfF r v i).2.natAbs < 2 ^ 2800 := small_pow q0 qb (by omega)
      have one : ∀ {x y : Int}, x.natAbs < 2 ^ 100 → y.natAbs < 2 ^ 100 → (x * (cfF r v i).2 + y * (cfF r v i).1).natAbs < 2 ^ 3000 := fun {x y} hx hy => by
        have h1 := wide_lt hx bq
        have h2 := wide_lt hy bp
        have h3 : (2 : Nat) ^ (100 + 2800) + 2 ^ (100 + 2800) ≤ 2 ^ 3000 := by
          rw [← Nat.two_mul, ← Nat.pow_succ']
          exact Nat.pow_le_pow_right (by decide) (by decide)
        have := Int.natAbs_add_le (x * (cfF r v i).2) (y * (cfF r v i).1)
        generalize (x * (cfF r v i).2).natAbs = A at *
        generalize (y * (cfF r v i).1).natAbs = B at *
        generalize (2 : Nat) ^ (100 + 2800) = C at *
        generalize (2 : Nat) ^ 3000 = E at *
        omega
      exact ⟨one ba.1 bc.1, one ba.2 bc.2⟩
  have e1 : ((n + 1 : Nat) : Int) - 1 = (n : Int) := by omega
  obtain ⟨t1, t2⟩ := tb n (by omega) (n : Int)
  obtain ⟨t3, t4⟩ := tb (n + 1) (by omega) ((n + 1 : Nat) : Int)
  obtain ⟨c1, c2⟩ := cb (n + 1) (by omega)
  obtain ⟨c3, c4⟩ := cb (n + 2) (by omega)
  unfold shA shB2 ShOk LenOk
  dsimp only [cG]
  rw [e1]
  exact ⟨⟨⟨tile_pos r2 r99 hw n, t1, t2⟩, pos_lenB h.1.2, c3, c4⟩, ⟨tile_pos r2 r99 hw (n + 1), t3, t4⟩, pos_lenB h.1.1, c1, c2⟩
end
/-! ### heaps by their sums -/
def ind (x y : Sh) : Int := if y = x then 1 else 0
def cnt (es : DEs) (x : Sh) : Int := (valD es x).getD 0
theorem ltS_irr (x : Sh) : ¬ ltS x x := by
  unfold ltS
  omega
theorem ltS_tr {x y z : Sh} (h1 : ltS x y) (h2 : ltS y z) : ltS x z := ltS_go h1 h2
theorem ltS_asym {x y : Sh} (h1 : ltS x y) (h2 : ltS y x) : False := ltS_irr x (ltS_tr h1 h2)
/-- ascending, with numbers from 1 -/
structure Asc (es : DEs) : Prop where
  up : es.Pairwise fun a b => ltS a.1 b.1
  pos : ∀ e ∈ es, 1 ≤ e.2.2
theorem Asc.nd {es : DEs} (h : Asc es) : (keysD es).Nodup := by
  refine List.pairwise_map.mpr (h.up.imp ?_)
  intro a b l z
  rw [z] at l
  exact ltS_irr _ l
theorem Asc.tail {e : Sh × Addr × Int} {es : DEs} (h : Asc (e :: es)) : Asc es := ⟨(List.pairwise_cons.mp h.up).2, fun f hf => h.pos f (List.mem_cons_of_mem _ hf)⟩
theorem asc_nil : Asc [] := ⟨.nil, fun e he => by cases he⟩
theorem asc_made {S : Sh → Prop} {M : Int} {es : DEs} (hM : 0 ≤ M) (h : Within S M es) : Asc (sortE (mergeD es)) := by
  refine ⟨sortE_up (merge_nodup es), fun e he => ?_⟩
  exact ((merge_within hM h) e ((sortE_perm (merge_nodup es)).mem_iff.mp he)).2.1
theorem made_wsum (φ : Sh → Int) (es : DEs) : wsum φ (sortE (mergeD es)) = wsum φ es := by
  rw [wsum_perm (sortE_perm (merge_nodup es)), merge_wsum]
theorem wsum_ind0 {x : Sh} : ∀ {es : DEs}, x ∉ keysD es → wsum (ind x) es = 0
  | [], _ => rfl
  | e :: es, h => by
    have h1 : e.1 ≠ x := fun z => h (z ▸ List.mem_cons_self)
    rw [wsum_cons, wsum_ind0 fun z => h (List.mem_cons_of_mem _ z)]
    unfold ind
    rw [if_neg h1]
    omega
theorem cnt_wsum {x : Sh} : ∀ {es : DEs}, (keysD es).Nodup → wsum (ind x) es = cnt es x
  | [], _ => rfl
  | e :: es, h => by
    obtain ⟨h1, h2⟩ := List.nodup_cons.mp h
    rw [wsum_cons]
    unfold cnt
    rw [valD_cons]
    by_cases z : e.1 = x
    · subst z
      rw [if_pos rfl, wsum_ind0 h1]
      unfold ind
      rw [if_pos rfl]
      show e.2.2 * 1 + 0 = e.2.2
      omega
    · rw [if_neg z, cnt_wsum h2]
      unfold ind
      rw [if_neg z]
      show e.2.2 * 0 + cnt es x = cnt es x
      omega
/-- the first keys of two ascending lists with the same numbers -/
theorem asc_same : ∀ {es fs : DEs}, Asc es → Asc fs → (∀ x, cnt es x = cnt fs x) → (es.map fun e => (e.1, e.2.2)) = fs.map fun e => (e.1, e.2.2)
  | [], [], _, _, _ => rfl
  | [], f :: fs, _, hf, h => by
    have z := h f.1
    have p := hf.pos f List.mem_cons_self
    unfold cnt at z
    rw [valD_cons, if_pos rfl] at z
    have z : (0 : Int) = f.2.2 := z
    omega
  | e :: es, [], he, _, h => by
    have z := h e.1
    have p := he.pos e List.mem_cons_self
    unfold cnt at z
    rw [valD_cons, if_pos rfl] at z
    have z : e.2.2 = (0 : Int) := z
    omega
  | e :: es, f :: fs, he, hf, h => by
    have low : ∀ {a : Sh × Addr × Int} {as : DEs} {x : Sh}, Asc (a :: as) → ltS x a.1 → cnt (a :: as) x = 0 := by
      intro a as x ha l
      unfold cnt
      have : valD (a :: as) x = none := valD_none.mpr fun z => by
        rcases List.mem_cons.mp z with q | q
        · exact ltS_irr x (q ▸ l)
        · obtain ⟨b, hb, q⟩ := List.mem_map.mp q
          have l2 := ltS_tr l ((List.pairwise_cons.mp ha.up).1 b hb)
          rw [q] at l2
          exact ltS_irr x l2
      rw [this]
      rfl
    have at_ : ∀ {a : Sh × Addr × Int} {as : DEs}, cnt (a :: as) a.1 = a.2.2 := by
      intro a as
      unfold cnt
      rw [valD_cons, if_pos rfl]
      rfl
    have pe := he.pos e List.mem_cons_self
    have pf := hf.pos f List.mem_cons_self
    have k : e.1 = f.1 := by
      by_cases z : e.1 = f.1
      · exact z
      · exfalso
        by_cases l : ltS e.1 f.1
        · have := h e.1
          rw [at_, low hf l] at this
          omega
        · have l2 : ltS f.1 e.1 := by
            refine ltS_of ?_ fun q => z q.symm
            unfold leS
            rw [decide_eq_false l]
            rfl
          have := h f.1
          rw [at_, low he l2] at this
          omega
    have v : e.2.2 = f.2.2 := by
      have := h e.1
      rw [at_, k, at_] at this
      exact this
    rw [List.map_cons, List.map_cons, k, v, asc_same he.tail hf.tail fun x => ?_]
    have z := h x
    unfold cnt at z ⊢
    rw [valD_cons, valD_cons] at z
    by_cases q : e.1 = x
    · have ne : valD es x = none := valD_none.mpr (q ▸ (List.nodup_cons.mp he.nd).1)
      have nf : valD fs x = none := valD_none.mpr (q ▸ k ▸ (List.nodup_cons.mp hf.nd).1)
      rw [ne, nf]
    · rwa [if_neg q, if_neg fun w => q (k.trans w)] at z
theorem asc_eq {es fs : DEs} (he : Asc es) (hf : Asc fs) (h : ∀ φ, wsum φ es = wsum φ fs) : (es.map fun e => (e.1, e.2.2)) = fs.map fun e => (e.1, e.2.2) := asc_same he hf fun x => by
  rw [← cnt_wsum he.nd, ← cnt_wsum hf.nd, h]
theorem nd_le : ∀ {as bs : List Sh}, as.Nodup → (∀ a ∈ as, a ∈ bs) → as.length ≤ bs.length
  | [], _, _, _ => Nat.zero_le _
  | a :: as, bs, n, h => by
    obtain ⟨n1, n2⟩ := List.nodup_cons.mp n
    obtain ⟨l, r, rfl⟩ := List.append_of_mem (h a List.mem_cons_self)
    have := nd_le (as := as) (bs := l ++ r) n2 fun b hb => by
      rcases List.mem_append.mp (h b (List.mem_cons_of_mem _ hb)) with z | z
      · exact List.mem_append_left _ z
      · rcases List.mem_cons.mp z with q | q
        · exact absurd hb (q ▸ n1)
        · exact List.mem_append_right _ q
    rw [List.length_append] at this
    rw [List.length_append, List.length_cons, List.length_cons]
    omega
theorem nd_back {as bs : List Sh} (n : as.Nodup) (h : ∀ a ∈ as, a ∈ bs) (l : bs.length = as.length) {x : Sh} (hx : x ∈ bs) : x ∈ as := by
  by_cases z : x ∈ as
  · exact z
  · exfalso
    have := nd_le (as := x :: as) (bs := bs) (List.nodup_cons.mpr ⟨z, n⟩) fun a ha => by
      rcases List.mem_cons.mp ha with q | q
      · exact q ▸ hx
      · exact h a q
    rw [List.length_cons] at this
    omega
theorem eqD_iff {es fs : DEs} (he : Asc es) (hf : Asc fs) : eqD es fs = decide ((es.map fun e => (e.1, e.2.2)) = fs.map fun e => (e.1, e.2.2)) := by
  by_cases h : (es.map fun e => (e.1, e.2.2)) = fs.map fun e => (e.1, e.2.2)
  · rw [decide_eq_true h]
    unfold eqD
    have l := congrArg List.length h
    rw [List.length_map, List.length_map] at l
    rw [decide_eq_true l, Bool.true_and, List.all_eq_true]
    intro e hm
    have : (e.1, e.2.2) ∈ fs.map fun e => (e.1, e.2.2) := h ▸ List.mem_map.mpr ⟨e, hm, rfl⟩
    obtain ⟨f, hf', q⟩ := List.mem_map.mp this
    obtain ⟨q1, q2⟩ := Prod.mk.inj q
    unfold eqE
    rw [← q1, ← q2]
    exact decide_eq_true (valD_mem hf.nd hf')
  · rw [decide_eq_false h]
    cases z : eqD es fs with
    | false => rfl
    | true =>
      exfalso
      unfold eqD at z
      rw [Bool.and_eq_true, List.all_eq_true] at z
      obtain ⟨z1, z2⟩ := z
      have z1 := of_decide_eq_true z1
      have sub : ∀ e ∈ es, ∃ f ∈ fs, f.1 = e.1 ∧ f.2.2 = e.2.2 := fun e hm => valD_some (of_decide_eq_true (z2 e hm))
      have ksub : ∀ x ∈ keysD es, x ∈ keysD fs := fun x hx => by
        obtain ⟨e, hm, rfl⟩ := List.mem_map.mp hx
        obtain ⟨f, hf', q, _⟩ := sub e hm
        exact q ▸ List.mem_map.mpr ⟨f, hf', rfl⟩
      have klen : (keysD fs).length = (keysD es).length := by
        unfold keysD
        rw [List.length_map, List.length_map]
        exact z1.symm
      refine h (asc_same he hf fun x => ?_)
      unfold cnt
      cases q : valD es x with
      | none =>
        rw [valD_none.mpr fun w => valD_none.mp q (nd_back he.nd ksub klen w)]
      | some n =>
        obtain ⟨e, hm, rfl, rfl⟩ := valD_some q
        rw [of_decide_eq_true (z2 e hm)]
/-! ### lengths and sheets that are drawn -/
theorem isRB_of {d : Int} (h : IsRoot d) : isRB d = true := by
  obtain ⟨h1, h2, k, k0, k1, k2⟩ := h
  rw [← isR_of h1 h2 k0 (Int.le_of_lt k1) k2, decide_eq_false fun z => by have := V.int.inj z; omega]
  rfl
theorem IsRoot.small {d : Int} (h : IsRoot d) : d.natAbs < 2 ^ 64 := isRB_small (isRB_of h)
def LenB (d a b : Int) : Prop := 0 < vl a b d ∧ a.natAbs ≤ 10 ^ 6 ∧ b.natAbs ≤ 10 ^ 6
def ShB (d : Int) (x : Sh) : Prop := LenB d x.1 x.2.1 ∧ LenB d x.2.2.1 x.2.2.2
theorem m6 {x : Int} (h : x.natAbs ≤ 10 ^ 6) : x.natAbs < 2 ^ 3000 := Nat.lt_of_le_of_lt h (by decide)
theorem m6w {x : Int} (h : x.natAbs ≤ 10 ^ 6) : x.natAbs < 2 ^ 9000 := w100 (m6 h)
theorem LenB.ok {d a b : Int} (h : LenB d a b) : LenOk d a b := ⟨h.1, m6 h.2.1, m6 h.2.2⟩
theorem ShB.ok {d : Int} {x : Sh} (h : ShB d x) : ShOk d x := ⟨h.1.ok, h.2.ok⟩
theorem ab_opp (a : Int) : ab (-a) = ab a := by
  unfold ab
  split <;> split <;> omega
theorem vl_opp (a b d : Int) : vl (-a) (-b) d = -vl a b d := by
  unfold vl
  rw [ab_opp, ab_opp]
  grind
theorem vl_one (n d : Int) (h : 0 < n) : 0 < vl n 0 d := by
  unfold vl
  rw [ab_nn (Int.le_of_lt h)]
  have := Int.mul_pos h h
  grind
theorem keep_free {b p : Addr} {H H' : Hp} (k : Keep b H H') (n : p ≠ b) (h : H' p = none) : H p = none := by
  cases e : H p with
  | none => rfl
  | some o => exact absurd (k p o n e) (by rw [h]; simp)
section
variable {base : Heap} {K : PySem.W.Frag} {mg : Str → Option Value} {P : Program} {w : World}
/-- a length, drawn -/
def GotLen (b sb : Addr) (d : Int) (H : Hp) (Q : VK) : Prop := ∀ x y p H', LenB d x y → p ≠ b → H' p = some (.tup [.int x, .int y]) → Bag H' b sb → Keep b H H' → Q (.ref p) H'
def spALen : Sp := fun vs H Q _ => ∃ (b sb : Addr) (d : Int), vs = [.ref b, .int d] ∧ Bag H b sb ∧ IsRoot d ∧ GotLen b sb d H Q
/-- the rest of a draw of a length, when the pair stands: the pair, its opposite, or a whole number -/
theorem sgn_cases (a b d : Int) : (sgnI (vl a b d) = 0 ∧ vl a b d = 0) ∨ (sgnI (vl a b d) = 1 ∧ 0 < vl a b d) ∨ (sgnI (vl a b d) = -1 ∧ 0 < vl (-a) (-b) d) := by
  rcases Int.lt_trichotomy (vl a b d) 0 with h | h | h
  · exact .inr (.inr ⟨sgnI_neg h, by rw [vl_opp]; omega⟩)
  · exact .inl ⟨by rw [h]; rfl, h⟩
  · exact .inr (.inl ⟨sgnI_pos h, h⟩)
theorem ok_a_length (T : Txt K mg) : FnOk P w K mg base CX0 4 T.f_a_length T.d_a_length ["_law_bag", "_law_root_z"] spALen := by
  refine T.F_a_length.ok sc_a_length (fun vs H Q E h => ?_) (fun cdv A outer s H vs Q E hr h => ?_)
  · obtain ⟨b, sb, d, rfl, _⟩ := h
    rfl
  · obtain ⟨b, sb, d, rfl, B, hd, q⟩ := h
    refine ⟨_, (pss_cons (ps_set (i := 2) sc_a_length.nd rfl (Or.inl rfl) (pe_call (ok_any_pair T) (hr.mono (by decide)) (by rfl) T.g_any_pair T.F_any_pair.kp T.b_any_pair .nil pass0 (pa_cons (pv 0) pa_nil)))
      (pss_cons (ps_if (pt_cmpR op_eq (pe_call (ok_lsign T) (hr.mono (by decide)) (by rfl) T.g_lsign T.F_lsign.kp T.b_lsign .nil pass0 (pa_cons (pv 2) (pa_cons (pv 1) pa_nil))) pe_int (nomark _)) (pss_one (ps_ret (pe_tup (pa_cons (pe_op op_add pe_int (pe_call (ok_pull T) (hr.mono (by decide)) (by rfl) T.g_pull T.F_pull.kp T.b_pull .nil pass0 (pa_cons (pv 0) (pa_cons pe_int pa_nil)))) (pa_cons pe_int pa_nil))))) pss_nil)
      (pss_one (ps_ret (pe_ifExp (pt_cmpR op_gt (pe_call (ok_lsign T) (hr.mono (by decide)) (by rfl) T.g_lsign T.F_lsign.kp T.b_lsign .nil pass0 (pa_cons (pv 2) (pa_cons (pv 1) pa_nil))) pe_int (nomark _)) (pv 2) (pe_tup (pa_cons (pe_op op_sub pe_int (pe_ix ix_tup (pv 2) pe_int (fun _ _ => rfl))) (pa_cons (pe_op op_sub pe_int (pe_ix ix_tup (pv 2) pe_int (fun _ _ => rfl))) pa_nil)))))))), ?_⟩
    refine ⟨.ref b, rfl, b, sb, rfl, B, fun x y p H1 a1 a2 a3 a4 n1 h1 B1 k1 => ?_⟩
    have bx : x.natAbs ≤ 10 ^ 6 := by omega
    have bY : y.natAbs ≤ 10 ^ 6 := by omega
    have np := B.ne n1
    refine ⟨.ref p, rfl, .int d, rfl, p, d, x, y, rfl, SqT.of h1, hd.small, m6w bx, m6w bY, ?_⟩
    rcases sgn_cases x y d with ⟨e, z⟩ | ⟨e, z⟩ | ⟨e, z⟩ <;> rw [e]
    · refine ⟨rfl, true, rfl, iteT ⟨.ref b, rfl, b, sb, 9, rfl, B1, by decide, by decide, fun n H2 z0 z1 B2 k2 => ⟨1, n, rfl, rfl, by show 2 ≤ sizeLine; decide, fun p2 hp2 => ?_⟩⟩⟩
      exact q _ _ p2 _ ⟨vl_one (1 + n) d (by omega), by omega, by decide⟩ (B2.ne hp2) upd_same (B2.new hp2) (k1.trans (k2.trans (keep_new hp2)))
    · refine ⟨rfl, false, rfl, iteF ⟨.ref p, rfl, .int d, rfl, p, d, x, y, rfl, SqT.of h1, hd.small, m6w bx, m6w bY, ?_⟩⟩
      rw [e]
      exact ⟨1, 0, rfl, rfl, true, rfl, iteT ⟨_, rfl, q x y p H1 ⟨z, bx, bY⟩ np h1 B1 k1⟩⟩
    · refine ⟨rfl, false, rfl, iteF ⟨.ref p, rfl, .int d, rfl, p, d, x, y, rfl, SqT.of h1, hd.small, m6w bx, m6w bY, ?_⟩⟩
      rw [e]
      refine ⟨-1, 0, rfl, rfl, false, rfl, iteF ⟨_, rfl, p, _, 0, .int x, rfl, rfl, SqT.of h1, atI_nat (j := 0) rfl, 0, x, rfl, rfl, _, rfl, p, _, 1, .int y, rfl, rfl, SqT.of h1, atI_nat (j := 1) rfl, 0, y, rfl, rfl, by show 2 ≤ sizeLine; decide, fun p2 hp2 => ?_⟩⟩
      refine q (0 - x) (0 - y) p2 _ ⟨?_, by omega, by omega⟩ (B1.ne hp2) upd_same (B1.new hp2) (k1.trans (keep_new hp2))
      rw [Int.zero_sub, Int.zero_sub]
      exact z
def GotSheet (b sb : Addr) (d : Int) (H : Hp) (Q : VK) : Prop := ∀ x p H', ShB d x → ShAt H' p x → Bag H' b sb → Keep b H H' → Q (.ref p) H'
def spASheet : Sp := fun vs H Q _ => ∃ (b sb : Addr) (d : Int), vs = [.ref b, .int d] ∧ Bag H b sb ∧ IsRoot d ∧ GotSheet b sb d H Q
theorem ok_a_sheet (T : Txt K mg) : FnOk P w K mg base CX0 5 T.f_a_sheet T.d_a_sheet ["_law_bag", "_law_root_z"] spASheet := by
  refine T.F_a_sheet.ok sc_a_sheet (fun vs H Q E h => ?_) (fun cdv A outer s H vs Q E hr h => ?_)
  · obtain ⟨b, sb, d, rfl, _⟩ := h
    rfl
  · obtain ⟨b, sb, d, rfl, B, hd, q⟩ := h
    refine ⟨_, (pss_cons (ps_set (i := 2) sc_a_sheet.nd rfl (Or.inl rfl) (pe_call (ok_a_length T) (hr.mono (by decide)) (by rfl) T.g_a_length T.F_a_length.kp T.b_a_length .nil pass0 (pa_cons (pv 0) (pa_cons (pv 1) pa_nil))))
      (pss_one (ps_ret (pe_tup (pa_cons (pv 2) (pa_cons (pe_call (ok_of T) (hr.mono (by decide)) (by rfl) T.g_of T.F_of.kp T.b_of .nil pass0 (pa_cons (pv 0) (pa_cons (pe_lst (pa_cons (pe_call (ok_a_length T) (hr.mono (by decide)) (by rfl) T.g_a_length T.F_a_length.kp T.b_a_length .nil pass0 (pa_cons (pv 0) (pa_cons (pv 1) pa_nil))) (pa_cons (pe_call (ok_a_length T) (hr.mono (by decide)) (by rfl) T.g_a_length T.F_a_length.kp T.b_a_length .nil pass0 (pa_cons (pv 0) (pa_cons (pv 1) pa_nil))) (pa_cons (pe_call (ok_a_length T) (hr.mono (by decide)) (by rfl) T.g_a_length T.F_a_length.kp T.b_a_length .nil pass0 (pa_cons (pv 0) (pa_cons (pv 1) pa_nil))) (pa_cons (pv 2) pa_nil))))) pa_nil))) pa_nil)))))), ?_⟩
    refine ⟨.ref b, rfl, .int d, rfl, b, sb, d, rfl, B, hd, fun x y p H1 l1 n1 h1 B1 k1 => ?_⟩
    refine ⟨.ref p, rfl, .ref b, rfl, .ref b, rfl, .int d, rfl, b, sb, d, rfl, B1, hd, fun x2 y2 p2 H2 l2 n2 h2 B2 k2 => ?_⟩
    refine ⟨.ref b, rfl, .int d, rfl, b, sb, d, rfl, B2, hd, fun x3 y3 p3 H3 l3 n3 h3 B3 k3 => ?_⟩
    refine ⟨.ref b, rfl, .int d, rfl, b, sb, d, rfl, B3, hd, fun x4 y4 p4 H4 l4 n4 h4 B4 k4 => ?_⟩
    refine ⟨.ref p, rfl, by show 4 ≤ sizeLine; decide, fun l hl => ?_⟩
    refine ⟨b, sb, l, _, rfl, B4.new hl, upd_same, B4.ne hl, by simp, by simp, fun i v H5 hv B5 k5 => ⟨by show 2 ≤ sizeLine; decide, fun t ht => ?_⟩⟩
    have k45 : Keep b H4 H5 := (keep_new hl).trans k5
    have kk := k1.trans (k2.trans (k3.trans (k4.trans k45)))
    have e := same_new (o := .tup [.ref p, v]) ht
    have g1 := e _ _ ((k2.trans (k3.trans (k4.trans k45))) _ _ n1 h1)
    have fin : ∀ (x' y' : Int) (p' : Addr), v = .ref p' → LenB d x' y' → H5 p' = some (.tup [.int x', .int y']) → Q (.ref t) (upd H5 t (.tup [.ref p, v])) := by
      rintro x' y' p' rfl l' h'
      exact q (x, y, x', y') t _ ⟨l1, l'⟩ ⟨p, p', upd_same, g1, e _ _ h'⟩ (B5.same e) (kk.trans (keep_of e))
    match i, hv with
    | 0, hv => cases hv; exact fin x2 y2 p2 rfl l2 ((k3.trans (k4.trans k45)) _ _ n2 h2)
    | 1, hv => cases hv; exact fin x3 y3 p3 rfl l3 ((k4.trans k45) _ _ n3 h3)
    | 2, hv => cases hv; exact fin x4 y4 p4 rfl l4 (k45 _ _ n4 h4)
    | 3, hv => cases hv; exact fin x y p rfl l1 ((k2.trans (k3.trans (k4.trans k45))) _ _ n1 h1)
    | n + 4, hv => simp at hv
def spCount : Sp := fun vs H Q _ => ∃ b sb : Addr, vs = [.ref b] ∧ Bag H b sb ∧ ∀ n H', 1 ≤ n → n ≤ 10 ^ 6 → Bag H' b sb → Keep b H H' → Q (.int n) H'
theorem ok_some_count (T : Txt K mg) : FnOk P w K mg base CX0 3 T.f_some_count T.d_some_count ["_law_bag"] spCount := by
  refine T.F_some_count.ok sc_some_count (fun vs H Q E h => ?_) (fun cdv A outer s H vs Q E hr h => ?_)
  · obtain ⟨b, sb, rfl, _⟩ := h
    rfl
  · obtain ⟨b, sb, rfl, B, q⟩ := h
    refine ⟨_, (pss_one (ps_ret (pe_call (ok_of T) (hr.mono (by decide)) (by rfl) T.g_of T.F_of.kp T.b_of .nil pass0 (pa_cons (pv 0) (pa_cons (pe_lst (pa_cons pe_int (pa_cons pe_int (pa_cons pe_int (pa_cons pe_int (pa_cons pe_int (pa_cons pe_int (pa_cons pe_int (pa_cons (pe_op op_add pe_int (pe_call (ok_pull T) (hr.mono (by decide)) (by rfl) T.g_pull T.F_pull.kp T.b_pull .nil pass0 (pa_cons (pv 0) (pa_cons (pe_op op_pow pe_int pe_int) pa_nil)))) pa_nil))))))))) pa_nil))))), ?_⟩
    refine ⟨.ref b, rfl, .ref b, rfl, 10, 6, rfl, rfl, ⟨by decide, by decide, by decide⟩, b, sb, _, rfl, B, (by decide), (by decide), fun z H1 z0 z1 B1 k1 => ⟨1, z, rfl, rfl, by show 8 ≤ sizeLine; decide, fun l hl => ?_⟩⟩
    have z2 : z < 1000000 := z1
    refine ⟨b, sb, l, _, rfl, B1.new hl, upd_same, B1.ne hl, by simp, by simp, fun i v H2 hv B2 k2 => ?_⟩
    have kk := k1.trans ((keep_new hl).trans k2)
    match i, hv with
    | 0, hv => cases hv; exact q 1 H2 (by decide) (by decide) B2 kk
    | 1, hv => cases hv; exact q 1 H2 (by decide) (by decide) B2 kk
    | 2, hv => cases hv; exact q 1 H2 (by decide) (by decide) B2 kk
    | 3, hv => cases hv; exact q 2 H2 (by decide) (by decide) B2 kk
    | 4, hv => cases hv; exact q 3 H2 (by decide) (by decide) B2 kk
    | 5, hv => cases hv; exact q 6 H2 (by decide) (by decide) B2 kk
    | 6, hv => cases hv; exact q 12 H2 (by decide) (by decide) B2 kk
    | 7, hv => cases hv; exact q (1 + z) H2 (by omega) (by omega) B2 kk
    | n + 8, hv => simp at hv
end
/-! ### rows and stocks that are drawn -/
/-- the rows es, in a list that the program has made -/
def RowsL (H : Hp) (l : Addr) (es : DEs) : Prop := ∃ as : List Addr, H l = some (.lst (as.map V.ref)) ∧ RowsAt H as es ∧ ∀ e ∈ es, ShAt H e.2.1 e.1
theorem RowsL.mono {H H' : Hp} {l : Addr} {es : DEs} (h : RowsL H l es) (kl : ∀ xs, H l = some (.lst xs) → H' l = some (.lst xs)) (k : ∀ p xs, H p = some (.tup xs) → H' p = some (.tup xs)) : RowsL H' l es := by
  obtain ⟨as, h1, h2, h3⟩ := h
  exact ⟨as, kl _ h1, h2.mono k, fun e he => (h3 e he).mono k⟩
theorem RowsL.same {H H' : Hp} {l : Addr} {es : DEs} (h : RowsL H l es) (s : Same H H') : RowsL H' l es := h.mono (fun _ z => s _ _ z) fun _ _ z => s _ _ z
theorem RowsL.keep {H H' : Hp} {l b sb : Addr} {es : DEs} (h : RowsL H l es) (B : Bag H b sb) (n : l ≠ b) (k : Keep b H H') : RowsL H' l es := h.mono (fun _ z => k _ _ n z) (tup_keep B k)
theorem RowsL.snoc {H : Hp} {l t p : Addr} {es : DEs} {x : Sh} {n : Int} (h : RowsL H l es) (ht : H t = some (.tup [.ref p, .int n])) (hp : ShAt H p x) : ∃ xs, H l = some (.lst xs) ∧ xs.length = es.length ∧ RowsL (upd H l (.lst (xs ++ [.ref t]))) l (es ++ [(x, p, n)]) := by
  obtain ⟨as, h1, h2, h3⟩ := h
  refine ⟨_, h1, by rw [List.length_map]; exact h2.len, as ++ [t], by rw [upd_same, List.map_append]; rfl, ?_, fun e he => ?_⟩
  · have r2 : RowsAt (upd H l (.lst (as.map V.ref ++ [.ref t]))) as es := h2.mono (tup_put h1)
    unfold RowsAt at r2 ⊢
    exact Paired.snoc (a := t) (b := (x, p, n)) (tup_put h1 _ _ ht) r2
  · rcases List.mem_append.mp he with he | he
    · exact (h3 e he).mono (tup_put h1)
    · rw [List.mem_singleton.mp he]
      exact hp.mono (tup_put h1)
theorem RowsL.handed {K : PySem.W.Frag} {H : Hp} {l : Addr} {es : DEs} (h : RowsL H l es) : Handed K H (.ref l) es := by
  obtain ⟨as, h1, h2, h3⟩ := h
  exact .list (SqL.of h1) h2 h3
def rowD (e : Sh × Addr × Int) : PyData := .tuple [encS e.1, .int e.2.2]
theorem sh_dp {K : PySem.W.Frag} {H : Hp} {p : Addr} {x : Sh} (h : ShAt H p x) : Dp K H (.ref p) (encS x) := by
  obtain ⟨u, v, h1, h2, h3⟩ := h
  exact .tup (SqT.of h1) (.cons (dpair h2) (.cons (dpair h3) .nil))
theorem RowsL.dp {K : PySem.W.Frag} {H : Hp} {l : Addr} {es : DEs} (h : RowsL H l es) : Dp K H (.ref l) (.list (es.map rowD)) := by
  obtain ⟨as, h1, h2, h3⟩ := h
  refine .lst (SqL.of h1) ?_
  clear h1
  revert h3
  induction h2 with
  | nil => exact fun _ => .nil
  | @cons a e as es r t ih =>
    intro h3
    exact .cons (.tup (SqT.of r) (.cons (sh_dp (h3 e List.mem_cons_self)) (.cons (.int _) .nil))) (ih fun f hf => h3 f (List.mem_cons_of_mem _ hf))
theorem rowD_can (e : Sh × Addr × Int) : (rowD e).canLay0 = true ∧ (rowD e).depth = 3 := by
  unfold rowD encS
  constructor
  · simp [PyData.canLay0, PyData.canLayAll0]
  · simp [PyData.depth, PyData.depthAll]
theorem rows_shaped (es : DEs) : SeqAt.shaped (.list (es.map rowD)) = true := by
  have h : ∀ es : DEs, PyData.canLayAll0 (es.map rowD) = true ∧ PyData.depthAll (es.map rowD) ≤ 3 := by
    intro es
    induction es with
    | nil => exact ⟨by simp [PyData.canLayAll0], by simp [PyData.depthAll]⟩
    | cons e es ih =>
      obtain ⟨r1, r2⟩ := rowD_can e
      constructor
      · simp [PyData.canLayAll0, r1, ih.1]
      · simp [PyData.depthAll, r2, ih.2]
  obtain ⟨h1, h2⟩ := h es
  unfold SeqAt.shaped
  rw [Bool.and_eq_true]
  refine ⟨by simp [PyData.canLay0, h1], decide_eq_true ?_⟩
  simp only [PyData.depth]
  omega
theorem rows_nil (es : DEs) : PyData.eqv (.list (es.map rowD)) (.list []) = es.isEmpty := by
  cases es with
  | nil => simp [PyData.eqv, PyData.eqvAll]
  | cons e es => simp [PyData.eqv, PyData.eqvAll]
theorem RowsL.more {H : Hp} {l : Addr} {es fs : DEs} {bs : List Addr} {L : Addr} (R : RowsL H l es) (hb : RowsAt H bs fs) (hk : ∀ e ∈ fs, ShAt H e.2.1 e.1) (hL : H L = some (.lst (bs.map V.ref))) :
    ∃ xs, H l = some (.lst xs) ∧ xs.length = es.length ∧ ∀ q, H q = none → RowsL (upd H q (.lst (xs ++ bs.map V.ref))) q (es ++ fs) := by
  obtain ⟨as, h1, h2, h3⟩ := R
  refine ⟨_, h1, by rw [List.length_map]; exact h2.len, fun q hq => ⟨as ++ bs, by rw [upd_same, List.map_append], ?_, fun e he => ?_⟩⟩
  · have app : ∀ {as : List Addr} {es : DEs}, RowsAt H as es → RowsAt H (as ++ bs) (es ++ fs) := by
      intro as es h
      induction h with
      | nil => exact hb
      | cons r _ ih => exact Paired.cons r ih
    exact (app h2).mono fun a xs z => (same_new hq) _ _ z
  · refine ShAt.same (same_new hq) ?_
    rcases List.mem_append.mp he with he | he
    · exact h3 e he
    · exact hk e he
theorem RowsL.step {H G : Hp} {D t p : Addr} {fs : DEs} {i : Nat} {x : Sh} {n : Int} (hD : H D = none) (s : Same H G) (R : RowsL G D (fs.take i)) (hf : fs[i]? = some (x, p, n)) (ht : G t = none) (hp : ShAt G p x) :
    ∃ xs, (upd G t (.tup [.ref p, .int n])) D = some (.lst xs) ∧ xs.length ≤ i ∧ Same H (upd (upd G t (.tup [.ref p, .int n])) D (.lst (xs ++ [.ref t]))) ∧ RowsL (upd (upd G t (.tup [.ref p, .int n])) D (.lst (xs ++ [.ref t]))) D (fs.take (i + 1)) := by
  have e := same_new (o := .tup [.ref p, .int n]) ht
  obtain ⟨xs, g1, g2, g3⟩ := (R.same e).snoc (t := t) upd_same (hp.same e)
  refine ⟨xs, g1, by rw [g2, List.length_take]; omega, fun a o z => (upd_ne (ne_of_none z hD)).trans (e _ _ (s a o z)), ?_⟩
  rw [List.take_add_one, hf]
  exact g3
section
variable {base : Heap} {K : PySem.W.Frag} {mg : Str → Option Value} {P : Program} {w : World}
def spSomeRows : Sp := fun vs H Q _ => ∃ (b sb : Addr) (d m : Int), vs = [.ref b, .int d, .int m] ∧ Bag H b sb ∧ IsRoot d ∧ 0 ≤ m ∧ m ≤ 100 ∧
  ∀ l es H', H l = none → RowsL H' l es → Within (ShB d) (10 ^ 6) es → (es.length : Int) ≤ m → Bag H' b sb → Keep b H H' → Q (.ref l) H'
theorem ok_some_rows (T : Txt K mg) : FnOk P w K mg base CX0 6 T.f_some_rows T.d_some_rows ["_law_bag", "_law_root_z", "_law_most"] spSomeRows := by
  refine T.F_some_rows.ok sc_some_rows (fun vs H Q E h => ?_) (fun cdv A outer s H vs Q E hr h => ?_)
  · obtain ⟨b, sb, d, m, rfl, _⟩ := h
    rfl
  · obtain ⟨b, sb, d, m, rfl, B, hd, m0, m1, q⟩ := h
    refine ⟨_, (pss_cons (ps_set (i := 3) sc_some_rows.nd rfl (Or.inl rfl) (pe_lst pa_nil))
      (pss_cons (ps_for PassesOwn.never rfl (pi_range1 (by rfl) T.n_range (pa_cons (pe_call (ok_pull T) (hr.mono (by decide)) (by rfl) T.g_pull T.F_pull.kp T.b_pull .nil pass0 (pa_cons (pv 0) (pa_cons (pe_op op_add (pv 2) pe_int) pa_nil))) pa_nil)) (pg_name (i := 4) sc_some_rows.nd rfl (Or.inl rfl)) (pss_cons (ps_set (i := 5) sc_some_rows.nd rfl (Or.inl rfl) (pe_call (ok_a_sheet T) (hr.mono (by decide)) (by rfl) T.g_a_sheet T.F_a_sheet.kp T.b_a_sheet .nil pass0 (pa_cons (pv 0) (pa_cons (pv 1) pa_nil))))
      (pss_cons (ps_if (PW.pt (pw_and (pt_cmpR (op_neD hr.units) (pv 3) (pe_lst pa_nil) (nomark _)) (pw_and1 (pt_cmpR op_eq (pe_call (ok_pull T) (hr.mono (by decide)) (by rfl) T.g_pull T.F_pull.kp T.b_pull .nil pass0 (pa_cons (pv 0) (pa_cons pe_int pa_nil))) pe_int (nomark _))))) (pss_one (ps_set (i := 5) sc_some_rows.nd rfl (Or.inl rfl) (pe_ix ix_tup (pe_call (ok_of T) (hr.mono (by decide)) (by rfl) T.g_of T.F_of.kp T.b_of .nil pass0 (pa_cons (pv 0) (pa_cons (pv 3) pa_nil))) pe_int (fun _ _ => rfl)))) pss_nil)
      (pss_one (ps_expr (pe_bm PySem.F.plainAttrs_list PySem.F.slot_list_append PySem.F.type_list_append mt_append (pv 3) (pa_cons (pe_tup (pa_cons (pv 5) (pa_cons (pe_call (ok_some_count T) (hr.mono (by decide)) (by rfl) T.g_some_count T.F_some_count.kp T.b_some_count .nil pass0 (pa_cons (pv 0) pa_nil)) pa_nil))) pa_nil)))))))
      (pss_one (ps_ret (pv 3))))), ?_⟩
    refine ⟨Nat.zero_le _, fun l hl => ?_⟩
    have nl := B.ne hl
    have nl2 := B.ne2 hl
    have B0 := B.new (o := .lst []) hl
    refine ⟨.ref b, rfl, _, rfl, m, 1, rfl, rfl, b, sb, _, rfl, B0, by omega, Nat.lt_of_le_of_lt (show (m + 1).natAbs ≤ 101 by omega) (by decide), fun z H1 z0 z1 B1 k1 => ?_⟩
    have h1 : H1 l = some (.lst []) := k1 _ _ nl upd_same
    refine ⟨z, rfl, by omega, by omega, for_range (lo := 0) (n := z.toNat) (fun i σ H' => ∃ y4 y5 es, σ = [some (.ref b), some (.int d), some (.int m), some (.ref l), y4, y5] ∧ RowsL H' l es ∧ Within (ShB d) (10 ^ 6) es ∧ es.length = i ∧ Bag H' b sb ∧ Keep b H H')
      ⟨none, none, [], rfl, ⟨[], h1, .nil, fun e he => by cases he⟩, (fun e he => by cases he), rfl, B1, (keep_new hl).trans k1⟩ ?_ ?_⟩
    · rintro i σ H2 hi ⟨y4, y5, es, rfl, R2, W2, e2, B2, k2⟩
      refine ⟨.ref b, rfl, .int d, rfl, b, sb, d, rfl, B2, hd, fun x p H3 hx hp B3 k3 => ?_⟩
      have R3 := R2.keep B2 nl k3
      -- behind the test
      have rest : ∀ (p : Addr) (x : Sh) (H5 : Hp), ShB d x → ShAt H5 p x → RowsL H5 l es → Bag H5 b sb → Keep b H H5 → tBM K "list" rAppend (tVar 3) (tCons (tTup (tCons (tVar 5) (tCons (tCall spCount [] E0 (tCons (tVar 0) tNil)) tNil))) tNil) [some (.ref b), some (.int d), some (.int m), some (.ref l), some (.int (0 + (i : Int))), some (.ref p)] H5 fun _ H' => ∃ y4 y5 es, [some (V.ref b), some (.int d), some (.int m), some (.ref l), some (.int (0 + (i : Int))), some (.ref p)] = [some (.ref b), some (.int d), some (.int m), some (.ref l), y4, y5] ∧ RowsL H' l es ∧ Within (ShB d) (10 ^ 6) es ∧ es.length = i + 1 ∧ Bag H' b sb ∧ Keep b H H' := by
        intro p x H5 hx hp R5 B5 k5
        obtain ⟨as, hl5, _⟩ := id R5
        refine ⟨.ref l, rfl, .inl ⟨rfl, _, SqL.of hl5⟩, .ref p, rfl, .ref b, rfl, b, sb, rfl, B5, fun n H6 n0 n1 B6 k6 => ⟨by show 2 ≤ sizeLine; decide, fun t ht => ?_⟩⟩
        have k7 := k6.trans (keep_new (o := .tup [.ref p, .int n]) ht)
        have R7 := R5.keep B5 nl k7
        have p7 := hp.mono (tup_keep B5 k7)
        obtain ⟨xs, g1, g2, g3⟩ := R7.snoc (t := t) (p := p) (x := x) (n := n) upd_same p7
        refine ⟨l, xs, .ref t, rfl, rfl, g1, small1000 (by omega), _, _, _, rfl, g3, ?_, by rw [List.length_append, e2]; rfl, (B6.new ht).put nl nl2, ?_⟩
        · intro e he
          rcases List.mem_append.mp he with he | he
          · exact W2 e he
          · rw [List.mem_singleton.mp he]
            exact ⟨hx, n0, n1⟩
        · exact fun a o na z => (upd_ne (ne_of_none z hl)).trans ((k5.trans k7) a o na z)
      refine ⟨_, rfl, Nat.zero_le _, fun nn hnn => ?_⟩
      have s4 := same_new (o := .lst []) hnn
      refine ⟨_, .list [], (R3.same s4).dp, .lst (SqL.of upd_same) .nil, rows_shaped es, by decide +kernel, ?_⟩
      rw [rows_nil]
      have B4 := B3.same s4
      have k4 := k2.trans (k3.trans (keep_of s4))
      cases es with
      | nil => exact ⟨false, rfl, iteF (iteF (rest p x _ hx (hp.same s4) (R3.same s4) B4 k4))⟩
      | cons e es =>
        refine ⟨true, rfl, iteT ⟨_, rfl, b, sb, 4, rfl, B4, by decide, by decide, fun z5 H5 _ _ B5 k5 => ⟨rfl, _, rfl, ?_⟩⟩⟩
        have R5 := (R3.same s4).keep B4 nl k5
        obtain ⟨as, hl5, ra5, ks5⟩ := id R5
        refine ite2 (fun _ => ?_) (fun _ => rest p x H5 hx ((hp.same s4).mono (tup_keep B4 k5)) R5 B5 (k4.trans k5))
        refine ⟨.ref b, rfl, .ref l, rfl, b, sb, l, _, rfl, B5, hl5, nl, ?_, ?_, fun j v H6 hv B6 k6 => ?_⟩
        · rw [List.length_map, ra5.len]
          exact Nat.succ_pos _
        · rw [List.length_map, ra5.len, e2]
          omega
        · obtain ⟨a, f, rfl, hf, ha⟩ := ra5.row hv
          have mf := List.mem_of_getElem? hf
          refine ⟨a, _, 0, .ref f.2.1, rfl, rfl, SqT.of (tup_keep B5 k6 _ _ ha), atI_nat (j := 0) rfl, ?_⟩
          exact rest f.2.1 f.1 H6 (W2 f mf).1 ((ks5 f mf).mono (tup_keep B5 k6)) (R5.keep B5 nl k6) B6 (k4.trans (k5.trans k6))
    · rintro σ H2 ⟨y4, y5, es, rfl, R2, W2, e2, B2, k2⟩
      exact ⟨_, rfl, q l es H2 hl R2 W2 (by omega) B2 k2⟩
end
/-! ### stocks, listings -/
section
variable {base : Heap} {K : PySem.W.Frag} {mg : Str → Option Value} {P : Program} {w : World}
def spStock (K : PySem.W.Frag) (P : Program) (w : World) : Sp := fun vs H Q _ => ∃ (l : Addr) (es : DEs), vs = [.ref l] ∧ RowsL H l es ∧ es.length ≤ 1000 ∧ NewD P w H (mergeD es) Q
theorem ok_stock_of (T : Txt K mg) : FnOk P w K mg base CX0 1 T.f_stock_of T.d_stock_of ["_law_rows"] (spStock K P w) := by
  refine T.F_stock_of.ok sc_stock_of (fun vs H Q E h => ?_) (fun cdv A outer s H vs Q E hr h => ?_)
  · obtain ⟨l, es, rfl, _⟩ := h
    rfl
  · obtain ⟨l, es, rfl, ⟨as, hl, hr2, hk⟩, hn, q⟩ := h
    refine ⟨_, (pss_cons (ps_set (i := 1) sc_stock_of.nd rfl (Or.inl rfl) pe_dnewS)
      (pss_cons (ps_for PassesOwn.never rfl (pi_list (pv 0)) (pg_tup (by rfl) (pgs_cons (pg_name (i := 2) sc_stock_of.nd rfl (Or.inl rfl)) (pgs_cons (pg_name (i := 3) sc_stock_of.nd rfl (Or.inl rfl)) pgs_nil))) (pss_one (ps_sput hr.units (pv 1) (pv 2) (pe_op op_add (pe_sget2 hr.units (pv 1) (pv 2) pe_int ⟨rfl, rfl, rfl, rfl⟩) (pv 3)) rfl)))
      (pss_one (ps_ret (pv 1))))), ?_⟩
    intro c hc
    have D0 : DAt P w (upd H c (DS P w c [])) c [] := ⟨upd_same, fun x hx => by cases hx⟩
    refine ⟨_, rfl, l, rfl, ⟨_, SqL.of ((same_new hc) _ _ hl)⟩, for_list (K := K) (a := l) (xs := as.map V.ref) (fun i σ H' => ∃ y2 y3, σ = [some (.ref l), some (.ref c), y2, y3] ∧ Same H H' ∧ DAt P w H' c (mergeTo es i)) ⟨none, none, rfl, same_new hc, D0⟩ ?_ ?_ ?_⟩
    · rintro i σ H' _ ⟨_, _, _, s1, _⟩
      exact SqL.of (s1 _ _ hl)
    · rintro i x σ H' hx ⟨y2, y3, rfl, s1, D⟩
      obtain ⟨a, e, rfl, he, ha⟩ := hr2.row hx
      have hs := (hk e (List.mem_of_getElem? he)).same s1
      have hlt : i < es.length := (List.getElem?_eq_some_iff.mp he).1
      refine ⟨a, _, rfl, SqT.of (s1 _ _ ha), rfl, .ref e.2.1, _, rfl, .int e.2.2, _, rfl, rfl, ?_⟩
      refine ⟨.ref c, rfl, c, _, rfl, D.rd, .ref e.2.1, rfl, e.2.1, e.1, 0, _, rfl, rfl, D.rd, hs, .int e.2.2, rfl, _, _, rfl, rfl, .ref c, rfl, .ref e.2.1, rfl, c, e.2.1, _, e.1, _, rfl, rfl, rfl, D, hs, small_of (by have := mergeTo_len es i; omega), ?_⟩
      obtain ⟨s2, D2⟩ := step_put hc s1 D hs he
      exact ⟨_, _, rfl, s2, D2⟩
    · rintro σ H' ⟨y2, y3, rfl, s1, D⟩
      rw [List.length_map, hr2.len, mergeTo_all] at D
      exact ⟨_, rfl, q c H' hc s1 D⟩
end
/-! ### the truth of an object by its own __bool__ -/
section
variable {X : Cx} {CX : CXT} {C g : Addr} {fd : FuncData} {ps : List Str} {sp : Sp} {E : XK} {n : Nat} {a : Expr} {ta : TE}
theorem pt_own (ha : PE X a ta) (m : Meth X.K C "__bool__" g) (F : FnOk X.prog X.w X.K X.mg X.base CX n g fd ps sp) (hr : Room n X.A) (hb : Binds X.K fd ps []) (hx : Passes CX X E) (he : ∀ whole, isTrue a X.env whole = (do let v ← whole; standAt a.pos; holding [v] (truthy v))) :
    PT X a (fun σ H Q => ta σ H fun x G => ∃ p dx fs, x = .ref p ∧ G p = some (.ins C dx fs) ∧ sp [.ref p] G (fun z G' => ∃ k, z = .bl k ∧ Q k G') E) := by
  constructor
  intro pins s σ H Q I h
  refine isTrue_plain (thn (ha.run pins s σ H _ I h) ?_) (he _)
  rintro v s1 ⟨x, G, I1, rx, p, dx, fs, rfl, hp, q⟩
  obtain rfl : v = Value.ref p := rx
  obtain ⟨ox, od, J⟩ := inst_of I1 hp
  show wpAny _ _ (callSpecial? (.ref p) (Str.ofString "__bool__") [] >>= _) _ _ s1
  refine wpAny_bind (PySem.W.special_fn I1.kIn J m.at_ (beq_iff_eq.mp m.fn) (thn (run_in (us := [.ref p]) (ws := [.ref p]) F hr I1.env0 hb hx I1 (.cons rfl .nil) q) ?_))
  rintro y s2 ⟨z, G', I2, ry, k, rfl, qk⟩
  obtain rfl : y = Value.bool k := ry
  exact wpAny_pure ⟨G', I2, qk⟩
end
/-! ### Heap.of -/
theorem pe_makeL {X : Cx} {CX : CXT} {k i : Nat} {f C : Addr} {fd : FuncData} {ps : List Str} {sp : Sp} {dvs : List V} {ds : List Value} {E : XK} {x : Str} {p pos : Pos} {e : Expr} {es : List Expr} {t : TA} (M : Mk X.K C f) (F : FnOk X.prog X.w X.K X.mg X.base CX k f fd ps sp) (hr : Room (k + 1) X.A) (hN : X.N[i]? = some x) (hv : Vis X.env.scope x)
    (hb : Binds X.K fd ps ds) (hd : Vals dvs ds) (hx : Passes CX X E) (ha : PA X (e :: es) t) (hdb : (x == ("__debug__" : Str)) = false := by decide) (hcd : (x == ("__classdict__" : Str)) = false := by decide)
    (he : starEach (e :: es) X.env = (false, eval e X.env) :: starEach es X.env := by rfl) (hpl : (backTo pos (starEach es X.env)).any (·.1) = false := by rfl) :
    PE X (.Call (.Name x p) (e :: es) [] pos) (fun σ H Q => σ[i]? = some (some (.ref C)) ∧ tMake C sp dvs E t σ H Q) := by
  constructor
  rintro pins s σ H Q I ⟨hs, h⟩
  apply wpAny_Call_Name_kw
  refine thn ((pe_var (pos := p) hN hv hdb hcd).run pins s σ H (fun v H1 => v = .ref C ∧ H1 = H) I ⟨.ref C, hs, rfl, rfl⟩) ?_
  rintro u s1 ⟨v, H1, I1, r1, rfl, rfl⟩
  cases (show u = Value.ref C from r1)
  refine PySem.W.callWith_K (h₀ := X.base) I.ok.mod.kin M.kp (thn (ha.run pos pins s1 σ H1 _ I1 h) ?_) he hpl
  rintro us s2 ⟨vs, H2, I2, r2, q2⟩
  exact ⟨I2.kIn, run_make M F hr hb hd hx I2 r2 q2⟩
section
variable {base : Heap} {K : PySem.W.Frag} {mg : Str → Option Value} {w : World}
def onesE (bs : List (Sh × Addr)) : DEs := bs.map fun b => (b.1, b.2, 1)
/-- what is asked of Heap.of, and told by it -/
structure OfAsk (T : Txt K mg) (w : World) (H : Hp) (d : Int) (bs : List (Sh × Addr)) (Q : VK) (E : XK) : Prop where
  rd : isRB d = true
  ks : ∀ b ∈ bs, ShAt H b.2 b.1 ∧ Sh100 b.1
  len : bs.length ≤ 100
  good : (∀ b ∈ bs, shB d b.1 = true) → ∀ p H', H p = none → Same H H' → HeapAt PySem.Challenge.pw_grainyard_k34_heaps_with_a_table w T.C_Heap H' p d (sortE (mergeD (onesE bs))) → Q (.ref p) H'
  bad : ∀ i, FirstBad d (onesE bs) i → Throws T.e_BadRow.C (badRow i) H E
theorem OfAsk.up {T : Txt K mg} {H H1 : Hp} {d : Int} {bs : List (Sh × Addr)} {Q : VK} {E : XK} (h : OfAsk T w H d bs Q E) (s : Same H H1) : OfAsk T w H1 d bs Q E :=
  ⟨h.rd, fun b hb => ⟨(h.ks b hb).1.same s, (h.ks b hb).2⟩, h.len, fun g p H' hp s1 hA => h.good g p H' (s.free hp) (s.trans s1) hA, fun i fb => (h.bad i fb).up s⟩
def spOfB (T : Txt K mg) (w : World) : Sp := fun vs H Q E => ∃ (t : Addr) (d : Int) (bs : List (Sh × Addr)), vs = [.ref T.C_Heap, .int d, .ref t] ∧ H t = some (.tup (bs.map fun b => V.ref b.2)) ∧ OfAsk T w H d bs Q E
def spHOf (T : Txt K mg) (w : World) : Sp := fun vs H Q E => ∃ (d : Int) (bs : List (Sh × Addr)), vs = .ref T.C_Heap :: .int d :: bs.map (fun b => V.ref b.2) ∧ OfAsk T w H d bs Q E
theorem row_one {d : Int} {b : Sh × Addr} : rowB d (b.1, b.2, 1) = shB d b.1 := by
  unfold rowB
  rw [decide_eq_true (show (1 : Int) ≤ 1 by decide), Bool.true_and]
theorem ok_Heap_of (T : Txt K mg) : FnR PySem.Challenge.pw_grainyard_k34_heaps_with_a_table w K mg base (L2.CX PySem.Challenge.pw_grainyard_k34_heaps_with_a_table w) 7 T.f_Heap_of (spHOf T w) := by
  obtain ⟨o1, o2, v1, v2, v3, a1, v4, v5, sl1, e1, r1, r2⟩ := T.F_Heap_of.ex
  have r1' := r1
  rw [e1] at r1'
  refine FnR.imp (StX.fn_star (ps := ["cls", "root"]) (pv := "sheets") (sp := spOfB T w) (N := ["cls", "root", "sheets", "sheet"]) r1' r2 sc_Heap_of StX.cxUp ?_ ?_) ?_
  · intro us rest hu
    match us, rest, hu with
    | [_, _], [], _ => rfl
    | [_, _], _ :: _, _ => rfl
  · intro A outer s H vs Q E hr h
    obtain ⟨t, d, bs, rfl, ht, h1⟩ := h
    refine ⟨_, (pss_one (ps_ret (pe_makeL (i := 0) T.M_Heap (ok_Heap_init (w := w) T) (hr.mono (by decide)) (by rfl) (Or.inl rfl) T.b_Heap_init .nil (passes_call (takes_of rfl rfl rfl rfl) (fun _ _ _ _ h => h)) (pa_cons (pv 1) (pa_cons (pe_lc (own := [("sheet", 3)]) (g := (gName 3)) (tt := tYes) (by rfl) sc_Heap_of.nd (pi_tup (pv 2)) (blkOk_by (own := [("sheet", 3)]) (N := ["cls", "root", "sheets", "sheet"]) (sc := defScope s_Heap_of) (by decide +kernel)) (fun _ _ _ _ _ => (pg_name (i := 3) sc_Heap_of.nd rfl (Or.inl rfl))) (fun _ _ _ _ _ => pts_nil) (fun _ _ _ _ _ => (pe_tup (pa_cons (pv 3) (pa_cons pe_int pa_nil))))) pa_nil))))), ?_⟩
    have hln := h1.len
    refine ⟨rfl, _, rfl, _, rfl, t, rfl, ⟨_, SqT.of ht⟩, fun D hD => lc_tup (K := K) (a := t) (xs := bs.map fun b => V.ref b.2) (fun i G => Same H G ∧ RowsL G D ((onesE bs).take i)) ⟨same_new hD, [], upd_same, .nil, fun e he => by cases he⟩ (fun i H' _ h => SqT.of (h.1 _ _ ht)) ?_ ?_⟩
    · rintro i x G hx ⟨sG, RG⟩
      rw [List.getElem?_map] at hx
      cases hb : bs[i]? with
      | none =>
        rw [hb] at hx
        cases hx
      | some b =>
        rw [hb] at hx
        cases hx
        have hs := ((h1.ks b (List.mem_of_getElem? hb)).1).same sG
        have hi := (List.getElem?_eq_some_iff.mp hb).1
        refine ⟨rfl, _, rfl, by show 2 ≤ sizeLine; decide, fun t2 n2 => ?_⟩
        obtain ⟨xs, g1, g2, g3, g4⟩ := RowsL.step (fs := onesE bs) (x := b.1) (p := b.2) (n := 1) hD sG RG (by unfold onesE; rw [List.getElem?_map, hb]; rfl) n2 hs
        exact ⟨xs, g1, small1000 (by omega), g3, g4⟩
    · rintro G ⟨sG, RG⟩
      have hl : (bs.map fun b => V.ref b.2).length = (onesE bs).length := by
        unfold onesE
        rw [List.length_map, List.length_map]
      rw [hl, List.take_length] at RG
      have h2 := h1.up sG
      have b100 : Es100 (onesE bs) := fun e he => by
        obtain ⟨b, hb, rfl⟩ := List.mem_map.mp he
        exact (h2.ks b hb).2
      have ln : (onesE bs).length ≤ 1000 := by
        rw [← hl, List.length_map]
        omega
      intro x dx nx nd ne
      have s1 : Same G (upd (upd G dx (.own x)) x (.ins T.C_Heap dx [])) := fun b o z => by
        rw [upd_ne (ne_of_none z nx), upd_ne (ne_of_none z nd)]
        exact z
      refine ⟨x, dx, d, _, onesE bs, rfl, upd_same, RG.handed.same s1, b100, ln, fun _ ok H' hA hk => ⟨rfl, ?_⟩, fun _ i fb => (h2.bad i fb).up s1, fun z => by rw [h1.rd] at z; cases z⟩
      refine h2.good (fun b hb => ?_) x H' nx (fun b o z => hk b o (s1 b o z) (ne_of_none z nx)) hA
      have := ok (b.1, b.2, 1) (List.mem_map.mpr ⟨b, hb, rfl⟩)
      rwa [row_one] at this
  · rintro vs H Q E ⟨d, bs, rfl, h1⟩
    have := h1.len
    exact ⟨[.ref T.C_Heap, .int d], bs.map fun b => V.ref b.2, rfl, rfl, Nat.le_of_lt (small1000 (by rw [List.length_map]; omega)), fun p hp => ⟨p, d, bs, rfl, upd_same, h1.up (same_new hp)⟩⟩
end
/-! ### heap_of_table -/
section
variable {base : Heap} {K : PySem.W.Frag} {mg : Str → Option Value} {w : World}
def notEnough : List (Str × V) := [("word", .str "NotEnough")]
def allZero (a b c d : Int) : Prop := a = 0 ∧ b = 0 ∧ c = 0 ∧ d = 0
def twoE (r v a b c d : Int) (j : Nat) (p q : Addr) : DEs := [(shA r v a b c d j, p, 1), (shB2 r v a b c d j, q, 1)]
/-- what is asked of heap_of_table, and told by it -/
structure HotAsk (T : Txt K mg) (w : World) (H : Hp) (r v a b c d : Int) (j : Nat) (Q : VK) (E : XK) : Prop where
  ba : a.natAbs < 2 ^ 100 ∧ b.natAbs < 2 ^ 100
  bc : c.natAbs < 2 ^ 100 ∧ d.natAbs < 2 ^ 100
  root : isRB r = false → Throws T.e_BadRoot.C (badRoot (.int r)) H E
  zero : isRB r = true → allZero a b c d → ∀ x H', H x = none → Same H H' → HeapAt PySem.Challenge.pw_grainyard_k34_heaps_with_a_table w T.C_Heap H' x r [] → Q (.ref x) H'
  little : isRB r = true → ¬ allZero a b c d → ¬ 0 < vl (a + r * d) (b + c) r → Throws T.e_NotEnough.C notEnough H E
  num : isRB r = true → 0 < vl (a + r * d) (b + c) r → isW r v ∧ j ≤ 463 ∧ StopAt r v a b c d j
  good : isRB r = true → ¬ allZero a b c d → 0 < vl (a + r * d) (b + c) r → ∀ x p q H', H x = none → Same H H' → HeapAt PySem.Challenge.pw_grainyard_k34_heaps_with_a_table w T.C_Heap H' x r (sortE (mergeD (twoE r v a b c d j p q))) → Q (.ref x) H'
def spHot (T : Txt K mg) (w : World) : Sp := fun vs H Q E => ∃ (p : Addr) (r v a b c d : Int) (j : Nat), vs = [.ref p, .int r] ∧ TabAt T.C_Table H p a b c d ∧ HotAsk T w H r v a b c d j Q E
theorem isRB_range {n : Int} (h : isRB n = true) : 2 ≤ n ∧ n ≤ 99 := by
  unfold isRB at h
  rw [Bool.and_eq_true] at h
  exact of_decide_eq_true h.1
theorem ok_heap_of_table (T : Txt K mg) : FnOk PySem.Challenge.pw_grainyard_k34_heaps_with_a_table w K mg base (L2.CX PySem.Challenge.pw_grainyard_k34_heaps_with_a_table w) 11 T.f_heap_of_table T.d_heap_of_table ["table", "root"] (spHot T w) := by
  refine T.F_heap_of_table.okX sc_heap_of_table (fun vs H Q E h => ?_) (fun cdv A outer s H vs Q E hr h => ?_)
  · obtain ⟨p, r, v, a, b, c, d, j, rfl, _⟩ := h
    rfl
  · obtain ⟨p, r, v, a, b, c, d, j, rfl, hp, k⟩ := h
    refine ⟨_, (pss_cons (ps_expr (pe_call (ok_check_root T) (hr.mono (by decide)) (by rfl) T.g_check_root T.F_check_root.kp T.b_check_root .nil (passes_call (takes_of rfl rfl rfl rfl) (fun _ _ _ _ h => h)) (pa_cons (pv 1) pa_nil)))
      (pss_cons (ps_if (pt_not (pt_own (pv 0) T.m_Table_bool (ok_Table_bool T) (hr.mono (by decide)) T.b_Table_bool pass0 (fun _ => rfl))) (pss_one (ps_ret (pe_make T.M_Heap (ok_Heap_init T) (hr.mono (by decide)) (by rfl) T.g_Heap T.b0_Heap_init T.v0_Heap_init pass_never (pa_cons (pv 1) pa_nil)))) pss_nil)
      (pss_cons (ps_if (pt_not (pt_val (pe_call (ok_is_length T) (hr.mono (by decide)) (by rfl) T.g_is_length T.F_is_length.kp T.b_is_length .nil pass0 (pa_cons (pe_meth (pv 0) T.cl_Table T.m_Table_area_for (ok_Table_area_for T) (hr.mono (by decide)) T.b_Table_area_for .nil pass0 (pa_cons (pv 1) pa_nil)) (pa_cons (pv 1) pa_nil))))) (pss_one (ps_raise rfl (takes_of rfl rfl rfl rfl) (pmkE0 erb_VE T.e_NotEnough.T.ox T.e_NotEnough.iC T.e_NotEnough.tI (ini_NotEnough T) (hr.mono (by decide)) (bi_NotEnough T) .nil pass0 (by rfl) T.e_NotEnough.g))) pss_nil)
      (pss_cons (ps_asg (pe_call (ok_two_sheets T) (hr.mono (by decide)) (by rfl) T.g_two_sheets T.F_two_sheets.kp T.b_two_sheets .nil pass0 (pa_cons (pv 0) (pa_cons (pv 1) pa_nil))) (pg_tup (by rfl) (pgs_cons (pg_name (i := 2) sc_heap_of_table.nd rfl (Or.inl rfl)) (pgs_cons (pg_name (i := 3) sc_heap_of_table.nd rfl (Or.inl rfl)) pgs_nil))))
      (pss_one (ps_ret (ClX.pe_cmeth (pe_glob (v := .ref T.C_Heap) (by rfl) T.g_Heap rfl) T.cr_Heap T.cm_Heap_of (ok_Heap_of (w := w) T) (hr.mono (by decide)) pass_never (pa_cons (pv 1) (pa_cons (pv 2) (pa_cons (pv 3) pa_nil)))))))))), ?_⟩
    refine ⟨_, rfl, r, rfl, fun hrb => ?_, k.root⟩
    have hp' := hp
    obtain ⟨dx, t0, hi, _⟩ := hp'
    refine ⟨_, rfl, p, dx, _, rfl, hi, ?_⟩
    have r29 := isRB_range hrb
    refine ⟨p, a, b, c, d, rfl, hp, fun H1 s1 => ⟨_, rfl, ?_⟩⟩
    have hp1 := hp.same s1
    show (if (!([a, b, c, d].any fun i => i != 0)) = true then _ else _)
    refine ite2 (fun e => ?_) (fun e => ?_)
    · have z : allZero a b c d := by
        simp at e
        exact ⟨e.1, e.2.1, e.2.2.1, e.2.2.2⟩
      refine ⟨_, rfl, mk_heap (T := T) (w := w) (es := []) hrb (Handed.none (Dfl0.sq T.z0_Heap_init)) (fun e he => by cases he) (fun e he => by cases he) (by decide) fun x H2 nx s2 hA => ?_⟩
      have e0 : sortE (mergeD ([] : DEs)) = [] := by simp [sortE, sortK, mergeD]
      rw [e0] at hA
      exact k.zero hrb z x H2 (s1.free nx) (s1.trans s2) hA
    · have nz : ¬ allZero a b c d := fun z => by
        obtain ⟨rfl, rfl, rfl, rfl⟩ := z
        exact e rfl
      have b1 : (a + r * d).natAbs < 2 ^ 9000 := by
        have h1 : (r * d).natAbs < 2 ^ (7 + 100) := wide_lt (show r.natAbs < 2 ^ 7 by have : (2 : Nat) ^ 7 = 128 := rfl; omega) k.bc.2
        have h2 := k.ba.1
        have h3 : (2 : Nat) ^ (7 + 100) + 2 ^ 100 ≤ 2 ^ 9000 := Nat.le_trans (show _ ≤ 2 ^ 108 by decide) (Nat.pow_le_pow_right (by decide) (by decide))
        have := Int.natAbs_add_le a (r * d)
        generalize (r * d).natAbs = A at *
        generalize (2 : Nat) ^ (7 + 100) = B at *
        generalize (2 : Nat) ^ 9000 = C at *
        omega
      have b2 : (b + c).natAbs < 2 ^ 9000 := by
        have h1 := k.ba.2
        have h2 := k.bc.1
        have h3 : (2 : Nat) ^ 100 + 2 ^ 100 ≤ 2 ^ 9000 := Nat.le_trans (show _ ≤ 2 ^ 108 by decide) (Nat.pow_le_pow_right (by decide) (by decide))
        have := Int.natAbs_add_le b c
        generalize (2 : Nat) ^ 9000 = C at *
        omega
      refine ⟨_, rfl, p, dx, _, rfl, s1 _ _ hi, rfl, _, rfl, p, a, b, c, d, r, rfl, hp1, by omega, by omega, fun pa H2 na s2 fa => ?_⟩
      refine ⟨_, rfl, .ref pa, r, a + r * d, b + c, rfl, ⟨pa, rfl, SqT.of fa⟩, by omega, b1, b2, _, rfl, ?_⟩
      rw [sg_pos]
      show (if (!_) = true then _ else _)
      refine ite2 (fun e2 => ?_) (fun e2 => ?_)
      · have np : ¬ 0 < vl (a + r * d) (b + c) r := by
          simpa using e2
        exact fun x Hf nx sx fx => ((k.little hrb nz np).up (s1.trans s2)) x Hf nx sx fx
      · have pp : 0 < vl (a + r * d) (b + c) r := by
          simpa using e2
        obtain ⟨hw, hj, stop⟩ := k.num hrb pp
        refine ⟨_, rfl, _, rfl, p, r, v, a, b, c, d, j, rfl, hp1.same s2, r29.1, r29.2, hw, k.ba, k.bc, by omega, stop, fun R H3 nR s3 tw => ?_⟩
        obtain ⟨q1, q2, hR, hq1, hq2⟩ := tw
        refine ⟨R, _, rfl, SqT.of hR, rfl, .ref q1, _, rfl, .ref q2, _, rfl, rfl, ?_⟩
        obtain ⟨g1, g2⟩ := two_good r29.1 r29.2 hw k.ba k.bc hj stop
        have s13 := s1.trans (s2.trans s3)
        refine ⟨rfl, _, rfl, _, rfl, _, rfl, r, [(shA r v a b c d j, q1), (shB2 r v a b c d j, q2)], rfl, hrb, fun e he => ?_, (show (2 : Nat) ≤ 100 by decide), fun _ x H4 nx s4 hA => ?_, fun i fb => ?_⟩
        · simp only [List.mem_cons, List.not_mem_nil, or_false] at he
          rcases he with rfl | rfl
          · exact ⟨hq1, g1.b.2⟩
          · exact ⟨hq2, g2.b.2⟩
        · exact k.good hrb nz pp x q1 q2 H4 (s13.free nx) (s13.trans s4) hA
        · exfalso
          obtain ⟨⟨e, he, ez⟩, _⟩ := fb
          have he := List.mem_of_getElem? he
          unfold onesE at he
          simp only [List.map_cons, List.map_nil, List.mem_cons, List.not_mem_nil, or_false] at he
          rcases he with rfl | rfl
          · rw [row_one (b := (shA r v a b c d j, q1)), g1.b.1] at ez
            cases ez
          · rw [row_one (b := (shB2 r v a b c d j, q2)), g2.b.1] at ez
            cases ez
end
/-! ### the four numbers of a stock -/
section
variable {base : Heap} {K : PySem.W.Frag} {mg : Str → Option Value} {P : Program} {w : World}
/-! the table of a heap -/
def f00 (x : Sh) : Int := x.2.2.1 * x.1
def f01 (x : Sh) : Int := x.2.2.2 * x.1
def f10 (x : Sh) : Int := x.2.2.1 * x.2.1
def f11 (x : Sh) : Int := x.2.2.2 * x.2.1
/-- sheets and numbers of less than 100 bits -/
def Small (es : DEs) : Prop := ∀ e ∈ es, Bd 3000 [e.1.1, e.1.2.1, e.1.2.2.1, e.1.2.2.2] ∧ e.2.2.natAbs < 2 ^ 3000
theorem wsum_take {φ : Sh → Int} {es : DEs} {i : Nat} {e : Sh × Addr × Int} (he : es[i]? = some e) : wsum φ (es.take (i + 1)) = wsum φ (es.take i) + e.2.2 * φ e.1 := by
  rw [List.take_add_one, he, wsum_app, show (some e).toList = [e] from rfl, wsum_cons]
  show _ + (_ + 0) = _
  omega
theorem Bag.ext {H : Hp} {b sb p : Addr} {φ : Heap → Prop} (B : Bag H b sb) (hp : H p = some (.ext φ)) : p ≠ b := by
  obtain ⟨ns, i, j, m, c, B⟩ := B
  exact ne_of hp B.hb (by intro z; cases z)
theorem Bag.ins {H : Hp} {b sb p C dx : Addr} {fs : List (Str × V)} (B : Bag H b sb) (hp : H p = some (.ins C dx fs)) : p ≠ b := by
  obtain ⟨ns, i, j, m, c, B⟩ := B
  exact ne_of hp B.hb (by intro z; cases z)
theorem DAt.keep {H H' : Hp} {b sb d : Addr} {es : DEs} (D : DAt P w H d es) (B : Bag H b sb) (k : Keep b H H') : DAt P w H' d es := ⟨k _ _ (B.ext D.hd) D.hd, fun x hx => (D.ks x hx).mono (tup_keep B k)⟩
theorem HeapAt.keep {C : Addr} {H H' : Hp} {b sb p : Addr} {d : Int} {es : DEs} (h : HeapAt P w C H p d es) (B : Bag H b sb) (k : Keep b H H') : HeapAt P w C H' p d es := by
  obtain ⟨dx, c, h1, h2⟩ := h
  exact ⟨dx, c, k _ _ (B.ins h1) h1, h2.keep B k⟩
def spFour (P : Program) (w : World) : Sp := fun vs H Q _ => ∃ (c : Addr) (es : DEs), vs = [.ref c] ∧ DAt P w H c es ∧ (keysD es).Nodup ∧ Small es ∧
  ∀ p H', H p = none → Same H H' → H' p = some (.tup [.int (wsum f00 es), .int (wsum f01 es), .int (wsum f10 es), .int (wsum f11 es)]) → Q (.ref p) H'
theorem ok_four (T : Txt K mg) : FnOk P w K mg base CX0 1 T.f_four T.d_four ["_law_stock"] (spFour P w) := by
  refine T.F_four.ok sc_four (fun vs H Q E h => ?_) (fun cdv A outer s H vs Q E hr h => ?_)
  · obtain ⟨c, es, rfl, _⟩ := h
    rfl
  · obtain ⟨c, es, rfl, D, nd, sm, q⟩ := h
    refine ⟨_, (pss_cons (ps_set (i := 1) sc_four.nd rfl (Or.inl rfl) (pe_lst (pa_cons pe_int (pa_cons pe_int (pa_cons pe_int (pa_cons pe_int pa_nil))))))
      (pss_cons (ps_lock (ps_for PassesOwn.never rfl (pi_keysDS (pv 0)) (pg_tup (by rfl) (pgs_cons (pg_tup (by rfl) (pgs_cons (pg_name (i := 3) sc_four.nd rfl (Or.inl rfl)) (pgs_cons (pg_name (i := 4) sc_four.nd rfl (Or.inl rfl)) pgs_nil))) (pgs_cons (pg_tup (by rfl) (pgs_cons (pg_name (i := 5) sc_four.nd rfl (Or.inl rfl)) (pgs_cons (pg_name (i := 6) sc_four.nd rfl (Or.inl rfl)) pgs_nil))) pgs_nil))) (pss_cons (ps_set (i := 2) sc_four.nd rfl (Or.inl rfl) (pe_sget hr.units (pv 0) (pe_tup (pa_cons (pe_tup (pa_cons (pv 3) (pa_cons (pv 4) pa_nil))) (pa_cons (pe_tup (pa_cons (pv 5) (pa_cons (pv 6) pa_nil))) pa_nil))) (fun _ _ => rfl)))
      (pss_one (ps_set (i := 1) sc_four.nd rfl (Or.inl rfl) (pe_lst (pa_cons (pe_op op_add (pe_ix ix_list (pv 1) pe_int (fun _ _ => rfl)) (pe_op op_mulW (pe_op op_mulW (pv 3) (pv 5)) (pv 2))) (pa_cons (pe_op op_add (pe_ix ix_list (pv 1) pe_int (fun _ _ => rfl)) (pe_op op_mulW (pe_op op_mulW (pv 3) (pv 6)) (pv 2))) (pa_cons (pe_op op_add (pe_ix ix_list (pv 1) pe_int (fun _ _ => rfl)) (pe_op op_mulW (pe_op op_mulW (pv 4) (pv 5)) (pv 2))) (pa_cons (pe_op op_add (pe_ix ix_list (pv 1) pe_int (fun _ _ => rfl)) (pe_op op_mulW (pe_op op_mulW (pv 4) (pv 6)) (pv 2))) pa_nil))))))))))
      (pss_one (ps_ret (pe_tup (pa_cons (pe_ix ix_list (pv 1) pe_int (fun _ _ => rfl)) (pa_cons (pe_ix ix_list (pv 1) pe_int (fun _ _ => rfl)) (pa_cons (pe_ix ix_list (pv 1) pe_int (fun _ _ => rfl)) (pa_cons (pe_ix ix_list (pv 1) pe_int (fun _ _ => rfl)) pa_nil))))))))), ?_⟩
    refine ⟨by show 4 ≤ sizeLine; decide, fun l hl => ?_⟩
    have s0 := same_new (o := .lst [.int 0, .int 0, .int 0, .int 0]) hl
    have D0 := D.same s0
    refine ⟨c, _, D0.hd, True.intro, fun od => ⟨_, rfl, c, od, es, rfl, upd_same, ?_⟩⟩
    have nc : ∀ a xs, H a = some (.tup xs) → a ≠ c := fun a xs z => ne_of z D.hd (by intro z; cases z)
    have nlc : l ≠ c := (ne_of_none D.hd hl).symm
    refine for_keysDS (P := P) (w := w) (d := c) (o := od) (es := es) (fun i σ G => ∃ f y2 y3 y4 y5 y6, σ = [some (.ref c), some (.ref f), y2, y3, y4, y5, y6] ∧ f ≠ c ∧ G c = some (.frz od (DS P w c es)) ∧ (∀ a o, a ≠ c → H a = some o → G a = some o) ∧ G f = some (.lst [.int (wsum f00 (es.take i)), .int (wsum f01 (es.take i)), .int (wsum f10 (es.take i)), .int (wsum f11 (es.take i))]))
      ⟨l, none, none, none, none, none, rfl, nlc, upd_same, fun a o na z => (upd_ne na).trans (s0 a o z), (upd_ne nlc).trans upd_same⟩ ?_ ?_ ?_
    · rintro i τ G _ ⟨f, _, _, _, _, _, _, _, gd, ga, _⟩
      exact ⟨gd, fun x hx => (D.ks x hx).mono fun a xs z => ga a _ (nc a xs z) z⟩
    · rintro i e τ G he ⟨f, y2, y3, y4, y5, y6, rfl, nf, gd, ga, gf⟩
      have me := List.mem_of_getElem? he
      obtain ⟨bs, bn⟩ := sm e me
      obtain ⟨b1, b2, b3, b4⟩ := bs.b4
      obtain ⟨u, v, h1, h2, h3⟩ := (D.ks e me).mono fun a xs z => ga a _ (nc a xs z) z
      refine ⟨e.2.1, _, rfl, SqT.of h1, rfl, .ref u, _, rfl, u, _, rfl, SqT.of h2, rfl, .int e.1.1, _, rfl, .int e.1.2.1, _, rfl, rfl, .ref v, _, rfl, v, _, rfl, SqT.of h3, rfl, .int e.1.2.2.1, _, rfl, .int e.1.2.2.2, _, rfl, rfl, rfl, ?_⟩
      refine ⟨_, rfl, _, rfl, _, rfl, by show 2 ≤ sizeLine; decide, fun t1 n1 => ⟨_, rfl, _, rfl, by show 2 ≤ sizeLine; decide, fun t2 n2 => ⟨by show 2 ≤ sizeLine; decide, fun t3 n3 => ?_⟩⟩⟩
      have e1 := same_new (o := .tup [.int e.1.1, .int e.1.2.1]) n1
      have e2 := same_new (o := .tup [.int e.1.2.2.1, .int e.1.2.2.2]) n2
      have e3 := same_new (o := .tup [.ref t1, .ref t2]) n3
      have e123 := e1.trans (e2.trans e3)
      have hsh : ShAt (upd (upd (upd G t1 (.tup [.int e.1.1, .int e.1.2.1])) t2 (.tup [.int e.1.2.2.1, .int e.1.2.2.2])) t3 (.tup [.ref t1, .ref t2])) t3 e.1 := ⟨t1, t2, upd_same, (e2.trans e3) _ _ upd_same, e3 _ _ upd_same⟩
      refine ⟨c, t3, es, e.1, e.2.2, rfl, rfl, ⟨.inr ⟨od, e123 _ _ gd⟩, fun x hx => ((D.ks x hx).mono fun a xs z => ga a _ (nc a xs z) z).same e123⟩, hsh, valD_mem nd me, ?_⟩
      have gf' := e123 _ _ gf
      have w1 := w100 b1
      have w2 := w100 b2
      have w3 := w100 b3
      have w4 := w100 b4
      have wn' := w100 bn
      refine ⟨_, rfl, f, _, 0, _, rfl, rfl, SqL.of gf', atI_nat (j := 0) rfl, _, rfl, _, rfl, _, _, rfl, rfl, wide_mul b1 b3 (by decide) (by decide) (by decide), _, rfl, _, _, rfl, rfl, wide_mul (wide_lt b1 b3) bn (by decide) (by decide) (by decide), _, _, rfl, rfl,
        _, rfl, f, _, 1, _, rfl, rfl, SqL.of gf', atI_nat (j := 1) rfl, _, rfl, _, rfl, _, _, rfl, rfl, wide_mul b1 b4 (by decide) (by decide) (by decide), _, rfl, _, _, rfl, rfl, wide_mul (wide_lt b1 b4) bn (by decide) (by decide) (by decide), _, _, rfl, rfl,
        _, rfl, f, _, 2, _, rfl, rfl, SqL.of gf', atI_nat (j := 2) rfl, _, rfl, _, rfl, _, _, rfl, rfl, wide_mul b2 b3 (by decide) (by decide) (by decide), _, rfl, _, _, rfl, rfl, wide_mul (wide_lt b2 b3) bn (by decide) (by decide) (by decide), _, _, rfl, rfl,
        _, rfl, f, _, 3, _, rfl, rfl, SqL.of gf', atI_nat (j := 3) rfl, _, rfl, _, rfl, _, _, rfl, rfl, wide_mul b2 b4 (by decide) (by decide) (by decide), _, rfl, _, _, rfl, rfl, wide_mul (wide_lt b2 b4) bn (by decide) (by decide) (by decide), _, _, rfl, rfl, by show 4 ≤ sizeLine; decide, fun f2 n4 => ?_⟩
      have gd' := e123 _ _ gd
      refine ⟨f2, _, _, _, _, _, rfl, (ne_of_none gd' n4).symm, (same_new n4) _ _ gd', fun a o na z => (same_new n4) _ _ (e123 _ _ (ga a o na z)), ?_⟩
      rw [upd_same, wsum_take he, wsum_take he, wsum_take he, wsum_take he]
      have cm : ∀ x y z : Int, x * y * z = z * (y * x) := fun x y z => by rw [Int.mul_comm x y, Int.mul_comm]
      rw [cm, cm, cm, cm]
      rfl
    · rintro σ G ⟨f, y2, y3, y4, y5, y6, rfl, nf, gd, ga, gf⟩
      refine ⟨gd, ?_⟩
      rw [List.take_length] at gf
      have sG : Same H (upd G c (DS P w c es)) := fun a o z => by
        by_cases h : a = c
        · subst h
          rw [upd_same, ← D.hd, z]
        · exact (upd_ne h).trans (ga a o h z)
      have gf' : (upd G c (DS P w c es)) f = _ := (upd_ne nf).trans gf
      refine ⟨_, rfl, f, _, 0, _, rfl, rfl, SqL.of gf', atI_nat (j := 0) rfl, _, rfl, f, _, 1, _, rfl, rfl, SqL.of gf', atI_nat (j := 1) rfl, _, rfl, f, _, 2, _, rfl, rfl, SqL.of gf', atI_nat (j := 2) rfl, _, rfl, f, _, 3, _, rfl, rfl, SqL.of gf', atI_nat (j := 3) rfl, by show 4 ≤ sizeLine; decide, fun p hp => ?_⟩
      exact q p _ (sG.free hp) (sG.trans (same_new hp)) upd_same
def spAreaOf (K : PySem.W.Frag) : Sp := fun vs H Q _ => ∃ (p : Addr) (d a b c e : Int), vs = [.ref p, .int d] ∧ SqT K H p [.int a, .int b, .int c, .int e] ∧ d.natAbs < 2 ^ 64 ∧ e.natAbs < 2 ^ 400 ∧ NewPair H (a + d * e) (b + c) Q
theorem ok_area_of (T : Txt K mg) : FnOk P w K mg base CX0 1 T.f_area_of T.d_area_of ["_law_four_here", "_law_root_z"] (spAreaOf K) := by
  refine T.F_area_of.ok sc_area_of (fun vs H Q E h => ?_) (fun cdv A outer s H vs Q E hr h => ?_)
  · obtain ⟨p, d, a, b, c, e, rfl, _⟩ := h
    rfl
  · obtain ⟨p, d, a, b, c, e, rfl, hp, hd, he, q⟩ := h
    refine ⟨_, (pss_one (ps_ret (pe_tup (pa_cons (pe_op op_add (pe_ix ix_tup (pv 0) pe_int (fun _ _ => rfl)) (pe_op op_mul (pv 1) (pe_ix ix_tup (pv 0) pe_int (fun _ _ => rfl)))) (pa_cons (pe_op op_add (pe_ix ix_tup (pv 0) pe_int (fun _ _ => rfl)) (pe_ix ix_tup (pv 0) pe_int (fun _ _ => rfl))) pa_nil))))), ?_⟩
    refine ⟨_, rfl, p, _, 0, .int a, rfl, rfl, hp, atI_nat (j := 0) rfl, _, rfl, _, rfl, p, _, 3, .int e, rfl, rfl, hp, atI_nat (j := 3) rfl, d, e, rfl, rfl, .inl (by omega), a, _, rfl, rfl, _, rfl, p, _, 1, .int b, rfl, rfl, hp, atI_nat (j := 1) rfl, _, rfl, p, _, 2, .int c, rfl, rfl, hp, atI_nat (j := 2) rfl, b, c, rfl, rfl, by show 2 ≤ sizeLine; decide, fun r hr => ?_⟩
    exact q r _ hr (same_new hr) upd_same
theorem dV {x y : Int} : decide (V.int x = V.int y) = decide (x = y) := by
  by_cases h : x = y
  · rw [decide_eq_true h, h, decide_eq_true rfl]
  · rw [decide_eq_false h, decide_eq_false fun z => h (V.int.inj z)]
theorem wsum_bd {φ : Sh → Int} {B : Nat} : ∀ {es : DEs}, (∀ e ∈ es, (e.2.2 * φ e.1).natAbs ≤ B) → (wsum φ es).natAbs ≤ es.length * B
  | [], _ => by simp [wsum]
  | e :: es, h => by
    have h1 := h e List.mem_cons_self
    have h2 := wsum_bd (es := es) fun f hf => h f (List.mem_cons_of_mem _ hf)
    rw [wsum_cons, List.length_cons, Nat.succ_mul]
    omega
end
/-! ### list(d.values()), for dicts of sheets -/
def valsO (p d : Addr) : HO := .ext fun h => h.IsValuesView p d
section
variable {X : Cx}
theorem valsO_ok {P : Program} {w : World} {H : Hp} {h : Heap} {p d : Addr} (e : h.get? p = some { cls := .type "dict_values", data := .fields #[.ref d] }) : ObjOk P w H h p (valsO p d) := by
  refine ⟨⟨_, e, rfl, rfl⟩, ⟨_, e⟩, fun h1 h2 v k => ?_⟩
  obtain ⟨o, ho, r⟩ := v
  exact ⟨o, k o ho, r⟩
/-- d.values() -/
theorem pe_valuesDS {o : Expr} {apos cpos : Pos} {td : TE} (ho : PE X o td) (hb : attributeBase o "values" X.env (eval o X.env) = eval o X.env := by rfl) (hl : (apos.endLine == cpos.line) = true := by rfl) :
    PE X (.Call (.Attribute o "values" apos) [] [] cpos) (fun σ H Q => td σ H fun v G => ∃ d es, v = .ref d ∧ DAt X.prog X.w G d es ∧ ∀ p, G p = none → Q (.ref p) (upd G p (valsO p d))) := by
  constructor
  intro pins s σ H Q I h
  apply wpAny_Call_method0_late hb hl
  refine thn (ho.run pins s σ H _ I h) ?_
  rintro u s1 ⟨v, G, I1, rv, d, es, rfl, D, q⟩
  cases rv
  obtain ⟨t1, t2⟩ := ds_dict I1 D.rd
  have low := (ds_of I1.hok D.rd).1
  refine ⟨"dict", "dict.values", PySem.F.plainAttrs_dict, PySem.F.slot_dict_values, PySem.F.type_dict_values, t1, t2, Calls.callWith_builtin rfl (PySem.evalArgs_none (wpAny_call_entry PySem.F.slot_dict_values t1 PySem.F.entry_dict_values ?_ (PySem.F.args_dict_values_1 _)))⟩
  have made : EP X pins σ Q (.ref s1.heap.objs.size) { s1 with heap := s1.heap.push { cls := .type "dict_values", data := .fields #[.ref d] } } := ⟨.ref s1.heap.objs.size, _, I1.laid (t' := s1.toks) (fun b u z => Heap.get?_push_of_some _ z) (Nat.le_refl _) (valsO_ok (Heap.get?_push_size _ rfl)), rfl, q _ (I1.hok.fresh (Nat.le_refl _))⟩
  have bare : wpAny (model X.prog X.w) X.A.in1 (Builtin.Dict.noArgs "values" ⟨[.ref d], []⟩) (fun r s' => r = d ∧ s' = s1) X.xe s1 := by
    unfold Builtin.Dict.noArgs
    exact wpAny_bind (wpAny_notOrdered_dict t1 (wpAny_pure ⟨rfl, rfl⟩))
  have shows : Builtin.Dict.showsAll d = pure () := by
    unfold Builtin.Dict.showsAll
    rw [low]
    rfl
  refine wpAny_bind (m := Builtin.Dict.noArgs "values" ⟨[.ref d], []⟩) (wpAny_mono bare ?_ fun _ _ z => z)
  rintro r s' ⟨rfl, rfl⟩
  refine wpAny_bind (wpAny_of_eq shows ?_)
  exact wpAny_bind (wpAny_newObj_type (wpAny_pure ⟨_, rfl, made⟩))
def rListVals (P : Program) (w : World) : List V → Hp → VK → Prop := fun vs H Q => ∃ p d es, vs = [.ref p] ∧ H p = some (valsO p d) ∧ DAt P w H d es ∧ ∀ l, H l = none → Q (.ref l) (upd H l (.lst (es.map fun e => V.int e.2.2)))
theorem vals_by {es : DEs} {ys : List (NestedKey × Addr × Value)} {en : Array DictEntry} {acc : Array Value} {P : Program} {w : World} (he : en.toList = ys.map (entryOfKey (nestedKind P w))) (rel : Paired DRel es ys) (hl : acc.size = en.size)
    (hv : ∀ (j : Nat) (v : Value), acc[j]? = some v → ∃ hi : j < en.size, v = en[j].val) : Vals (es.map fun e => V.int e.2.2) acc.toList := by
  have hs := ds_size he rel
  refine Paired.byIx (by rw [List.length_map]; simp; omega) fun j a v h1 h2 => ?_
  rw [List.getElem?_map] at h1
  cases z : es[j]? with
  | none =>
    rw [z] at h1
    cases h1
  | some e =>
    rw [z] at h1
    cases h1
    obtain ⟨hi, rfl⟩ := hv j v (by simpa using h2)
    obtain ⟨hsh, u, h3, r3⟩ := ds_ent he rel z
    rw [Array.getElem?_eq_getElem hi] at h3
    rw [Option.some.inj h3]
    exact r3
theorem call_list_valuesDS (hc : X.calm = true) : CallR X (.type "list") (rListVals X.prog X.w) := by
  intro pins s σ H vs us Q I r q
  obtain ⟨p, d, es, rfl, hp, D, q⟩ := q
  obtain ⟨u, rfl, ru⟩ := r.one
  cases ru
  obtain ⟨hs, hz, ys, rel, o, en, ep, ho, hx, hdat, he, _⟩ := (I.hok d _ D.hd).1
  have view : s.heap.IsValuesView p d := (I.hok p _ hp).1
  have hsz := ds_size he rel
  refine PySem.W.kdl_call (KdlSrc.rawValues (es := en) (ep := ep)) (I.ok.hd hc) ⟨view, o, ho, hx, hdat⟩ (by omega) fun h' tk acc c kp e it => ?_
  refine ⟨.ref s.heap.objs.size, _, I.laid (t' := tk) (o := .lst (es.map fun e => V.int e.2.2)) kp (Nat.le_refl _) ?_, rfl, q _ (I.hok.fresh (Nat.le_refl _))⟩
  refine ⟨by rw [List.length_map]; exact hz, acc.toList, c, vals_by he rel it.1 fun j v hv => it.2 j v hv, by rw [Array.toArray_toList]; exact e⟩
end
/-! ### len(x), y in x, by own methods -/
section
variable {X : Cx} {CX : CXT} {n : Nat} {C g : Addr} {fd : FuncData} {ps : List Str} {sp : Sp} {E : XK}
def rLenO (C : Addr) (sp : Sp) (E : XK) : List V → Hp → VK → Prop := fun xs H Q => ∃ a dx fs, xs = [V.ref a] ∧ H a = some (.ins C dx fs) ∧ sp [.ref a] H (fun z H' => ∃ m : Nat, z = .int (m : Int) ∧ m ≤ 1000 ∧ Q (.int (m : Int)) H') E
theorem call_lenO (m : Meth X.K C "__len__" g) (F : FnOk X.prog X.w X.K X.mg X.base CX n g fd ps sp) (hr : Room (n + 1) X.A) (hb : Binds X.K fd ps []) (hx : Passes CX X E) : CallR X (.builtin "len") (rLenO C sp E) := by
  intro pins s σ H xs us Q I r h
  obtain ⟨a, dx, fs, rfl, ha, q⟩ := h
  obtain ⟨u, rfl, ru⟩ := r.one
  cases (show u = Value.ref a from ru)
  obtain ⟨ox, od, J⟩ := inst_of I ha
  have room : Room n X.A.in1 := Room.in1 hr
  refine Calls.call_function_entry kind_len plain_len entry_len (args_len1 _) ?_
  unfold Builtin.«len»
  refine wpAny_bind (m := oneArg "len" _) (wpAny_pure ?_)
  refine wpAny_bind (m := callSpecial? (.ref a) (Str.ofString "__len__")) (PySem.W.special_fn I.kIn J m.at_ (beq_iff_eq.mp m.fn) (wpAny_mono (run_in (us := [.ref a]) (ws := [.ref a]) F room I.env0.in1 hb hx I (.cons rfl .nil) q) ?_ fun _ _ z => z))
  rintro v s' ⟨z, G, I', rz, k, rfl, hk, qz⟩
  obtain ⟨t, rfl⟩ := rz
  refine wpAny_bind (wpAny_holding (wpAny_pure (wpAny_bind (wpAny_letGo ?_))))
  dsimp only
  rw [if_neg (show ¬ (k : Int) < 0 by omega), if_neg (show ¬ (k : Int) ≥ 2 ^ 63 by omega)]
  exact wpAny_bind (wpAny_mkInt (wpAny_pure ⟨_, rfl, .int (k : Int), G, I'.tok _, ⟨_, rfl⟩, qz⟩))
def rInO (C : Addr) (sp : Sp) (E : XK) : R2 := fun y x H Q => ∃ a dx fs, x = .ref a ∧ H a = some (.ins C dx fs) ∧ sp [x, y] H (fun z H' => ∃ k, z = .bl k ∧ Q (.bl k) H') E
theorem op_inO (m : Meth X.K C "__contains__" g) (F : FnOk X.prog X.w X.K X.mg X.base CX n g fd ps sp) (hr : Room n X.A) (hb : Binds X.K fd ps []) (hx : Passes CX X E) : OpR X (compareOp .In) (rInO C sp E) := by
  intro pins s σ H y x v u Q I ry rx h
  obtain ⟨a, dx, fs, rfl, ha, q⟩ := h
  cases (show u = Value.ref a from rx)
  obtain ⟨ox, od, J⟩ := inst_of I ha
  have ran := run_in (us := [.ref a, v]) (ws := [.ref a, y]) F hr I.env0 hb hx I (.cons rfl (.cons ry .nil)) q
  have found : wpAny (model X.prog X.w) X.A (contains (.ref a) v) (fun k s' => EP X pins σ Q (.bool k) s') X.xe s := by
    unfold contains
    refine wpAny_holding ?_
    have no : stdlibNamesSay? (.ref a) v = none := by
      unfold stdlibNamesSay?
      rfl
    rw [no]
    dsimp only
    unfold specialOf
    refine wpAny_bind (wpAny_bind (J.type.here ((PySem.W.looks_findIn I.kIn m.at_).here ?_)))
    have some_ : ¬ (some (Value.ref g) == some Value.none) = true := fun z => by cases z
    rw [if_neg some_]
    unfold callSpecialUnlessNone? specialOf
    refine wpAny_bind (wpAny_bind (wpAny_bind (J.type.here ((PySem.W.looks_findIn I.kIn m.at_).here (wpAny_holding (wpAny_bind ((PySem.W.bind_fn I.kIn _ (beq_iff_eq.mp m.fn)).here ?_)))))))
    dsimp only
    have ref_ : ¬ (Value.ref g == Value.none) = true := fun z => by cases z
    rw [if_neg ref_]
    refine wpAny_bind (wpAny_mono ran ?_ fun _ _ z => z)
    rintro w s' ⟨z, G, I', rz, k, rfl, qz⟩
    cases (show w = Value.bool k from rz)
    exact wpAny_pure (wpAny_pure ⟨.bl k, G, I', rfl, qz⟩)
  exact wpAny_bind (wpAny_mono found (fun k s' z => wpAny_pure z) fun _ _ z => z)
end
/-! ### what a heap tells -/
section
variable {base : Heap} {K : PySem.W.Frag} {mg : Str → Option Value} {P : Program} {w : World}
def one1 (_ : Sh) : Int := 1
theorem sum_vals : ∀ es : DEs, (es.map fun e => e.2.2).sum = wsum one1 es
  | [] => rfl
  | e :: es => by
    rw [List.map_cons, List.sum_cons, sum_vals es, wsum_cons]
    unfold one1
    omega
def spMany (P : Program) (w : World) (C : Addr) : Sp := fun vs H Q _ => ∃ (p : Addr) (d : Int) (es : DEs), vs = [.ref p] ∧ HeapAt P w C H p d es ∧ ∀ H', Same H H' → Q (.int (wsum one1 es)) H'
theorem ok_Heap_many (T : Txt K mg) : FnOk P w K mg base CX0 1 T.f_Heap_many T.d_Heap_many ["self"] (spMany P w T.C_Heap) := by
  refine T.F_Heap_many.ok sc_Heap_many (fun vs H Q E h => ?_) (fun cdv A outer s H vs Q E hr h => ?_)
  · obtain ⟨p, d, es, rfl, _⟩ := h
    rfl
  · obtain ⟨p, d, es, rfl, ⟨dx, c, hp, D⟩, q⟩ := h
    refine ⟨_, (pss_one (ps_ret (pe_callB (cr_sum rfl) (by rfl) T.n_sum (by decide +kernel) (pa_cons (pe_callTy (call_list_valuesDS rfl) (by rfl) T.n_list (by decide +kernel) (pa_cons (pe_valuesDS (pe_fld (pv 0) rfl)) pa_nil)) pa_nil)))), ?_⟩
    refine ⟨_, rfl, p, T.C_Heap, dx, _, _, rfl, hp, T.cl_Heap, T.n_Heap_copies, rfl, c, es, rfl, D, fun v hv => ?_⟩
    have e1 := same_new (o := valsO v c) hv
    refine ⟨v, c, es, rfl, upd_same, D.same e1, fun l hl => ?_⟩
    have e2 := same_new (o := .lst (es.map fun e => V.int e.2.2)) hl
    refine ⟨l, es.map fun e => e.2.2, rfl, SqL.of (by rw [upd_same, List.map_map]; rfl), ?_⟩
    rw [sum_vals]
    exact q _ (e1.trans e2)
def spHBool (P : Program) (w : World) (C : Addr) : Sp := fun vs H Q _ => ∃ (p : Addr) (d : Int) (es : DEs), vs = [.ref p] ∧ HeapAt P w C H p d es ∧ Q (.bl (!es.isEmpty)) H
theorem ok_Heap_bool (T : Txt K mg) : FnOk P w K mg base CX0 1 T.f_Heap_bool T.d_Heap_bool ["self"] (spHBool P w T.C_Heap) := by
  refine T.F_Heap_bool.ok sc_Heap_bool (fun vs H Q E h => ?_) (fun cdv A outer s H vs Q E hr h => ?_)
  · obtain ⟨p, d, es, rfl, _⟩ := h
    rfl
  · obtain ⟨p, d, es, rfl, ⟨dx, c, hp, D⟩, q⟩ := h
    exact ⟨_, (pss_one (ps_ret (pe_callTy call_bool_DS (by rfl) T.n_bool (by decide +kernel) (pa_cons (pe_fld (pv 0) rfl) pa_nil)))), _, rfl, p, T.C_Heap, dx, _, _, rfl, hp, T.cl_Heap, T.n_Heap_copies, rfl, c, es, rfl, D.rd, q⟩
def spHEq (P : Program) (w : World) (C : Addr) : Sp := fun vs H Q _ => ∃ (p q : Addr) (d d' : Int) (es fs : DEs), vs = [.ref p, .ref q] ∧ HeapAt P w C H p d es ∧ HeapAt P w C H q d' fs ∧ Q (.bl (decide (d = d') && eqD es fs)) H
theorem ok_Heap_eq (T : Txt K mg) : FnOk P w K mg base CX0 1 T.f_Heap_eq T.d_Heap_eq ["self", "other"] (spHEq P w T.C_Heap) := by
  refine T.F_Heap_eq.ok sc_Heap_eq (fun vs H Q E h => ?_) (fun cdv A outer s H vs Q E hr h => ?_)
  · obtain ⟨p, q, d, d', es, fs, rfl, _⟩ := h
    rfl
  · obtain ⟨p, q, d, d', es, fs, rfl, ⟨dx, c, hp, D⟩, ⟨dy, c', hq, D'⟩, k⟩ := h
    refine ⟨_, (pss_one (ps_ret (pe_and (pe_callB call_isi (by rfl) T.n_isinstance (by decide +kernel) (pa_cons (pv 1) (pa_cons (pe_glob (v := .ref T.C_Heap) (by rfl) T.g_Heap rfl) pa_nil))) (pe_and (pe_cmpR op_eq (pe_fld (pv 0) rfl) (pe_fld (pv 1) rfl) (nomark _)) (pe_one (pe_cmpR (op_eqDS hr.units) (pe_fld (pv 0) rfl) (pe_fld (pv 1) rfl) (nomark _))))))), ?_⟩
    refine ⟨_, rfl, .ref q, .ref T.C_Heap, .ref T.C_Heap, .ref T.C_Heap, true, rfl, ClsV.own _, TyX.base (TyOf.ins hq T.cl_Heap T.ca_Heap T.hn T.ht T.mo_Heap), by simp [PySem.W.kitOne], true, rfl, iteT ?_⟩
    refine ⟨_, rfl, p, T.C_Heap, dx, _, _, rfl, hp, T.cl_Heap, T.n_Heap_held_root, rfl, _, rfl, q, T.C_Heap, dy, _, _, rfl, hq, T.cl_Heap, T.n_Heap_held_root, rfl, rfl, decide (d = d'), (by rw [dV]), ?_⟩
    cases z : decide (d = d') with
    | false =>
      rw [z, Bool.false_and] at k
      exact iteF k
    | true =>
      rw [z, Bool.true_and] at k
      exact iteT ⟨_, rfl, p, T.C_Heap, dx, _, _, rfl, hp, T.cl_Heap, T.n_Heap_copies, rfl, _, rfl, q, T.C_Heap, dy, _, _, rfl, hq, T.cl_Heap, T.n_Heap_copies, rfl, c, c', es, fs, rfl, rfl, D.rd, D'.rd, k⟩
end
/-- the pairs F 0, F 1, .. at xs, in a heap -/
def Rows (H : Hp) (F : Nat → Int × Int) (xs : List Addr) : Prop := ∀ (i : Nat) (x : Addr), xs[i]? = some x → H x = some (.tup [.int (F i).1, .int (F i).2])
/-- two pairs in a new tuple -/
def NewTwo (H : Hp) (a b c d : Int) (Q : VK) : Prop := ∀ t e f H', H t = none → Same H H' → H' t = some (.tup [.ref e, .ref f]) → H' e = some (.tup [.int a, .int b]) → H' f = some (.tup [.int c, .int d]) → Q (.ref t) H'
theorem tP_abs (n p : Int) : (tP n p).natAbs = p.natAbs := by
  unfold tP
  split <;> omega
theorem tQ_abs (n p : Int) : (tQ n p).natAbs = p.natAbs := by
  unfold tQ
  split <;> omega
/-! ### the law's own fractions -/
section
variable {base : Heap} {K : PySem.W.Frag} {mg : Str → Option Value} {P : Program} {w : World}
def NewRows (H : Hp) (F : Nat → Int × Int) (cnt : Nat) (Q : VK) : Prop := ∀ (S : Addr) (xs : List Addr) (H' : Hp), H S = none → Same H H' → H' S = some (.lst (xs.map V.ref)) → xs.length = cnt → Rows H' F xs → Q (.ref S) H'
def spLFrac : Sp := fun vs H Q _ => ∃ (r v : Int) (cnt : Nat), vs = [.int r, .int cnt] ∧ 2 ≤ r ∧ r ≤ 99 ∧ isW r v ∧ cnt ≤ 1000 ∧ NewRows H (cfF r v) cnt Q
theorem ok_lfractions (T : Txt K mg) : FnOk P w K mg base CX0 1 T.f_lfractions T.d_lfractions ["_law_root_z", "_law_count"] spLFrac := by
  refine T.F_lfractions.ok sc_lfractions (fun vs H Q E h => ?_) (fun cdv A outer s H vs Q E hr h => ?_)
  · obtain ⟨r, v, cnt, rfl, _⟩ := h
    rfl
  · obtain ⟨r, v, cnt, rfl, r2, r99, hw, hc, q⟩ := h
    refine ⟨_, (pss_cons (ps_set (i := 2) sc_lfractions.nd rfl (Or.inl rfl) pe_int)
      (pss_cons (ps_while PassesOwn.never (pt_cmpR op_le (pe_op op_mul (pe_op op_add (pv 2) pe_int) (pe_op op_add (pv 2) pe_int)) (pv 0) (nomark _)) (pss_one (ps_set (i := 2) sc_lfractions.nd rfl (Or.inl rfl) (pe_op op_add (pv 2) pe_int))))
      (pss_cons (ps_asg (pe_tup (pa_cons pe_int (pa_cons pe_int (pa_cons (pv 2) (pa_cons (pe_tup (pa_cons pe_int (pa_cons pe_int pa_nil))) (pa_cons (pe_tup (pa_cons pe_int (pa_cons pe_int pa_nil))) (pa_cons (pe_lst pa_nil) pa_nil))))))) (pg_tup (by rfl) (pgs_cons (pg_name (i := 4) sc_lfractions.nd rfl (Or.inl rfl)) (pgs_cons (pg_name (i := 5) sc_lfractions.nd rfl (Or.inl rfl)) (pgs_cons (pg_name (i := 6) sc_lfractions.nd rfl (Or.inl rfl)) (pgs_cons (pg_name (i := 7) sc_lfractions.nd rfl (Or.inl rfl)) (pgs_cons (pg_name (i := 8) sc_lfractions.nd rfl (Or.inl rfl)) (pgs_cons (pg_name (i := 9) sc_lfractions.nd rfl (Or.inl rfl)) pgs_nil))))))))
      (pss_cons (ps_for PassesOwn.never rfl (pi_range1 (by rfl) T.n_range (pa_cons (pv 1) pa_nil)) (pg_name (i := 3) sc_lfractions.nd rfl (Or.inl rfl)) (pss_cons (ps_set (i := 10) sc_lfractions.nd rfl (Or.inl rfl) (pe_tup (pa_cons (pe_op op_add (pe_op op_mulW (pv 6) (pe_ix ix_tup (pv 7) pe_int (fun _ _ => rfl))) (pe_ix ix_tup (pv 8) pe_int (fun _ _ => rfl))) (pa_cons (pe_op op_add (pe_op op_mulW (pv 6) (pe_ix ix_tup (pv 7) pe_int (fun _ _ => rfl))) (pe_ix ix_tup (pv 8) pe_int (fun _ _ => rfl))) pa_nil))))
      (pss_cons (ps_par (i := 7) (j := 8) (by rfl) sc_lfractions.nd rfl rfl (by decide) rfl rfl (pa_cons (pv 10) (pa_cons (pv 7) pa_nil)) (by rfl))
      (pss_cons (ps_expr (pe_bm PySem.F.plainAttrs_list PySem.F.slot_list_append PySem.F.type_list_append mt_append (pv 9) (pa_cons (pv 10) pa_nil)))
      (pss_cons (ps_set (i := 4) sc_lfractions.nd rfl (Or.inl rfl) (pe_op op_sub (pe_op op_mul (pv 5) (pv 6)) (pv 4)))
      (pss_cons (ps_set (i := 5) sc_lfractions.nd rfl (Or.inl rfl) (pe_op op_fdiv (pe_op op_sub (pv 0) (pe_op op_mul (pv 4) (pv 4))) (pv 5)))
      (pss_one (ps_set (i := 6) sc_lfractions.nd rfl (Or.inl rfl) (pe_op op_fdiv (pe_op op_add (pv 2) (pv 4)) (pv 5))))))))))
      (pss_one (ps_ret (pv 9))))))), ?_⟩
    obtain ⟨v0, v1, v2⟩ := id hw
    have v9 : v ≤ 9 := by
      rcases Int.lt_or_le 9 v with z | z
      · have := Int.mul_le_mul (show (10 : Int) ≤ v by omega) (show (10 : Int) ≤ v by omega) (by decide) (by omega)
        omega
      · exact z
    refine ⟨fun m σ H' => ∃ g : Int, σ = [some (.int r), some (.int cnt), some (.int g), none, none, none, none, none, none, none, none] ∧ H' = H ∧ 0 ≤ g ∧ g ≤ v ∧ m = (v - g).toNat, ⟨_, 0, rfl, rfl, Int.le_refl _, v0, rfl⟩, ?_⟩
    rintro m σ H' ⟨g, rfl, rfl, g0, g1, rfl⟩
    refine ⟨_, rfl, g, 1, rfl, rfl, _, rfl, g, 1, rfl, rfl, _, _, rfl, rfl, .inl ⟨by omega, by omega⟩, _, rfl, _, _, rfl, rfl, _, rfl, ite2 (fun e => ?_) (fun e => ?_)⟩
    · have e' : (g + 1) * (g + 1) ≤ r := of_decide_eq_true e
      have lt : g < v := by
        rcases Int.lt_or_le g v with z | z
        · exact z
        · have := Int.mul_le_mul (show v + 1 ≤ g + 1 by omega) (show v + 1 ≤ g + 1 by omega) (by omega) (by omega)
          omega
      exact ⟨fun σ' H'' => ∃ m', m' < (v - g).toNat ∧ ∃ g : Int, σ' = [some (.int r), some (.int cnt), some (.int g), none, none, none, none, none, none, none, none] ∧ H'' = H' ∧ 0 ≤ g ∧ g ≤ v ∧ m' = (v - g).toNat, fun _ _ z => z, _, rfl, g, 1, rfl, rfl, _, (by omega : (v - (g + 1)).toNat < (v - g).toNat), g + 1, rfl, rfl, by omega, by omega, rfl⟩
    · have e' : ¬ (g + 1) * (g + 1) ≤ r := fun z => e (decide_eq_true z)
      have gv : g = v := by
        rcases Int.lt_or_le g v with z | z
        · exfalso
          have := Int.mul_le_mul (show g + 1 ≤ v by omega) (show g + 1 ≤ v by omega) (by omega) v0
          omega
        · omega
      subst gv
      clear e e'
      refine ⟨_, rfl, by show 2 ≤ sizeLine; decide, fun l0 n1 => ⟨by show 2 ≤ sizeLine; decide, fun b0 n2 => ⟨by show 0 ≤ sizeLine; decide, fun S nS => ⟨by show 6 ≤ sizeLine; decide, fun t nt => ?_⟩⟩⟩⟩
      have d1 := same_new (o := .tup [.int 1, .int 0]) n1
      have d2 := same_new (o := .tup [.int 0, .int 1]) n2
      have d3 := same_new (o := .lst []) nS
      have d4 := same_new (o := .tup [.int 0, .int 1, .int g, .ref l0, .ref b0, .ref S]) nt
      have fS : H' S = none := (d1.trans d2).free nS
      refine ⟨t, _, rfl, SqT.of upd_same, rfl, .int 0, _, rfl, .int 1, _, rfl, .int g, _, rfl, .ref l0, _, rfl, .ref b0, _, rfl, .ref S, _, rfl, rfl, ?_⟩
      refine ⟨_, rfl, (cnt : Int), rfl, by omega, by omega, for_range (lo := 0) (n := cnt) (fun i σ G => ∃ y3 y10 lx bx xs, σ = [some (.int r), some (.int cnt), some (.int g), y3, some (.int (cfS r g i).1), some (.int (cfS r g i).2.1), some (.int (cfS r g i).2.2), some (.ref lx), some (.ref bx), some (.ref S), y10] ∧ Same H' G ∧
        G lx = some (.tup [.int (cfR r g i).1.1, .int (cfR r g i).1.2]) ∧ G bx = some (.tup [.int (cfR r g i).2.1, .int (cfR r g i).2.2]) ∧ G S = some (.lst (xs.map V.ref)) ∧ xs.length = i ∧ Rows G (cfF r g) xs) ⟨none, none, l0, b0, [], rfl, d1.trans (d2.trans (d3.trans d4)), (d2.trans (d3.trans d4)) _ _ upd_same, (d3.trans d4) _ _ upd_same, d4 _ _ upd_same, rfl, fun i x e => by simp at e⟩ ?_ ?_⟩
      · rintro i σ G hi ⟨y3, y10, lx, bx, xs, rfl, sG, hl, hb, hS, lx', rows⟩
        obtain ⟨⟨b1, b2, b3, b4⟩, c1, c2, c3, c4⟩ := cf_bound r2 r99 hw i
        obtain ⟨m1, m2, t1, t2, k1, k2⟩ := cf_num r2 r99 hw i
        obtain ⟨m1', m2', t1', t2', k1', k2'⟩ := cf_num r2 r99 hw (i + 1)
        have kb : (cfS r g i).2.2.natAbs < 2 ^ 9000 := Nat.lt_of_le_of_lt (show (cfS r g i).2.2.natAbs ≤ 18 by omega) (Nat.lt_of_lt_of_le (show 18 < 2 ^ 5 by decide) (Nat.pow_le_pow_right (by decide) (by decide)))
        refine ⟨_, rfl, _, rfl, lx, _, 0, _, rfl, rfl, SqT.of hl, atI_nat (j := 0) rfl, _, _, rfl, rfl, wide_mul kb (two5000 b1 c1 (by omega)) (by decide) (by decide) (by decide), _, rfl, bx, _, 0, _, rfl, rfl, SqT.of hb, atI_nat (j := 0) rfl, _, _, rfl, rfl,
          _, rfl, _, rfl, lx, _, 1, _, rfl, rfl, SqT.of hl, atI_nat (j := 1) rfl, _, _, rfl, rfl, wide_mul kb (two5000 b2 c2 (by omega)) (by decide) (by decide) (by decide), _, rfl, bx, _, 1, _, rfl, rfl, SqT.of hb, atI_nat (j := 1) rfl, _, _, rfl, rfl, by show 2 ≤ sizeLine; decide, fun x nx => ?_⟩
        have q1 : (cfS r g i).2.2 * (cfR r g i).1.1 + (cfR r g i).2.1 = (cfF r g i).1 := by
          show _ = (cfR r g i).1.1 * (cfS r g i).2.2 + (cfR r g i).2.1
          rw [Int.mul_comm]
        have q2 : (cfS r g i).2.2 * (cfR r g i).1.2 + (cfR r g i).2.2 = (cfF r g i).2 := by
          show _ = (cfR r g i).1.2 * (cfS r g i).2.2 + (cfR r g i).2.2
          rw [Int.mul_comm]
        have dx := same_new (o := .tup [.int ((cfS r g i).2.2 * (cfR r g i).1.1 + (cfR r g i).2.1), .int ((cfS r g i).2.2 * (cfR r g i).1.2 + (cfR r g i).2.2)]) nx
        have hx : (upd G x (.tup [.int ((cfS r g i).2.2 * (cfR r g i).1.1 + (cfR r g i).2.1), .int ((cfS r g i).2.2 * (cfR r g i).1.2 + (cfR r g i).2.2)])) x = some (.tup [.int (cfF r g i).1, .int (cfF r g i).2]) := by
          rw [q1, q2]
          exact upd_same
        have hS' := dx _ _ hS
        have ne : ∀ {p : Addr} {ys : List V}, (upd G x (.tup [.int ((cfS r g i).2.2 * (cfR r g i).1.1 + (cfR r g i).2.1), .int ((cfS r g i).2.2 * (cfR r g i).1.2 + (cfR r g i).2.2)])) p = some (.tup ys) → p ≠ S := fun z e => by
          rw [e, hS'] at z
          cases z
        refine ⟨_, rfl, _, rfl, _, _, rfl, _, rfl, .inl ⟨rfl, _, SqL.of hS'⟩, _, rfl, S, _, _, rfl, rfl, hS', ?_, ?_⟩
        · rw [List.length_map, lx']
          exact small1000 (by omega)
        have f1 : 0 ≤ (cfS r g i).2.1 * (cfS r g i).2.2 - (cfS r g i).1 ∧ (cfS r g i).2.1 * (cfS r g i).2.2 - (cfS r g i).1 ≤ 9 := ⟨m1', m2'⟩
        have f2 : 1 ≤ (r - ((cfS r g i).2.1 * (cfS r g i).2.2 - (cfS r g i).1) * ((cfS r g i).2.1 * (cfS r g i).2.2 - (cfS r g i).1)) / (cfS r g i).2.1 ∧ (r - ((cfS r g i).2.1 * (cfS r g i).2.2 - (cfS r g i).1) * ((cfS r g i).2.1 * (cfS r g i).2.2 - (cfS r g i).1)) / (cfS r g i).2.1 ≤ 99 := ⟨t1', t2'⟩
        refine ⟨_, rfl, _, rfl, _, _, rfl, rfl, .inl ⟨by omega, by omega⟩, _, rfl, _, _, rfl, rfl, _, rfl, _, rfl, _, rfl, _, _, rfl, rfl, .inl ⟨by omega, by omega⟩, _, _, rfl, rfl, _, rfl, _, _, rfl, rfl, ⟨by omega, by omega⟩, _, rfl, _, rfl, _, _, rfl, rfl, _, rfl, _, _, rfl, rfl, ⟨by omega, by omega⟩, ?_⟩
        refine ⟨_, _, x, lx, xs ++ [x], rfl, fun p o e => ?_, (upd_ne (ne hx)).trans hx, (upd_ne (ne (dx _ _ hl))).trans (dx _ _ hl), ?_, by rw [List.length_append, lx']; rfl, fun j y e => ?_⟩
        · exact (upd_ne (ne_of_none e fS)).trans (dx _ _ (sG _ _ e))
        · rw [upd_same, List.map_append]
          rfl
        · rw [List.getElem?_append] at e
          split at e
          · have z := dx _ _ (rows j y e)
            exact (upd_ne (ne z)).trans z
          · have j0 : j - xs.length = 0 := by
              cases z : j - xs.length with
              | zero => rfl
              | succ j' => rw [z] at e; cases e
            rw [j0] at e
            cases e
            rw [show j = i by omega]
            exact (upd_ne (ne hx)).trans hx
      · rintro σ G ⟨y3, y10, lx, bx, xs, rfl, sG, hl, hb, hS, lx', rows⟩
        exact ⟨_, rfl, q S xs G fS sG hS lx' rows⟩
end
/-! ### the law's own tile lengths -/
section
variable {base : Heap} {K : PySem.W.Frag} {mg : Str → Option Value} {P : Program} {w : World}
/-- the i-th tile length behind the n-th -/
def tileF (r v : Int) (n i : Nat) : Int × Int := (tP ((n : Int) + (i : Int)) (cfF r v (n + i)).1, tQ ((n : Int) + (i : Int)) (cfF r v (n + i)).2)
theorem rows_add {H : Hp} {F : Nat → Int × Int} {xs : List Addr} {x : Addr} (rows : Rows H F xs) (hx : H x = some (.tup [.int (F xs.length).1, .int (F xs.length).2])) : Rows H F (xs ++ [x]) := by
  intro j y e
  rw [List.getElem?_append] at e
  split at e
  · exact rows j y e
  · have j0 : j - xs.length = 0 := by
      cases z : j - xs.length with
      | zero => rfl
      | succ j' => rw [z] at e; cases e
    rw [j0] at e
    cases e
    rw [show j = xs.length by omega]
    exact hx
theorem rows_tup {H : Hp} {F : Nat → Int × Int} {xs : List Addr} {S : Addr} {ys : List V} (rows : Rows H F xs) (hS : ∀ zs, H S ≠ some (.tup zs)) : Rows (upd H S (.lst ys)) F xs := by
  intro j y e
  have z := rows j y e
  exact (upd_ne (fun e => hS _ (e ▸ z))).trans z
def spLPair : Sp := fun vs H Q _ => ∃ (r v : Int) (n : Nat), vs = [.int r, .int n] ∧ 2 ≤ r ∧ r ≤ 99 ∧ isW r v ∧ n ≤ 400 ∧ NewTwo H (tP n (cfF r v n).1) (tQ n (cfF r v n).2) (tP ((n : Int) + 1) (cfF r v (n + 1)).1) (tQ ((n : Int) + 1) (cfF r v (n + 1)).2) Q
theorem ok_tile_pair (T : Txt K mg) : FnOk P w K mg base CX0 2 T.f_tile_pair T.d_tile_pair ["_law_root_z", "_law_number"] spLPair := by
  refine T.F_tile_pair.ok sc_tile_pair (fun vs H Q E h => ?_) (fun cdv A outer s H vs Q E hr h => ?_)
  · obtain ⟨r, v, n, rfl, _⟩ := h
    rfl
  · obtain ⟨r, v, n, rfl, r2, r99, hw, hn, q⟩ := h
    refine ⟨_, (pss_cons (ps_set (i := 2) sc_tile_pair.nd rfl (Or.inl rfl) (pe_lst pa_nil))
      (pss_cons (ps_for PassesOwn.never rfl (pi_tup (pe_tup (pa_cons (pv 1) (pa_cons (pe_op op_add (pv 1) pe_int) pa_nil)))) (pg_name (i := 3) sc_tile_pair.nd rfl (Or.inl rfl)) (pss_cons (ps_asg (pe_ix ix_list (pe_call (ok_lfractions T) (hr.mono (by decide)) (by rfl) T.g_lfractions T.F_lfractions.kp T.b_lfractions .nil pass0 (pa_cons (pv 0) (pa_cons (pe_op op_add (pv 3) pe_int) pa_nil))) (pv 3) (fun _ _ => rfl)) (pg_tup (by rfl) (pgs_cons (pg_name (i := 4) sc_tile_pair.nd rfl (Or.inl rfl)) (pgs_cons (pg_name (i := 5) sc_tile_pair.nd rfl (Or.inl rfl)) pgs_nil))))
      (pss_one (ps_expr (pe_bm PySem.F.plainAttrs_list PySem.F.slot_list_append PySem.F.type_list_append mt_append (pv 2) (pa_cons (pe_ifExp (pt_cmpR op_eq (pe_op op_mod (pv 3) pe_int) pe_int (nomark _)) (pe_tup (pa_cons (pe_op op_sub pe_int (pv 4)) (pa_cons (pv 5) pa_nil))) (pe_tup (pa_cons (pv 4) (pa_cons (pe_op op_sub pe_int (pv 5)) pa_nil)))) pa_nil))))))
      (pss_one (ps_ret (pe_tup (pa_cons (pe_ix ix_list (pv 2) pe_int (fun _ _ => rfl)) (pa_cons (pe_ix ix_list (pv 2) pe_int (fun _ _ => rfl)) pa_nil))))))), ?_⟩
    refine ⟨by show 0 ≤ sizeLine; decide, fun S nS => ⟨_, rfl, _, rfl, (n : Int), 1, rfl, rfl, by show 2 ≤ sizeLine; decide, fun t nt => ?_⟩⟩
    have d1 := same_new (o := .lst []) nS
    have d2 := same_new (o := .tup [.int n, .int ((n : Int) + 1)]) nt
    refine ⟨t, rfl, ⟨_, SqT.of upd_same⟩, for_tup (K := K) (a := t) (xs := [.int n, .int ((n : Int) + 1)]) (fun i σ G => ∃ y3 y4 y5 xs, σ = [some (.int r), some (.int n), some (.ref S), y3, y4, y5] ∧ Same H G ∧ G t = some (.tup [.int n, .int ((n : Int) + 1)]) ∧ G S = some (.lst (xs.map V.ref)) ∧ xs.length = i ∧ Rows G (tileF r v n) xs)
      ⟨none, none, none, [], rfl, d1.trans d2, upd_same, d2 _ _ upd_same, rfl, fun i x e => by simp at e⟩ (fun i σ G _ ⟨_, _, _, _, _, _, z, _⟩ => SqT.of z) ?_ ?_⟩
    · rintro i x σ G hx ⟨y3, y4, y5, xs, rfl, sG, hT, hS, lx, rows⟩
      have i2 : i < 2 := by
        rcases Nat.lt_or_ge i 2 with z | z
        · exact z
        · rw [List.getElem?_eq_none (by exact z)] at hx
          cases hx
      obtain rfl : x = .int ((n : Int) + (i : Int)) := by
        match i, i2, hx with
        | 0, _, hx => cases hx; rw [Int.natCast_zero, Int.add_zero]
        | 1, _, hx => cases hx; rfl
      refine ⟨_, rfl, _, rfl, _, _, rfl, rfl, r, v, n + i + 1, by simp, r2, r99, hw, by omega, fun S2 zs H1 nS2 s1 hS2 lz zrows => ?_⟩
      have l0 : n + i < zs.length := by omega
      have g0 : (zs.map V.ref)[n + i]? = some (.ref zs[n + i]) := by rw [List.getElem?_map, List.getElem?_eq_getElem l0]; rfl
      have h0 := zrows (n + i) _ (List.getElem?_eq_getElem l0)
      refine ⟨_, rfl, S2, _, ((n : Int) + (i : Int)), _, rfl, rfl, SqL.of hS2, by rw [show (n : Int) + (i : Int) = ((n + i : Nat) : Int) by omega]; exact atI_nat g0, zs[n + i], _, rfl, SqT.of h0, rfl, .int _, _, rfl, .int _, _, rfl, rfl, ?_⟩
      have hS1 := s1 _ _ hS
      have key : ∀ p G2, G2 = upd H1 p (.tup [.int (tileF r v n i).1, .int (tileF r v n i).2]) → H1 p = none → (∃ ys, G2 S = some (.lst ys) ∧ ys.length + 1 ≤ sizeLine ∧ ∃ y3 y4 y5 xs', [some (.int r), some (.int n), some (.ref S), some (.int ((n : Int) + (i : Int))), some (.int (cfF r v (n + i)).1), some (.int (cfF r v (n + i)).2)] = [some (V.int r), some (.int n), some (.ref S), y3, y4, y5] ∧ Same H (upd G2 S (.lst (ys ++ [.ref p]))) ∧ (upd G2 S (.lst (ys ++ [.ref p]))) t = some (.tup [.int n, .int ((n : Int) + 1)]) ∧ (upd G2 S (.lst (ys ++ [.ref p]))) S = some (.lst (xs'.map V.ref)) ∧ xs'.length = i + 1 ∧ Rows (upd G2 S (.lst (ys ++ [.ref p]))) (tileF r v n) xs') := by
        rintro p G2 rfl np
        have dx := same_new (o := .tup [.int (tileF r v n i).1, .int (tileF r v n i).2]) np
        have hS' := dx _ _ hS1
        have hl : ∀ zs, (upd H1 p (.tup [.int (tileF r v n i).1, .int (tileF r v n i).2])) S ≠ some (.tup zs) := fun zs z => by
          rw [hS'] at z
          cases z
        have hT' := dx _ _ (s1 _ _ hT)
        have rows' : Rows (upd H1 p (.tup [.int (tileF r v n i).1, .int (tileF r v n i).2])) (tileF r v n) (xs ++ [p]) := rows_add (fun j y e => dx _ _ (s1 _ _ (rows j y e))) (by rw [lx]; exact upd_same)
        refine ⟨_, hS', by rw [List.length_map, lx]; exact small1000 (by omega), _, _, _, xs ++ [p], rfl, fun a o e => ?_, (upd_ne (fun e => hl _ (e ▸ hT'))).trans hT', ?_, by rw [List.length_append, lx]; rfl, rows_tup rows' hl⟩
        · exact (upd_ne (ne_of_none e nS)).trans (dx _ _ (s1 _ _ (sG _ _ e)))
        · rw [upd_same, List.map_append]
          rfl
      refine ⟨_, rfl, .inl ⟨rfl, _, SqL.of hS1⟩, _, rfl, (n : Int) + (i : Int), 2, rfl, rfl, (by show (0 : Int) < 2; decide), rfl, _, rfl, ite2 (fun e => ?_) (fun e => ?_)⟩
      · have z : ((n : Int) + (i : Int)) % 2 = 0 := V.int.inj (of_decide_eq_true e)
        refine ⟨_, rfl, 0, _, rfl, rfl, _, rfl, by show 2 ≤ sizeLine; decide, fun x nx => ?_⟩
        obtain ⟨ys, hy, sz, k⟩ := key x (upd H1 x (.tup [.int (0 - (cfF r v (n + i)).1), .int (cfF r v (n + i)).2])) (by unfold tileF tP tQ; rw [if_pos z, if_pos z, Int.zero_sub]) nx
        exact ⟨S, ys, _, rfl, rfl, hy, sz, k⟩
      · have z : ¬ ((n : Int) + (i : Int)) % 2 = 0 := fun z => e (decide_eq_true (congrArg V.int z))
        refine ⟨_, rfl, _, rfl, 0, _, rfl, rfl, by show 2 ≤ sizeLine; decide, fun x nx => ?_⟩
        obtain ⟨ys, hy, sz, k⟩ := key x (upd H1 x (.tup [.int (cfF r v (n + i)).1, .int (0 - (cfF r v (n + i)).2)])) (by unfold tileF tP tQ; rw [if_neg z, if_neg z, Int.zero_sub]) nx
        exact ⟨S, ys, _, rfl, rfl, hy, sz, k⟩
    · rintro σ G ⟨y3, y4, y5, xs, rfl, sG, hT, hS, lx, rows⟩
      have l0 : 0 < xs.length := by rw [lx]; exact Nat.succ_pos _
      have l1 : 1 < xs.length := by rw [lx]; exact Nat.lt_succ_self 1
      have g0 : (xs.map V.ref)[0]? = some (.ref xs[0]) := by rw [List.getElem?_map, List.getElem?_eq_getElem l0]; rfl
      have g1 : (xs.map V.ref)[1]? = some (.ref xs[1]) := by rw [List.getElem?_map, List.getElem?_eq_getElem l1]; rfl
      have h0 := rows 0 _ (List.getElem?_eq_getElem l0)
      have h1 := rows 1 _ (List.getElem?_eq_getElem l1)
      unfold tileF at h0 h1
      rw [Int.natCast_zero, Int.add_zero] at h0
      refine ⟨_, rfl, S, _, 0, _, rfl, rfl, SqL.of hS, atI_nat (j := 0) g0, _, rfl, S, _, 1, _, rfl, rfl, SqL.of hS, atI_nat (j := 1) g1, by show 2 ≤ sizeLine; decide, fun u nu => ?_⟩
      have du := same_new (o := .tup [.ref xs[0], .ref xs[1]]) nu
      exact q u _ _ _ (sG.free nu) (sG.trans du) upd_same (du _ _ h0) (du _ _ h1)
end
/-! ### multiples of a pair, by the law -/
section
variable {base : Heap} {K : PySem.W.Frag} {mg : Str → Option Value} {P : Program} {w : World}
def spLScaled (K : PySem.W.Frag) : Sp := fun vs H Q _ => ∃ (r : V) (a b n : Int), vs = [r, .int n] ∧ PairAt K H r a b ∧ a.natAbs < 2 ^ 9000 ∧ b.natAbs < 2 ^ 9000 ∧ n.natAbs < 2 ^ 9000 ∧ NewPair H (a * n) (b * n) Q
theorem ok_lscaled (T : Txt K mg) : FnOk P w K mg base CX0 1 T.f_lscaled T.d_lscaled ["_law_pair", "_law_number"] (spLScaled K) := by
  refine T.F_lscaled.ok sc_lscaled (fun vs H Q E h => ?_) (fun cdv A outer s H vs Q E hr h => ?_)
  · obtain ⟨r, a, b, n, rfl, _⟩ := h
    rfl
  · obtain ⟨r, a, b, n, rfl, ⟨t, rfl, ht⟩, ba, bb, bn, q⟩ := h
    refine ⟨_, (pss_one (ps_ret (pe_tup (pa_cons (pe_op op_mulW (pe_ix ix_tup (pv 0) pe_int (fun _ _ => rfl)) (pv 1)) (pa_cons (pe_op op_mulW (pe_ix ix_tup (pv 0) pe_int (fun _ _ => rfl)) (pv 1)) pa_nil))))), ?_⟩
    exact ⟨_, rfl, t, _, 0, _, rfl, rfl, ht, atI_nat (j := 0) rfl, _, rfl, a, n, rfl, rfl, wide_mul ba bn (by decide) (by decide) (by decide), _, rfl, t, _, 1, _, rfl, rfl, ht, atI_nat (j := 1) rfl, _, rfl, b, n, rfl, rfl, wide_mul bb bn (by decide) (by decide) (by decide), by show 2 ≤ sizeLine; decide, fun p hp => q p _ hp (same_new hp) upd_same⟩
def spOfU : Sp := fun vs H Q _ => ∃ (b sb t : Addr) (xs : List V), vs = [.ref b, .ref t] ∧ Bag H b sb ∧ H t = some (.tup xs) ∧ 0 < xs.length ∧ xs.length ≤ 1000 ∧ ∀ (i : Nat) (v : V) (H' : Hp), xs[i]? = some v → Bag H' b sb → Keep b H H' → Q v H'
theorem ok_ofU (T : Txt K mg) : FnOk P w K mg base CX0 2 T.f_of T.d_of ["_law_bag", "_law_some"] spOfU := by
  refine T.F_of.ok sc_of (fun vs H Q E h => ?_) (fun cdv A outer s H vs Q E hr h => ?_)
  · obtain ⟨b, sb, t, xs, rfl, _⟩ := h
    rfl
  · obtain ⟨b, sb, t, xs, rfl, B, ht, h0, h1, q⟩ := h
    refine ⟨_, pss_one (ps_ret (pe_ix ix_tup (pv 1) (pe_call (ok_pull T) (hr.mono (by decide)) (by rfl) T.g_pull T.F_pull.kp T.b_pull .nil pass0 (pa_cons (pv 0) (pa_cons (pe_callB call_len_seq (by rfl) T.n_len (by decide +kernel) (pa_cons (pv 1) pa_nil)) pa_nil))) (fun _ _ => rfl))), ?_⟩
    have hn : ((xs.length : Int)).natAbs < 2 ^ 100 := Nat.lt_of_le_of_lt (show (xs.length : Int).natAbs ≤ 1000 by omega) (by decide)
    refine ⟨.ref t, rfl, .ref b, rfl, .ref t, rfl, t, xs, rfl, .inr (SqT.of ht), b, sb, _, rfl, B, (by show (0 : Int) < (xs.length : Int); omega), hn, fun z H' z0 z1 B' k' => ?_⟩
    obtain ⟨v, e1, e2⟩ := at_some z0 z1
    exact ⟨t, xs, z, v, rfl, rfl, SqT.of (tup_keep B k' _ _ ht), e2, q _ _ _ e1 B' k'⟩
end
section
variable {base : Heap} {K : PySem.W.Frag} {mg : Str → Option Value} {P : Program} {w : World}
def spANumber : Sp := fun vs H Q _ => ∃ b sb : Addr, vs = [.ref b] ∧ Bag H b sb ∧ ∀ x H', -(10 ^ 18) ≤ x → x ≤ 10 ^ 18 → Bag H' b sb → Keep b H H' → Q (.int x) H'
theorem ok_a_number (T : Txt K mg) : FnOk P w K mg base CX0 3 T.f_a_number T.d_a_number ["_law_bag"] spANumber := by
  refine T.F_a_number.ok sc_a_number (fun vs H Q E h => ?_) (fun cdv A outer s H vs Q E hr h => ?_)
  · obtain ⟨b, sb, rfl, _⟩ := h
    rfl
  · obtain ⟨b, sb, rfl, B, q⟩ := h
    refine ⟨_, (pss_cons (ps_set (i := 1) sc_a_number.nd rfl (Or.inl rfl) (pe_call (ok_of T) (hr.mono (by decide)) (by rfl) T.g_of T.F_of.kp T.b_of .nil pass0 (pa_cons (pv 0) (pa_cons (pe_lst (pa_cons pe_int (pa_cons pe_int (pa_cons pe_int (pa_cons pe_int (pa_cons pe_int (pa_cons (pe_op op_pow pe_int pe_int) (pa_cons (pe_op op_pow pe_int pe_int) pa_nil)))))))) pa_nil))))
      (pss_one (ps_ret (pe_op op_sub (pe_call (ok_pull T) (hr.mono (by decide)) (by rfl) T.g_pull T.F_pull.kp T.b_pull .nil pass0 (pa_cons (pv 0) (pa_cons (pe_op op_add (pe_op op_mul pe_int (pv 1)) pe_int) pa_nil))) (pv 1))))), ?_⟩
    refine ⟨.ref b, rfl, 10, 9, rfl, rfl, ⟨by decide, by decide, by decide⟩, 10, 18, rfl, rfl, ⟨by decide, by decide, by decide⟩, (by show 7 ≤ sizeLine; decide), fun l hl => ?_⟩
    refine ⟨b, sb, l, _, rfl, B.new hl, upd_same, B.ne hl, by decide, by decide, fun i v H1 hv B1 k1 => ?_⟩
    obtain ⟨n, rfl, n0, n1⟩ : ∃ n : Int, v = .int n ∧ 1 ≤ n ∧ n ≤ 10 ^ 18 := by
      match i, hv with
      | 0, hv => cases hv; exact ⟨3, rfl, by decide, by decide⟩
      | 1, hv => cases hv; exact ⟨7, rfl, by decide, by decide⟩
      | 2, hv => cases hv; exact ⟨13, rfl, by decide, by decide⟩
      | 3, hv => cases hv; exact ⟨60, rfl, by decide, by decide⟩
      | 4, hv => cases hv; exact ⟨1000, rfl, by decide, by decide⟩
      | 5, hv => cases hv; exact ⟨10 ^ 9, rfl, by decide, by decide⟩
      | 6, hv => cases hv; exact ⟨10 ^ 18, rfl, by decide, by decide⟩
      | n + 7, hv => simp at hv
    have hn : (2 * n + 1).natAbs < 2 ^ 100 := Nat.lt_of_le_of_lt (show (2 * n + 1).natAbs ≤ 2000000000000000001 by omega) (by decide)
    refine ⟨.ref b, rfl, _, rfl, 2, n, rfl, rfl, .inl ⟨by decide, by decide⟩, _, 1, rfl, rfl, b, sb, _, rfl, B1, (show (0 : Int) < 2 * n + 1 by omega), hn, fun z H2 z0 z1 B2 k2 => ?_⟩
    exact ⟨_, rfl, z, n, rfl, rfl, q _ _ (by omega) (by omega) B2 ((keep_new hl).trans (k1.trans k2))⟩
end
/-! ### any four numbers -/
section
variable {base : Heap} {K : PySem.W.Frag} {mg : Str → Option Value} {P : Program} {w : World}
def FourB (a b c d : Int) : Prop := (a.natAbs < 2 ^ 90 ∧ b.natAbs < 2 ^ 90) ∧ (c.natAbs < 2 ^ 90 ∧ d.natAbs < 2 ^ 90)
def GotFour (b sb : Addr) (H : Hp) (Q : VK) : Prop := ∀ x y z u p H', FourB x y z u → p ≠ b → H' p = some (.tup [.int x, .int y, .int z, .int u]) → Bag H' b sb → Keep b H H' → Q (.ref p) H'
def spAnyFour : Sp := fun vs H Q _ => ∃ (b sb : Addr) (d : Int), vs = [.ref b, .int d] ∧ Bag H b sb ∧ IsRoot d ∧ GotFour b sb H Q
theorem ok_any_four (T : Txt K mg) : FnOk P w K mg base CX0 4 T.f_any_four T.d_any_four ["_law_bag", "_law_root_z"] spAnyFour := by
  refine T.F_any_four.ok sc_any_four (fun vs H Q E h => ?_) (fun cdv A outer s H vs Q E hr h => ?_)
  · obtain ⟨b, sb, d, rfl, _⟩ := h
    rfl
  · obtain ⟨b, sb, d, rfl, B, hd, q⟩ := h
    refine ⟨_, (pss_cons (ps_set (i := 2) sc_any_four.nd rfl (Or.inl rfl) (pe_call (ok_lscaled T) (hr.mono (by decide)) (by rfl) T.g_lscaled T.F_lscaled.kp T.b_lscaled .nil pass0 (pa_cons (pe_call (ok_ofU T) (hr.mono (by decide)) (by rfl) T.g_of T.F_of.kp T.b_of .nil pass0 (pa_cons (pv 0) (pa_cons (pe_call (ok_tile_pair T) (hr.mono (by decide)) (by rfl) T.g_tile_pair T.F_tile_pair.kp T.b_tile_pair .nil pass0 (pa_cons (pv 1) (pa_cons (pe_call (ok_pull T) (hr.mono (by decide)) (by rfl) T.g_pull T.F_pull.kp T.b_pull .nil pass0 (pa_cons (pv 0) (pa_cons pe_int pa_nil))) pa_nil))) pa_nil))) (pa_cons (pe_call (ok_of T) (hr.mono (by decide)) (by rfl) T.g_of T.F_of.kp T.b_of .nil pass0 (pa_cons (pv 0) (pa_cons (pe_lst (pa_cons pe_int (pa_cons (pe_un un_neg pe_int) pa_nil))) pa_nil))) pa_nil))))
      (pss_cons (ps_par (i := 3) (j := 4) (by rfl) sc_any_four.nd rfl rfl (by decide) rfl rfl (pa_cons (pe_call (ok_a_number T) (hr.mono (by decide)) (by rfl) T.g_a_number T.F_a_number.kp T.b_a_number .nil pass0 (pa_cons (pv 0) pa_nil)) (pa_cons (pe_call (ok_a_number T) (hr.mono (by decide)) (by rfl) T.g_a_number T.F_a_number.kp T.b_a_number .nil pass0 (pa_cons (pv 0) pa_nil)) pa_nil)) (by rfl))
      (pss_cons (ps_if (pt_cmpR op_eq (pe_call (ok_pull T) (hr.mono (by decide)) (by rfl) T.g_pull T.F_pull.kp T.b_pull .nil pass0 (pa_cons (pv 0) (pa_cons pe_int pa_nil))) pe_int (nomark _)) (pss_one (ps_ret (pe_tup (pa_cons (pe_op op_sub (pe_ix ix_tup (pv 2) pe_int (fun _ _ => rfl)) (pe_op op_mul (pv 1) (pv 4))) (pa_cons (pe_op op_sub (pe_ix ix_tup (pv 2) pe_int (fun _ _ => rfl)) (pv 3)) (pa_cons (pv 3) (pa_cons (pv 4) pa_nil))))))) pss_nil)
      (pss_one (ps_ret (pe_tup (pa_cons (pe_call (ok_a_number T) (hr.mono (by decide)) (by rfl) T.g_a_number T.F_a_number.kp T.b_a_number .nil pass0 (pa_cons (pv 0) pa_nil)) (pa_cons (pe_ix ix_tup (pe_call (ok_any_pair T) (hr.mono (by decide)) (by rfl) T.g_any_pair T.F_any_pair.kp T.b_any_pair .nil pass0 (pa_cons (pv 0) pa_nil)) pe_int (fun _ _ => rfl)) (pa_cons (pe_call (ok_a_number T) (hr.mono (by decide)) (by rfl) T.g_a_number T.F_a_number.kp T.b_a_number .nil pass0 (pa_cons (pv 0) pa_nil)) (pa_cons (pe_ix ix_tup (pe_call (ok_any_pair T) (hr.mono (by decide)) (by rfl) T.g_any_pair T.F_any_pair.kp T.b_any_pair .nil pass0 (pa_cons (pv 0) pa_nil)) pe_int (fun _ _ => rfl)) pa_nil)))))))))), ?_⟩
    obtain ⟨r2, r99, v, v0, v1, v2⟩ := id hd
    have hw : isW d v := ⟨v0, v1, v2⟩
    refine ⟨.ref b, rfl, .int d, rfl, .ref b, rfl, b, sb, 14, rfl, B, by decide, by decide, fun n0 H1 z0 z1 B1 k1 => ?_⟩
    obtain ⟨n, rfl⟩ := Int.eq_ofNat_of_zero_le z0
    refine ⟨d, v, n, rfl, r2, r99, hw, by omega, fun t e f H2 nt s2 ht he hf => ?_⟩
    refine ⟨b, sb, t, _, rfl, B1.same s2, ht, by simp, by simp, fun i u H3 hu B3 k3 => ?_⟩
    obtain ⟨x, k, rfl, hk, hx⟩ : ∃ (x : Addr) (k : Nat), u = .ref x ∧ k ≤ 14 ∧ H2 x = some (.tup [.int (tP k (cfF d v k).1), .int (tQ k (cfF d v k).2)]) := by
      match i, hu with
      | 0, hu => cases hu; exact ⟨e, n, rfl, by omega, he⟩
      | 1, hu => cases hu; exact ⟨f, n + 1, rfl, by omega, hf⟩
      | m + 2, hu => simp at hu
    have hx3 := tup_keep (B1.same s2) k3 _ _ hx
    have kk : Keep b H H3 := k1.trans ((keep_of s2).trans k3)
    obtain ⟨⟨p0, q0, _, _⟩, c1, c2, _, _⟩ := cf_bound r2 r99 hw (k + 1)
    have hp : (cfF d v k).1.natAbs < 2 ^ 80 := small_pow p0 c1 (by omega)
    have hq : (cfF d v k).2.natAbs < 2 ^ 80 := small_pow q0 c2 (by omega)
    have bp : (tP (k : Int) (cfF d v k).1).natAbs < 2 ^ 80 := by rw [tP_abs]; exact hp
    have bq : (tQ (k : Int) (cfF d v k).2).natAbs < 2 ^ 80 := by rw [tQ_abs]; exact hq
    generalize tP (k : Int) (cfF d v k).1 = xx at *
    generalize tQ (k : Int) (cfF d v k).2 = yy at *
    have up : ∀ {z : Int} {m : Nat}, m ≤ 9000 → z.natAbs < 2 ^ m → z.natAbs < 2 ^ 9000 := fun {z m} hm h => Nat.lt_of_lt_of_le h (Nat.pow_le_pow_right (by decide) hm)
    refine ⟨.ref b, rfl, 1, rfl, by show 2 ≤ sizeLine; decide, fun l nl => ?_⟩
    have hx4 := same_new (o := .lst [.int 1, .int (-1)]) nl _ _ hx3
    refine ⟨b, sb, l, [.int 1, .int (-1)], rfl, B3.new nl, upd_same, B3.ne nl, by decide, by decide, fun i2 m H4 hm B4 k4 => ?_⟩
    obtain ⟨m, rfl, m1, m2⟩ : ∃ k : Int, m = .int k ∧ -1 ≤ k ∧ k ≤ 1 := by
      match i2, hm with
      | 0, hm => cases hm; exact ⟨1, rfl, by decide, by decide⟩
      | 1, hm => cases hm; exact ⟨-1, rfl, by decide, by decide⟩
      | m + 2, hm => simp at hm
    have hx5 := tup_keep (B3.new nl) k4 _ _ hx4
    have kk4 := kk.trans ((keep_of (same_new (o := .lst [.int 1, .int (-1)]) nl)).trans k4)
    refine ⟨.ref x, xx, yy, m, rfl, ⟨x, rfl, SqT.of hx5⟩, up (by decide) bp, up (by decide) bq, up (m := 5) (by decide) (by omega), fun p1 H5 np1 s5 hp1 => ?_⟩
    have B5 := B4.same s5
    have kk5 := kk4.trans (keep_of s5)
    refine ⟨.ref b, rfl, b, sb, rfl, B5, fun mo H6 mo0 mo1 B6 k6 => ⟨.ref b, rfl, b, sb, rfl, B6, fun tp H7 tp0 tp1 B7 k7 => ⟨_, _, rfl, ?_⟩⟩⟩
    have hp6 := tup_keep B5 k6 _ _ hp1
    have hp7 := tup_keep B6 k7 _ _ hp6
    have kk7 := kk5.trans (k6.trans k7)
    refine ⟨.ref b, rfl, b, sb, 2, rfl, B7, by decide, by decide, fun z H8 z0 z1 B8 k8 => ?_⟩
    have hp8 := tup_keep B7 k8 _ _ hp7
    have kk8 := kk7.trans k8
    have m80 : (xx * m).natAbs < 2 ^ 85 ∧ (yy * m).natAbs < 2 ^ 85 := ⟨wide_lt (b := 5) bp (by omega), wide_lt (b := 5) bq (by omega)⟩
    have dt : (d * tp).natAbs < 2 ^ 87 := Nat.lt_of_lt_of_le (wide_lt (a := 7) (b := 60) (show d.natAbs < 128 by omega) (Nat.lt_of_le_of_lt (show tp.natAbs ≤ 10 ^ 18 by omega) (by decide))) (by decide)
    have p18 : (10 : Int) ^ 18 = 1000000000000000000 := by decide
    have p85 : (2 : Nat) ^ 85 = 38685626227668133590597632 := by decide
    have p87 : (2 : Nat) ^ 87 = 154742504910672534362390528 := by decide
    have p90 : (2 : Nat) ^ 90 = 1237940039285380274899124224 := by decide
    refine ⟨rfl, _, rfl, ite2 (fun _ => ?_) (fun _ => ?_)⟩
    · refine ⟨_, rfl, p1, _, 0, _, rfl, rfl, SqT.of hp8, atI_nat (j := 0) rfl, _, rfl, _, rfl, d, tp, rfl, rfl, .inl ⟨by omega, by omega⟩, xx * m, d * tp, rfl, rfl, _, rfl, p1, _, 1, _, rfl, rfl, SqT.of hp8, atI_nat (j := 1) rfl, _, rfl, yy * m, mo, rfl, rfl, _, rfl, _, rfl, by show 4 ≤ sizeLine; decide, fun p hp => ?_⟩
      refine q (xx * m - d * tp) (yy * m - mo) mo tp p _ ⟨⟨?_, ?_⟩, ?_, ?_⟩ (B8.ne hp) upd_same (B8.new hp) (kk8.trans (keep_new hp)) <;> omega
    · refine ⟨.ref b, rfl, b, sb, rfl, B8, fun n1 H9 n10 n11 B9 k9 => ?_⟩
      refine ⟨.ref b, rfl, b, sb, rfl, B9, fun x1 y1 q1 H10 a1 a2 a3 a4 nq1 hq1 B10 k10 => ⟨q1, _, 0, .int x1, rfl, rfl, SqT.of hq1, atI_nat (j := 0) rfl, ?_⟩⟩
      refine ⟨.ref b, rfl, b, sb, rfl, B10, fun n2 H11 n20 n21 B11 k11 => ?_⟩
      refine ⟨.ref b, rfl, b, sb, rfl, B11, fun x2 y2 q2 H12 c1 c2 c3 c4 nq2 hq2 B12 k12 => ⟨q2, _, 1, .int y2, rfl, rfl, SqT.of hq2, atI_nat (j := 1) rfl, by show 4 ≤ sizeLine; decide, fun p hp => ?_⟩⟩
      have p6 : (10 : Int) ^ 6 = 1000000 := by decide
      refine q n1 x1 n2 y2 p _ ⟨⟨?_, ?_⟩, ?_, ?_⟩ (B12.ne hp) upd_same (B12.new hp) (kk8.trans (k9.trans (k10.trans (k11.trans (k12.trans (keep_new hp)))))) <;> omega
end
/-! ### all sides of a stock -/
section
variable {base : Heap} {K : PySem.W.Frag} {mg : Str → Option Value} {P : Program} {w : World}
def SideOf (es : DEs) (x y : Int) : Prop := ∃ e ∈ es, (x = e.1.1 ∧ y = e.1.2.1) ∨ (x = e.1.2.2.1 ∧ y = e.1.2.2.2)
def SidesAt (H : Hp) (l : Addr) (es : DEs) (n : Nat) : Prop := ∃ as : List Addr, H l = some (.lst (as.map V.ref)) ∧ as.length ≤ n ∧ ∀ a ∈ as, ∃ x y, H a = some (.tup [.int x, .int y]) ∧ SideOf es x y
def spSides (P : Program) (w : World) : Sp := fun vs H Q _ => ∃ (d : Addr) (es : DEs), vs = [.ref d] ∧ DAt P w H d es ∧ (keysD es).Nodup ∧ es.length ≤ 100 ∧ ∀ l H', H l = none → Same H H' → SidesAt H' l es 200 → Q (.ref l) H'
theorem ok_all_sides (T : Txt K mg) : FnOk P w K mg base CX0 1 T.f_all_sides T.d_all_sides ["_law_stock"] (spSides P w) := by
  refine T.F_all_sides.ok sc_all_sides (fun vs H Q E h => ?_) (fun cdv A outer s H vs Q E hr h => ?_)
  · obtain ⟨d, es, rfl, _⟩ := h
    rfl
  · obtain ⟨d, es, rfl, D, nd, hn, q⟩ := h
    refine ⟨_, (pss_cons (ps_set (i := 1) sc_all_sides.nd rfl (Or.inl rfl) (pe_lst pa_nil))
      (pss_cons (ps_for PassesOwn.never rfl (pi_list (pe_callB (cr_sortedLS hr.units) (by rfl) T.n_sorted (by decide +kernel) (pa_cons (pe_callTy (call_list_DS rfl) (by rfl) T.n_list (by decide +kernel) (pa_cons (pv 0) pa_nil)) pa_nil))) (pg_tup (by rfl) (pgs_cons (pg_name (i := 2) sc_all_sides.nd rfl (Or.inl rfl)) (pgs_cons (pg_name (i := 3) sc_all_sides.nd rfl (Or.inl rfl)) pgs_nil))) (pss_one (ps_set (i := 1) sc_all_sides.nd rfl (Or.inl rfl) (pe_op op_cat (pv 1) (pe_lst (pa_cons (pv 2) (pa_cons (pv 3) pa_nil)))))))
      (pss_one (ps_ret (pv 1))))), ?_⟩
    refine ⟨Nat.zero_le _, fun f0 nf0 => ?_⟩
    have ef := same_new (o := .lst []) nf0
    replace D := D.same ef
    refine ⟨.ref d, rfl, d, es, rfl, D, fun l0 h0 => ?_⟩
    have e0 := same_new (o := .lst (es.map fun e => V.ref e.2.1)) h0
    refine ⟨l0, es.map fun e => (e.1, e.2.1), rfl, ?_, ?_, fun l1 h1 => ?_⟩
    · rw [upd_same, List.map_map]
      rfl
    · intro b hb
      obtain ⟨e, he, rfl⟩ := List.mem_map.mp hb
      exact (D.ks e he).same e0
    have e1 := same_new (o := .lst ((sortK es).map fun b => V.ref b.2)) h1
    have e01 := e0.trans e1
    have hl1 := upd_same (H := upd (upd H f0 (.lst [])) l0 (.lst (es.map fun e => V.ref e.2.1))) (a := l1) (o := .lst ((sortK es).map fun b => V.ref b.2))
    have hf0 := e01 _ _ (upd_same (H := H) (a := f0) (o := .lst []))
    have e2 := ef.trans e01
    replace D := D.same e01
    generalize hG : upd (upd (upd H f0 (.lst [])) l0 (.lst (es.map fun e => V.ref e.2.1))) l1 (.lst ((sortK es).map fun b => V.ref b.2)) = G0 at hl1 hf0 D e2
    have hlen : (sortK es).length = es.length := by
      rw [(sortK_perm es).length_eq, List.length_map]
    show ∃ l : Addr, _
    refine ⟨l1, rfl, ⟨_, SqL.of (hG ▸ hl1)⟩, ?_⟩
    rw [show upd (upd (upd H f0 (.lst [])) l0 (.lst (es.map fun e => V.ref e.2.1))) l1 (.lst (((es.map fun e => (e.1, e.2.1)).mergeSort fun a b => leS a.1 b.1).map fun b => V.ref b.2)) = G0 from hG]
    refine for_list (K := K) (a := l1) (xs := (sortK es).map fun b => V.ref b.2) (fun i σ G => ∃ y2 y3 f, σ = [some (.ref d), some (.ref f), y2, y3] ∧ Same G0 G ∧ (H f = none) ∧ SidesAt G f es (2 * i)) ⟨none, none, f0, rfl, fun _ _ z => z, nf0, [], hf0, by simp, fun a ha => by cases ha⟩ (fun i σ G _ z => ?_) ?_ ?_
    · obtain ⟨_, _, _, _, sG, _⟩ := z
      exact SqL.of (sG _ _ hl1)
    · rintro i x σ G hx ⟨y2, y3, f, rfl, sG, nf, as, hf, la, ha⟩
      rw [List.getElem?_map] at hx
      cases hb : (sortK es)[i]? with
      | none =>
        rw [hb] at hx
        cases hx
      | some b =>
        rw [hb] at hx
        cases hx
        obtain ⟨n, hv, hat, hin⟩ := sortE_at nd hb
        have hi : i < es.length := by
          rw [← hlen]
          exact (List.getElem?_eq_some_iff.mp hb).1
        obtain ⟨u, v, g1, g2, g3⟩ := (D.same sG).ks _ hin
        refine ⟨b.2, _, rfl, SqT.of g1, rfl, .ref u, _, rfl, .ref v, _, rfl, rfl, ?_⟩
        refine ⟨_, rfl, _, rfl, _, rfl, by show 2 ≤ sizeLine; decide, fun t nt => ?_⟩
        have et := same_new (o := .lst [.ref u, .ref v]) nt
        refine ⟨f, t, _, _, rfl, rfl, et _ _ hf, upd_same, small1000 (by simp; omega), fun g ng => ?_⟩
        have eg := same_new (o := .lst (as.map V.ref ++ [.ref u, .ref v])) ng
        refine ⟨_, _, g, rfl, sG.trans (et.trans eg), e2.free ((sG.trans et).free ng), as ++ [u, v], ?_, ?_, fun a m => ?_⟩
        · rw [upd_same, List.map_append]
          rfl
        · rw [List.length_append]
          show as.length + 2 ≤ _
          omega
        · rcases List.mem_append.mp m with m | m
          · obtain ⟨x, y, hxy, so⟩ := ha a m
            exact ⟨x, y, eg _ _ (et _ _ hxy), so⟩
          · simp only [List.mem_cons, List.not_mem_nil, or_false] at m
            rcases m with rfl | rfl
            · exact ⟨_, _, eg _ _ (et _ _ g2), _, hin, .inl ⟨rfl, rfl⟩⟩
            · exact ⟨_, _, eg _ _ (et _ _ g3), _, hin, .inr ⟨rfl, rfl⟩⟩
    · rintro σ G ⟨y2, y3, f, rfl, sG, nf, sd⟩
      obtain ⟨as, hf, la, ha⟩ := sd
      refine ⟨_, rfl, q f G nf (e2.trans sG) ⟨as, hf, ?_, ha⟩⟩
      rw [List.length_map, hlen] at la
      omega
end
/-! ### rows that are in order already -/
theorem fold_new : ∀ (es acc : DEs), (keysD (acc ++ es)).Nodup → es.foldl addE acc = acc ++ es
  | [], acc, _ => by simp
  | e :: es, acc, h => by
    have h' : (keysD acc ++ e.1 :: keysD es).Nodup := by
      have : keysD (acc ++ e :: es) = keysD acc ++ e.1 :: keysD es := by
        unfold keysD
        rw [List.map_append, List.map_cons]
      rwa [this] at h
    have hn : valD acc e.1 = none := valD_none.mpr fun z => (List.nodup_append.mp h').2.2 _ z _ List.mem_cons_self rfl
    have e1 : addE acc e = acc ++ [e] := by
      unfold addE
      rw [putD_new hn, hn]
      show acc ++ [(e.1, e.2.1, 0 + e.2.2)] = _
      rw [Int.zero_add]
    rw [List.foldl_cons, e1, fold_new es (acc ++ [e]) (by rw [List.append_assoc]; exact h), List.append_assoc]
    rfl
theorem merge_id {es : DEs} (h : (keysD es).Nodup) : mergeD es = es := by
  have := fold_new es [] h
  simpa [mergeD] using this
theorem sort_id {es : DEs} (h : Asc es) : sortE es = es := by
  have k : sortK es = es.map fun e => (e.1, e.2.1) := by
    unfold sortK
    refine List.mergeSort_of_pairwise ?_
    rw [List.pairwise_map]
    refine h.up.imp fun {a b} l => ?_
    unfold leS
    rw [decide_eq_false fun z => ltS_asym l z]
    rfl
  unfold sortE
  rw [k, List.map_map, List.map_congr_left (g := id) fun e he => ?_, List.map_id]
  show (e.1, e.2.1, (valD es e.1).getD 0) = e
  rw [valD_mem h.nd he]
  rfl
theorem made_sorted {es : DEs} (nd : (keysD es).Nodup) (pos : ∀ e ∈ es, 1 ≤ e.2.2) : sortE (mergeD (sortE es)) = sortE es := by
  rw [merge_id (sortE_keys nd)]
  exact sort_id ⟨sortE_up nd, fun e he => pos e ((sortE_perm nd).mem_iff.mp he)⟩
/-! ### the law -/
theorem Within.small {d M : Int} {es : DEs} (h : Within (ShB d) M es) (hM : M ≤ 10 ^ 18) : Small es := fun e he => by
  obtain ⟨⟨⟨_, a1, a2⟩, _, a3, a4⟩, n0, n1⟩ := h e he
  exact ⟨mk4 (m6 a1) (m6 a2) (m6 a3) (m6 a4), Nat.lt_of_lt_of_le (show e.2.2.natAbs < 2 ^ 60 from Nat.lt_of_le_of_lt (show e.2.2.natAbs ≤ 10 ^ 18 by omega) (by decide)) (Nat.pow_le_pow_right (by decide) (by decide))⟩
theorem Within.four {d : Int} {es : DEs} (h : Within (ShB d) (4 * 10 ^ 6) es) (hn : es.length ≤ 4) : FourB (wsum f00 es) (wsum f01 es) (wsum f10 es) (wsum f11 es) := by
  have one : ∀ {c x y : Int}, 1 ≤ c → c ≤ 4 * 10 ^ 6 → x.natAbs ≤ 10 ^ 6 → y.natAbs ≤ 10 ^ 6 → (c * (x * y)).natAbs ≤ 4 * 10 ^ 6 * (10 ^ 6 * 10 ^ 6) := fun {c x y} c0 c1 hx hy => by
    rw [Int.natAbs_mul, Int.natAbs_mul]
    exact Nat.mul_le_mul (by omega) (Nat.mul_le_mul hx hy)
  have lt : ∀ {φ : Sh → Int}, (∀ e ∈ es, (e.2.2 * φ e.1).natAbs ≤ 4 * 10 ^ 6 * (10 ^ 6 * 10 ^ 6)) → (wsum φ es).natAbs < 2 ^ 90 := fun {φ} hb => by
    have := wsum_bd hb
    have h2 : es.length * (4 * 10 ^ 6 * (10 ^ 6 * 10 ^ 6)) ≤ 4 * (4 * 10 ^ 6 * (10 ^ 6 * 10 ^ 6)) := Nat.mul_le_mul_right _ hn
    exact Nat.lt_of_le_of_lt this (Nat.lt_of_le_of_lt h2 (by decide))
  refine ⟨⟨lt fun e he => ?_, lt fun e he => ?_⟩, lt fun e he => ?_, lt fun e he => ?_⟩ <;>
    (obtain ⟨⟨⟨_, a1, a2⟩, _, a3, a4⟩, n0, n1⟩ := h e he) <;> first | exact one n0 n1 a3 a1 | exact one n0 n1 a4 a1 | exact one n0 n1 a3 a2 | exact one n0 n1 a4 a2
theorem dfour {K : PySem.W.Frag} {H : Hp} {t : Addr} {a b c d : Int} (h : H t = some (.tup [.int a, .int b, .int c, .int d])) : Dp K H (.ref t) (.tuple [.int a, .int b, .int c, .int d]) := .tup (SqT.of h) (.cons (.int a) (.cons (.int b) (.cons (.int c) (.cons (.int d) .nil))))
theorem efour (a b c e a' b' c' e' : Int) : PyData.eqv (.tuple [.int a, .int b, .int c, .int e]) (.tuple [.int a', .int b', .int c', .int e']) = decide (a = a' ∧ b = b' ∧ c = c' ∧ e = e') := by
  simp [PyData.eqv, PyData.eqvAll]
  first | rfl | (by_cases h1 : a = a' <;> by_cases h2 : b = b' <;> by_cases h3 : c = c' <;> by_cases h4 : e = e' <;> simp [h1, h2, h3, h4])
theorem up90 {x : Int} {n : Nat} (h : x.natAbs < 2 ^ 90) (hn : 90 ≤ n) : x.natAbs < 2 ^ n := Nat.lt_of_lt_of_le h (Nat.pow_le_pow_right (by decide) hn)
theorem area_bd {r a b c d : Int} (r2 : 2 ≤ r) (r99 : r ≤ 99) (ba : a.natAbs < 2 ^ 100 ∧ b.natAbs < 2 ^ 100) (bc : c.natAbs < 2 ^ 100 ∧ d.natAbs < 2 ^ 100) : (a + r * d).natAbs < 2 ^ 9000 ∧ (b + c).natAbs < 2 ^ 9000 := by
  have h1 : (r * d).natAbs < 2 ^ (7 + 100) := wide_lt (show r.natAbs < 2 ^ 7 by have : (2 : Nat) ^ 7 = 128 := rfl; omega) bc.2
  have h3 : (2 : Nat) ^ (7 + 100) + 2 ^ 100 ≤ 2 ^ 9000 := Nat.le_trans (show _ ≤ 2 ^ 108 by decide) (Nat.pow_le_pow_right (by decide) (by decide))
  have h4 : (2 : Nat) ^ 100 + 2 ^ 100 ≤ 2 ^ 9000 := Nat.le_trans (show _ ≤ 2 ^ 108 by decide) (Nat.pow_le_pow_right (by decide) (by decide))
  have s1 := Int.natAbs_add_le a (r * d)
  have s2 := Int.natAbs_add_le b c
  generalize (r * d).natAbs = A at *
  generalize (2 : Nat) ^ (7 + 100) = B at *
  generalize (2 : Nat) ^ 9000 = C at *
  omega
theorem TabAt.extN {C : Addr} {H H' : Hp} {p : Addr} {a b c e : Int} (h : TabAt C H p a b c e) (k : LamX.ExtN H H') : TabAt C H' p a b c e := by
  obtain ⟨dx, t, h1, u, v, h2, h3, h4⟩ := h
  exact ⟨dx, t, k _ _ h1 (fun _ z => by cases z), u, v, tup_extN h2 k, tup_extN h3 k, tup_extN h4 k⟩
theorem and_no {c : Bool} {t u : Prop} (h : c = false ∨ (u → t)) (hu : u) : if c = true then t else u := by
  rcases h with rfl | h
  · exact hu
  · cases c
    · exact hu
    · exact h hu
theorem sg_lt {x : Int} (h : 0 < x) : decide (sgnI x < 1) = false := by
  rw [sgnI_pos h]
  rfl
theorem sg_ge {x : Int} (h : ¬ 0 < x) : decide (sgnI x < 1) = true := by
  rcases Int.lt_trichotomy x 0 with z | z | z
  · rw [sgnI_neg z]
    rfl
  · rw [z]
    rfl
  · exact absurd z h
/-- the heap that is due -/
def DueE (d v a b c e : Int) (j : Nat) (es : DEs) : Prop := (allZero a b c e ∧ es = []) ∨ (¬ allZero a b c e ∧ 0 < vl (a + d * e) (b + c) d ∧ ∃ p q, es = sortE (mergeD (twoE d v a b c e j p q)))

structure DueIs (d a b c e : Int) (es : DEs) : Prop where
  asc : Asc es
  wi : Within (ShOk d) 2 es
  len : es.length ≤ 2
  many : wsum one1 es ≤ 2
  s00 : wsum f00 es = a
  s01 : wsum f01 es = b
  s10 : wsum f10 es = c
  s11 : wsum f11 es = e
  full : (!es.isEmpty) = decide (0 < sgnI (vl (a + d * e) (b + c) d))
theorem wsum_two {φ : Sh → Int} {d v a b c e : Int} {j : Nat} {p q : Addr} : wsum φ (twoE d v a b c e j p q) = φ (shA d v a b c e j) + φ (shB2 d v a b c e j) := by
  unfold twoE
  rw [wsum_cons, wsum_cons]
  show 1 * φ (shA d v a b c e j) + (1 * φ (shB2 d v a b c e j) + 0) = _
  omega
theorem due_is {d v a b c e : Int} {j : Nat} {es : DEs} (r2 : 2 ≤ d) (r99 : d ≤ 99) (hw : isW d v) (fb : FourB a b c e) (hj : 0 < vl (a + d * e) (b + c) d → j ≤ 463 ∧ StopAt d v a b c e j) (h : DueE d v a b c e j es) : DueIs d a b c e es := by
  rcases h with ⟨⟨rfl, rfl, rfl, rfl⟩, rfl⟩ | ⟨nz, pz, p, q, rfl⟩
  · refine ⟨asc_nil, (fun e he => by cases he), Nat.zero_le _, by decide, rfl, rfl, rfl, rfl, ?_⟩
    have e0 : vl (0 + d * 0) (0 + 0) d = 0 := by
      unfold vl ab
      simp
    rw [e0, sgnI_zero]
    rfl
  · obtain ⟨hj1, stop⟩ := hj pz
    obtain ⟨g1, g2⟩ := two_good r2 r99 hw ⟨up90 fb.1.1 (by decide), up90 fb.1.2 (by decide)⟩ ⟨up90 fb.2.1 (by decide), up90 fb.2.2 (by decide)⟩ hj1 stop
    obtain ⟨k1, k2, k3, k4⟩ := two_table (r := d) (v := v) (a := a) (b := b) (c := c) (d := e) (stop_pos stop)
    have w1 : Within (ShOk d) 1 (twoE d v a b c e j p q) := fun f hf => by
      unfold twoE at hf
      simp only [List.mem_cons, List.not_mem_nil, or_false] at hf
      rcases hf with rfl | rfl
      · exact ⟨g1, Int.le_refl _, Int.le_refl _⟩
      · exact ⟨g2, Int.le_refl _, Int.le_refl _⟩
    have nd := merge_nodup (twoE d v a b c e j p q)
    have pm := sortE_perm nd
    have ln : (sortE (mergeD (twoE d v a b c e j p q))).length ≤ 2 := by
      rw [pm.length_eq]
      exact merge_len _
    refine ⟨asc_made (by decide) w1, (merge_within (by decide) w1).perm pm, ln, ?_, ?_, ?_, ?_, ?_, ?_⟩
    · rw [made_wsum, wsum_two]
      show (1 : Int) + 1 ≤ 2
      decide
    · rw [made_wsum, wsum_two]
      unfold f00
      rw [Int.mul_comm _ (shA d v a b c e j).1, Int.mul_comm _ (shB2 d v a b c e j).1]
      exact k1
    · rw [made_wsum, wsum_two]
      unfold f01
      rw [Int.mul_comm _ (shA d v a b c e j).1, Int.mul_comm _ (shB2 d v a b c e j).1]
      exact k2
    · rw [made_wsum, wsum_two]
      unfold f10
      rw [Int.mul_comm _ (shA d v a b c e j).2.1, Int.mul_comm _ (shB2 d v a b c e j).2.1]
      exact k3
    · rw [made_wsum, wsum_two]
      unfold f11
      rw [Int.mul_comm _ (shA d v a b c e j).2.1, Int.mul_comm _ (shB2 d v a b c e j).2.1]
      exact k4
    · rw [sgnI_pos pz]
      cases z : sortE (mergeD (twoE d v a b c e j p q)) with
      | nil =>
        have := made_wsum one1 (twoE d v a b c e j p q)
        rw [z, wsum_two] at this
        have this : (0 : Int) = 1 + 1 := this
        omega
      | cons x xs => rfl
theorem DueIs.small {d a b c e : Int} {es : DEs} (h : DueIs d a b c e es) : Small es := fun f hf => by
  obtain ⟨g, n0, n1⟩ := h.wi f hf
  obtain ⟨b1, b2, b3, b4⟩ := g.b.2
  exact ⟨mk4 b1 b2 b3 b4, Nat.lt_of_lt_of_le (show f.2.2.natAbs < 2 ^ 2 by have : (2 : Nat) ^ 2 = 4 := rfl; omega) (Nat.pow_le_pow_right (by decide) (by decide))⟩
theorem due_same {d v a b c e : Int} {j : Nat} {es fs : DEs} (r2 : 2 ≤ d) (r99 : d ≤ 99) (hw : isW d v) (fb : FourB a b c e) (hj : 0 < vl (a + d * e) (b + c) d → j ≤ 463 ∧ StopAt d v a b c e j) (h : DueE d v a b c e j es) (k : DueE d v a b c e j fs) : eqD es fs = true := by
  have a1 := (due_is r2 r99 hw fb hj h).asc
  have a2 := (due_is r2 r99 hw fb hj k).asc
  rw [eqD_iff a1 a2]
  refine decide_eq_true (asc_eq a1 a2 fun φ => ?_)
  rcases h with ⟨az, rfl⟩ | ⟨nz, pz, p, q, rfl⟩ <;> rcases k with ⟨az', rfl⟩ | ⟨nz', pz', p', q', rfl⟩
  · rfl
  · exact absurd az nz'
  · exact absurd az' nz
  · rw [made_wsum, made_wsum, wsum_two, wsum_two]
abbrev qn : Str := "law" ++ ".<locals>." ++ "<lambda>"
section
variable {base : Heap} {K : PySem.W.Frag} {mg : Str → Option Value} {w : World}
theorem droot {H : Hp} {p : Addr} {n : Int} (h : H p = some (.tup [.str "BadRoot", .int n])) : Dp K H (.ref p) (.tuple [.str "BadRoot", .int n]) := .tup (SqT.of h) (.cons (.str _) (.cons (.int n) .nil))
theorem sroot (n : Int) : SeqAt.shaped (.tuple [.str "BadRoot", .int n]) = true := by kernel_rfl
theorem eroot (n : Int) : PyData.eqv (.tuple [.str "BadRoot", .int n]) (.tuple [.str "BadRoot", .int n]) = true := by
  simp [PyData.eqv, PyData.eqvAll]
theorem snot : SeqAt.shaped (.tuple [.str "NotEnough", .none]) = true := by kernel_rfl
theorem enot : PyData.eqv (.tuple [.str "NotEnough", .none]) (.tuple [.str "NotEnough", .none]) = true := by
  simp [PyData.eqv, PyData.eqvAll]
theorem raised_not (T : Txt K mg) {Q : VK} {d : Addr} {Hf : Hp} (hd : Hf d = some (.xd notEnough)) (q : Told Q "NotEnough" .non Hf) : Raised K T.r_GrainError Q (.ref T.e_NotEnough.C) (some d) Hf := by
  obtain ⟨cg, hg, _⟩ := T.c_GrainError
  exact raised_er T.e_NotEnough hg T.t_GrainError T.sb_GrainError (no_one T.x_NotEnough_word) rfl rfl hd q
theorem raised_root (T : Txt K mg) {Q : VK} {d : Addr} {Hf : Hp} {n : Int} (hd : Hf d = some (.xd (badRoot (.int n)))) (q : Told Q "BadRoot" (.int n) Hf) : Raised K T.r_GrainError Q (.ref T.e_BadRoot.C) (some d) Hf := by
  obtain ⟨cg, hg, _⟩ := T.c_GrainError
  exact raised_er T.e_BadRoot hg T.t_GrainError T.sb_GrainError (no_two T.x_BadRoot_number T.x_BadRoot_word) rfl rfl hd q
/-- what was found -/
def FoundAt (T : Txt K mg) (w : World) (H : Hp) (d v a b c e : Int) (j : Nat) (p : Addr) : Prop := (∃ h es, H p = some (.tup [.str "told", .ref h]) ∧ HeapAt PySem.Challenge.pw_grainyard_k34_heaps_with_a_table w T.C_Heap H h d es ∧ DueE d v a b c e j es) ∨
  (H p = some (.tup [.str "NotEnough", .non]) ∧ ¬ allZero a b c e ∧ ¬ 0 < vl (a + d * e) (b + c) d)
def spLaw (K : PySem.W.Frag) (P0 : Addr) : Sp := fun vs H Q _ => ∃ (a : Addr) (ns : List Int), vs = [.ref a] ∧ SqL K H a (ns.map V.int) ∧ ns.length ≤ 63 ∧ H P0 = some (.tbl #[]) ∧ ∀ H', Q (.bl true) H'
theorem ok_law {f c P0 : Addr} {oc kV doc pm ct : Value} {od an : Option Addr} {osl : Array (Option Value)} (lk : K.lookup f = some ⟨oc, od, .func (PySem.W.fnOf "law" "law" (defArgs s_law) (defBody s_law) (defScope s_law) .none kV doc pm an (.ref c) ct), osl⟩) (hcd : PySem.W.codeIn K (.ref c) "law" = true)
    (TB : LamX.TabB base mg c P0) (T : Txt K mg) : FnOk PySem.Challenge.pw_grainyard_k34_heaps_with_a_table w K mg base CX0 20 f (PySem.W.fnOf "law" "law" (defArgs s_law) (defBody s_law) (defScope s_law) .none kV doc pm an (.ref c) ct) ["_law_script"] (spLaw K P0) := by
  refine fn_of lk hcd sc_law (fun vs H Q E h => ?_) (fun A outer s H vs Q E hr h => ?_)
  · obtain ⟨a, ns, rfl, _⟩ := h
    rfl
  · obtain ⟨a, ns, rfl, hS, hlen, hP, q⟩ := h
    refine ⟨_, PSs.nox (pss_cons (ps_set (i := 1) sc_law.nd rfl (Or.inl rfl) (pe_call (ok_source T) (hr.mono (by decide)) (by rfl) T.g_source T.F_source.kp T.b_source .nil pass0 (pa_cons (pv 0) pa_nil)))
      (Evl.pss_cut (ps_for PassesOwn.never rfl (pi_range1 (by rfl) T.n_range (pa_cons pe_int pa_nil)) (pg_name (i := 2) sc_law.nd rfl (Or.inl rfl)) (pss_cons (ps_set (i := 3) sc_law.nd rfl (Or.inr rfl) (pe_call (ok_a_root T) (hr.mono (by decide)) (by rfl) T.g_a_root T.F_a_root.kp T.b_a_root .nil pass0 (pa_cons (pv 1) pa_nil)))
      (pss_cons (ps_set (i := 4) sc_law.nd rfl (Or.inl rfl) (pe_call (ok_of T) (hr.mono (by decide)) (by rfl) T.g_of T.F_of.kp T.b_of .nil pass0 (pa_cons (pv 1) (pa_cons (pe_lst (pa_cons (pe_call (ok_four T) (hr.mono (by decide)) (by rfl) T.g_four T.F_four.kp T.b_four .nil pass0 (pa_cons (pe_call (ok_stock_of T) (hr.mono (by decide)) (by rfl) T.g_stock_of T.F_stock_of.kp T.b_stock_of .nil pass0 (pa_cons (pe_call (ok_some_rows T) (hr.mono (by decide)) (by rfl) T.g_some_rows T.F_some_rows.kp T.b_some_rows .nil pass0 (pa_cons (pv 1) (pa_cons (pv 3) (pa_cons pe_int pa_nil)))) pa_nil)) pa_nil)) (pa_cons (pe_call (ok_any_four T) (hr.mono (by decide)) (by rfl) T.g_any_four T.F_any_four.kp T.b_any_four .nil pass0 (pa_cons (pv 1) (pa_cons (pv 3) pa_nil))) pa_nil))) pa_nil))))
      (pss_cons (ps_asg (pe_tup (pa_cons (pe_make T.M_Table (ok_Table_init T) (hr.mono (by decide)) (by rfl) T.g_Table T.b_Table_init .nil pass0 (pa_cons (pe_tup (pa_cons (pe_slice sl_tup (pv 4) po_none (po_some pe_int)) (pa_cons (pe_slice sl_tup (pv 4) (po_some pe_int) po_none) pa_nil))) pa_nil)) (pa_cons (pe_call (ok_lsign T) (hr.mono (by decide)) (by rfl) T.g_lsign T.F_lsign.kp T.b_lsign .nil pass0 (pa_cons (pe_call (ok_area_of T) (hr.mono (by decide)) (by rfl) T.g_area_of T.F_area_of.kp T.b_area_of .nil pass0 (pa_cons (pv 4) (pa_cons (pv 3) pa_nil))) (pa_cons (pv 3) pa_nil))) pa_nil))) (pg_tup (by rfl) (pgs_cons (pg_name (i := 7) sc_law.nd rfl (Or.inr rfl)) (pgs_cons (pg_name (i := 8) sc_law.nd rfl (Or.inl rfl)) pgs_nil))))
      (Evl.pss_cut (ps_set (i := 5) sc_law.nd rfl (Or.inl rfl) (pe_try (t := fun E => tCall (spHot T w) [] E (tCons (tVar 7) (tCons (tVar 3) tNil))) (k := 15) T (by rfl) TB rfl (hr.mono (by decide)) (LamX.lamS_by (sc := defScope s_law) (by decide +kernel)) rfl (fun _ _ _ _ _ => rfl) (fun A outer s H E f c' hr2 => (pe_call (ok_heap_of_table (w := w) T) (hr2.mono (by decide)) (by rfl) T.g_heap_of_table T.F_heap_of_table.kp T.b_heap_of_table .nil (passes_call (takes_of rfl rfl rfl rfl) (fun _ _ _ _ h => h)) (pa_cons (pv 7) (pa_cons (pv 3) pa_nil))))))
      (Evl.pss_cut (ps_if (PW.pt (pw_and (pt_cmpR (op_neD hr.units) (pv 4) (pe_tup (pa_cons pe_int (pa_cons pe_int (pa_cons pe_int (pa_cons pe_int pa_nil))))) (nomark _)) (pw_and1 (pt_cmpR op_lt (pv 8) pe_int (nomark _))))) (pss_one (ps_if (pt_cmpR (op_neD hr.units) (pv 5) (pe_tup (pa_cons pe_str (pa_cons pe_non pa_nil))) (nomark _)) (pss_one (ps_ret pe_bl)) pss_nil)) (pss_cons (ps_set (i := 9) sc_law.nd rfl (Or.inl rfl) (pe_ix ix_tup (pv 5) pe_int (fun _ _ => rfl)))
      (pss_cons (ps_if (PW.pt (pw_or (pt_not (pt_val (pe_callB call_isi (by rfl) T.n_isinstance (by decide +kernel) (pa_cons (pv 9) (pa_cons (pe_glob (v := .ref T.C_Heap) (by rfl) T.g_Heap rfl) pa_nil))))) (pw_or (pt_cmpR op_ne (pe_prop (pv 9) T.cl_Heap T.pr_Heap_root (ok_Heap_root T) (hr.mono (by decide)) T.b_Heap_root .nil pass0 rfl) (pv 3) (nomark _)) (pw_or (pt_cmpR op_gt (pe_prop (pv 9) T.cl_Heap T.pr_Heap_many (ok_Heap_many T) (hr.mono (by decide)) T.b_Heap_many .nil pass0 rfl) pe_int (nomark _)) (pw_or1 (pt_cmpR op_ne (pe_callTy (call_boolO T.m_Heap_bool (ok_Heap_bool T) (hr.mono (by decide)) T.b_Heap_bool pass0) (by rfl) T.n_bool (by decide +kernel) (pa_cons (pv 9) pa_nil)) (pe_cmpR op_gt (pv 8) pe_int (nomark _)) (nomark _))))))) (pss_one (ps_ret pe_bl)) pss_nil)
      (pss_cons (ps_if (pt_cmpR (op_neD hr.units) (pe_call (ok_four T) (hr.mono (by decide)) (by rfl) T.g_four T.F_four.kp T.b_four .nil pass0 (pa_cons (pe_call (ok_stock_of T) (hr.mono (by decide)) (by rfl) T.g_stock_of T.F_stock_of.kp T.b_stock_of .nil pass0 (pa_cons (pe_meth0 (pv 9) T.cl_Heap T.m_Heap_rows (ok_Heap_rows T) (hr.mono (by decide)) T.b_Heap_rows .nil pass0) pa_nil)) pa_nil)) (pv 4) (nomark _)) (pss_one (ps_ret pe_bl)) pss_nil)
      (pss_cons (ps_if (pt_not (pt_val (pe_callB (cr_all rfl) (by rfl) T.n_all (by decide +kernel) (pa_cons (pe_lc (own := [("_law_pair", 10)]) (g := (gName 10)) (tt := tYes) (te := tOp rEq (tCall (spSign K) [] E0 (tCons (tVar 10) (tCons (tVar 3) tNil))) (tC (.int 1))) (by rfl) sc_law.nd (pi_list (pe_call (ok_all_sides T) (hr.mono (by decide)) (by rfl) T.g_all_sides T.F_all_sides.kp T.b_all_sides .nil pass0 (pa_cons (pe_call (ok_stock_of T) (hr.mono (by decide)) (by rfl) T.g_stock_of T.F_stock_of.kp T.b_stock_of .nil pass0 (pa_cons (pe_meth0 (pv 9) T.cl_Heap T.m_Heap_rows (ok_Heap_rows T) (hr.mono (by decide)) T.b_Heap_rows .nil pass0) pa_nil)) pa_nil))) (blkOk_by (own := [("_law_pair", 10)]) (N := ["_law_script", "_law_bag", "_law_turn", "_law_root_z", "_law_four_here", "_law_found", "_law_bad", "_law_table_z", "_law_area", "_law_heap", "_law_pair"]) (sc := defScope s_law) (by decide +kernel)) (fun _ _ _ _ _ => (pg_name (i := 10) sc_law.nd rfl (Or.inl rfl))) (fun _ _ _ _ _ => pts_nil) (fun _ _ _ _ _ => (pe_cmpR op_eq (pe_call (ok_lsign T) (hr.mono (by decide)) (by rfl) T.g_lsign T.F_lsign.kp T.b_lsign .nil pass0 (pa_cons (pv 10) (pa_cons (pv 3) pa_nil))) pe_int (nomark _)))) pa_nil)))) (pss_one (ps_ret pe_bl)) pss_nil)
      (pss_one (ps_if (pt_cmpR (op_neO2 T.m_Heap_eq T.mo_Heap T.ne_Heap (ok_Heap_eq T) (hr.mono (by decide)) T.b_Heap_eq pass0) (pe_kwOnly (ok_heap_of_table T) (hr.mono (by decide)) (by rfl) T.g_heap_of_table T.F_heap_of_table.kp T.kb_heap_of_table_root_table pass_never (pk_cons (pv 3) (pk_cons (pv 7) pk_nil))) (pv 9) (nomark _)) (pss_one (ps_ret pe_bl)) pss_nil)))))))
      (pss_cons (ps_set (i := 6) sc_law.nd rfl (Or.inr rfl) (pe_call (ok_of T) (hr.mono (by decide)) (by rfl) T.g_of T.F_of.kp T.b_of .nil pass0 (pa_cons (pv 1) (pa_cons (pe_lst (pa_cons pe_int (pa_cons pe_int (pa_cons pe_int (pa_cons (pe_un un_neg pe_int) pa_nil))))) pa_nil))))
      (pss_one (ps_if (PW.pt (pw_or (pt_cmpR (op_neD hr.units) (pe_try (t := fun E => tCall (spHot T w) [] E (tCons (tUn (rOwn1 T.C_Table (spNeg T.C_Table) E0) (tVar 7)) (tCons (tVar 6) tNil))) (k := 15) T (by rfl) TB rfl (hr.mono (by decide)) (LamX.lamS_by (sc := defScope s_law) (by decide +kernel)) rfl (fun _ _ _ _ _ => rfl) (fun A outer s H E f c' hr2 => (pe_call (ok_heap_of_table (w := w) T) (hr2.mono (by decide)) (by rfl) T.g_heap_of_table T.F_heap_of_table.kp T.b_heap_of_table .nil (passes_call (takes_of rfl rfl rfl rfl) (fun _ _ _ _ h => h)) (pa_cons (pe_un (un_own T.m_Table_neg (ok_Table_neg (w := w) T) (hr2.mono (by decide)) T.b_Table_neg pass0) (pv 7)) (pa_cons (pv 6) pa_nil))))) (pe_tup (pa_cons pe_str (pa_cons (pv 6) pa_nil))) (nomark _)) (pw_or1 (pt_cmpR (op_neD hr.units) (pe_meth0 (pv 7) T.cl_Table T.m_Table_rows (ok_Table_rows T) (hr.mono (by decide)) T.b_Table_rows .nil pass0) (pe_tup (pa_cons (pe_slice sl_tup (pv 4) po_none (po_some pe_int)) (pa_cons (pe_slice sl_tup (pv 4) (po_some pe_int) po_none) pa_nil))) (nomark _))))) (pss_one (ps_ret pe_bl)) pss_nil)))))))))
      (pss_one (ps_ret (pe_cmpR (op_eqO2 T.m_Heap_eq (ok_Heap_eq T) (hr.mono (by decide)) T.b_Heap_eq pass0) (pe_call (ok_heap_of_table T) (hr.mono (by decide)) (by rfl) T.g_heap_of_table T.F_heap_of_table.kp T.b_heap_of_table .nil pass_never (pa_cons (pe_make0 T.M_Table (ok_Table_init T) (hr.mono (by decide)) (by rfl) T.g_Table T.b0_Table_init T.v0_Table_init pass0) (pa_cons pe_int pa_nil))) (pe_make T.M_Heap (ok_Heap_init T) (hr.mono (by decide)) (by rfl) T.g_Heap T.b0_Heap_init T.v0_Heap_init pass_never (pa_cons pe_int pa_nil)) (nomark _)))))), ?_⟩
    refine ⟨_, rfl, a, ns, rfl, hS, hlen, fun b sb H1 nb s1 B1 => ?_⟩
    have tb1 : LamX.Tabs [(P0, qn)] H1 := fun p hp => by
      rw [List.mem_singleton.mp hp]
      exact LamX.TabS.nil (s1 _ _ hP)
    refine ⟨fun σ H' => ∃ y2 y3 y4 y5 y6 y7 y8 y9, σ = [some (.ref a), some (.ref b), y2, y3, y4, y5, y6, y7, y8, y9, none], ?_, ?_⟩
    · refine ⟨6, rfl, by decide, by decide, for_range (lo := 0) (n := 6) (fun i σ H' => ∃ y2 y3 y4 y5 y6 y7 y8 y9, σ = [some (.ref a), some (.ref b), y2, y3, y4, y5, y6, y7, y8, y9, none] ∧ Bag H' b sb ∧ LamX.Tabs [(P0, qn)] H') ⟨none, none, none, none, none, none, none, none, rfl, B1, tb1⟩ ?_ ?_⟩
      · rintro i σ H2 hi ⟨y2, y3, y4, y5, y6, y7, y8, y9, rfl, B2, tb2⟩
        refine ⟨_, rfl, b, sb, rfl, B2, fun d H3 hd B3 k3 => ?_⟩
        have dz := isRB_small (isRB_of hd)
        have rd := isRB_of hd
        obtain ⟨r2, r99, v, v0, v1, v2⟩ := id hd
        have hw : isW d v := ⟨v0, v1, v2⟩
        refine ⟨.ref b, rfl, _, rfl, _, rfl, b, sb, d, 4, rfl, B3, hd, by decide, by decide, fun lr es0 H4 nlr R4 W4 n4 B4 k4 => ⟨lr, es0, rfl, R4, by omega, fun c' H5 hc s5 D5 => ?_⟩⟩
        have tb5 := (tabs_keep (tabs_keep tb2 B2 k3) B3 k4).ext s5
        have B5 := B4.same s5
        have nd := merge_nodup es0
        have ln : (mergeD es0).length ≤ 4 := by
          have := merge_len es0
          omega
        have wi : Within (ShB d) (4 * 10 ^ 6) (mergeD es0) := (merge_within (by decide) W4).up (by
          have : (es0.length : Int) * 10 ^ 6 ≤ 4 * 10 ^ 6 := Int.mul_le_mul_of_nonneg_right (by omega) (by decide)
          exact this)
        generalize mergeD es0 = es at D5 nd ln wi
        clear R4 W4 n4 B4 k4 k3 B3 tb2 B2 s5
        refine ⟨c', es, rfl, D5, nd, wi.small (by decide), fun pf H6 npf s6 hpf => ?_⟩
        have B6 := B5.same s6
        have tb6 := tb5.ext s6
        refine ⟨_, rfl, _, rfl, b, sb, d, rfl, B6, hd, fun x y z u pa H7 fb npa hpa B7 k7 => ⟨by show 2 ≤ sizeLine; decide, fun lc nlc => ?_⟩⟩
        have tb7 := (tabs_keep tb6 B6 k7).ext (same_new (o := .lst [.ref pf, .ref pa]) nlc)
        have hpf7 := same_new (o := .lst [.ref pf, .ref pa]) nlc _ _ (tup_keep B6 k7 _ _ hpf)
        have hpa7 := same_new (o := .lst [.ref pf, .ref pa]) nlc _ _ hpa
        refine ⟨b, sb, lc, [.ref pf, .ref pa], rfl, B7.new nlc, upd_same, B7.ne nlc, (show 0 < 2 by decide), (show 2 ≤ 1000 by decide), fun i2 v4 H8 hv4 B8 k8 => ?_⟩
        have tb8 := tabs_keep tb7 (B7.new nlc) k8
        obtain ⟨p4, t00, t01, t10, t11, rfl, fb4, hp4⟩ : ∃ (p4 : Addr) (t00 t01 t10 t11 : Int), v4 = .ref p4 ∧ FourB t00 t01 t10 t11 ∧ H8 p4 = some (.tup [.int t00, .int t01, .int t10, .int t11]) := by
          match i2, hv4 with
          | 0, hv4 => cases hv4; exact ⟨pf, _, _, _, _, rfl, wi.four ln, tup_keep (B7.new nlc) k8 _ _ hpf7⟩
          | 1, hv4 => cases hv4; exact ⟨pa, _, _, _, _, rfl, fb, tup_keep (B7.new nlc) k8 _ _ hpa7⟩
          | m + 2, hv4 => simp at hv4
        clear hpf7 hpa7 tb7 fb npa hpa B7 k7 B6 tb6 hpf npf s6 wi nd ln D5 B5 tb5 nlc hv4 k8
        -- the table, its area
        refine ⟨_, rfl, 2, rfl, p4, _, rfl, SqT.of hp4, fun z => by simp [HT.sIx] at z, fun p1 m1 => ?_⟩
        have e1 := same_new (o := .tup [.int t00, .int t01]) m1
        refine ⟨_, rfl, 2, rfl, p4, _, rfl, SqT.of (e1 _ _ hp4), fun z => by simp [HT.sIx] at z, fun p2 m2 => ⟨by show 2 ≤ sizeLine; decide, fun p3 m3 => ?_⟩⟩
        have e2 := same_new (o := .tup [.int t10, .int t11]) m2
        have e3 := same_new (o := .tup [.ref p1, .ref p2]) m3
        have e13 := e1.trans (e2.trans e3)
        refine mk_tab (K := K) ⟨p3, p1, p2, rfl, SqT.of upd_same, SqT.of ((e2.trans e3) _ _ upd_same), SqT.of (e3 _ _ upd_same)⟩ fun tz H9 ntz s9 hT => ?_
        have e19 := e13.trans s9
        obtain ⟨⟨f1, f2⟩, f3, f4⟩ := id fb4
        obtain ⟨ar0, ar1⟩ := area_bd (a := t00) (b := t01) (c := t10) (d := t11) r2 r99 ⟨up90 f1 (by decide), up90 f2 (by decide)⟩ ⟨up90 f3 (by decide), up90 f4 (by decide)⟩
        refine ⟨_, rfl, _, rfl, p4, d, t00, t01, t10, t11, rfl, SqT.of (e19 _ _ hp4), dz, up90 f4 (by decide), fun pb H10 npb s10 hpb => ?_⟩
        refine ⟨_, rfl, pb, d, t00 + d * t11, t01 + t10, rfl, SqT.of hpb, dz, ar0, ar1, by show 2 ≤ sizeLine; decide, fun t5 n5 => ?_⟩
        have e5 := same_new (o := .tup [.ref tz, .int (sgnI (vl (t00 + d * t11) (t01 + t10) d))]) n5
        refine ⟨t5, _, rfl, SqT.of upd_same, rfl, .ref tz, _, rfl, .int _, _, rfl, rfl, ?_⟩
        have s8 := e19.trans (s10.trans e5)
        replace hT := hT.same (s10.trans e5)
        replace hp4 := s8 _ _ hp4
        replace B8 := B8.same s8
        replace tb8 := tb8.ext s8
        generalize upd H10 t5 (.tup [.ref tz, .int (sgnI (vl (t00 + d * t11) (t01 + t10) d))]) = Hb at hT hp4 B8 tb8 ⊢
        clear e5 n5 s8 hpb s10 npb e19 s9 ntz e13 e1 e2 e3 m1 m2 m3 ar0 ar1
        obtain ⟨j, hj⟩ : ∃ j, 0 < vl (t00 + d * t11) (t01 + t10) d → j ≤ 463 ∧ StopAt d v t00 t01 t10 t11 j := by
          by_cases z : 0 < vl (t00 + d * t11) (t01 + t10) d
          · obtain ⟨j, h1, h2⟩ := two_is r2 r99 hw z (up90 f2 (by decide)) (up90 f3 (by decide)) (up90 f4 (by decide))
            exact ⟨j, fun _ => ⟨h1, h2⟩⟩
          · exact ⟨0, fun y => absurd y z⟩
        -- what is found
        refine ⟨fun σ H' => ∃ pq, σ = [some (.ref a), some (.ref b), some (.int (0 + (i : Int))), some (.int d), some (.ref p4), some (.ref pq), y6, some (.ref tz), some (.int (sgnI (vl (t00 + d * t11) (t01 + t10) d))), y9, none] ∧ FoundAt T w H' d v t00 t01 t10 t11 j pq ∧ TabAt T.C_Table H' tz t00 t01 t10 t11 ∧ H' p4 = some (.tup [.int t00, .int t01, .int t10, .int t11]) ∧ Bag H' b sb ∧ LamX.Tabs [(P0, qn)] H', ?_, ?_⟩
        · refine ⟨tb8, fun Hk ek tbk => ?_⟩
          replace hT := hT.extN ek
          replace hp4 := tup_extN hp4 ek
          replace B8 := B8.extN ek
          refine ⟨_, rfl, _, rfl, tz, d, v, t00, t01, t10, t11, j, rfl, hT, ?_⟩
          have fin : ∀ (H' : Hp) (pq : Addr), Same Hk H' → FoundAt T w H' d v t00 t01 t10 t11 j pq → ∃ pq', [some (V.ref a), some (.ref b), some (.int (0 + (i : Int))), some (.int d), some (.ref p4), some (.ref pq), y6, some (.ref tz), some (.int (sgnI (vl (t00 + d * t11) (t01 + t10) d))), y9, none] = [some (.ref a), some (.ref b), some (.int (0 + (i : Int))), some (.int d), some (.ref p4), some (.ref pq'), y6, some (.ref tz), some (.int (sgnI (vl (t00 + d * t11) (t01 + t10) d))), y9, none] ∧ FoundAt T w H' d v t00 t01 t10 t11 j pq' ∧ TabAt T.C_Table H' tz t00 t01 t10 t11 ∧ H' p4 = some (.tup [.int t00, .int t01, .int t10, .int t11]) ∧ Bag H' b sb ∧ LamX.Tabs [(P0, qn)] H' :=
            fun H' pq sx hF => ⟨pq, rfl, hF, hT.same sx, sx _ _ hp4, B8.same sx, tbk.ext sx⟩
          refine ⟨⟨up90 f1 (by decide), up90 f2 (by decide)⟩, ⟨up90 f3 (by decide), up90 f4 (by decide)⟩, (fun z => by
            rw [rd] at z
            cases z), fun _ az x H' nx sx hA => ⟨by show 2 ≤ sizeLine; decide, fun p np => ?_⟩, fun _ nz np dd Hm ndd sm' hdd => ?_, fun _ z => ⟨hw, hj z⟩, fun _ nz pz x p q H' nx sx hA => ⟨by show 2 ≤ sizeLine; decide, fun p np => ?_⟩⟩
          · have ep := same_new (o := .tup [.str "told", .ref x]) np
            exact fin _ p (sx.trans ep) (.inl ⟨x, [], upd_same, hA.same ep, .inl ⟨az, rfl⟩⟩)
          · exact raised_not T hdd fun Hn pn sn hpn => fin _ pn (sm'.trans sn) (.inr ⟨hpn, nz, np⟩)
          · have ep := same_new (o := .tup [.str "told", .ref x]) np
            exact fin _ _ (sx.trans ep) (.inl ⟨x, _, upd_same, hA.same ep, .inr ⟨nz, pz, _, _, rfl⟩⟩)
        rintro σ Hc ⟨pq, rfl, hF, hT', hp4', B9, tb9⟩
        clear hT hp4 B8 tb8
        refine ⟨fun σ H' => ∃ z9, σ = [some (.ref a), some (.ref b), some (.int (0 + (i : Int))), some (.int d), some (.ref p4), some (.ref pq), y6, some (.ref tz), some (.int (sgnI (vl (t00 + d * t11) (t01 + t10) d))), z9, none] ∧ Same Hc H', ?_, ?_⟩
        · refine ⟨_, rfl, by show 4 ≤ sizeLine; decide, fun t6 n6 => ?_⟩
          have e6 := same_new (o := .tup [.int 0, .int 0, .int 0, .int 0]) n6
          refine ⟨_, _, dfour (e6 _ _ hp4'), dfour upd_same, rfl, rfl, _, rfl, ?_⟩
          rw [efour]
          by_cases due : allZero t00 t01 t10 t11 ∨ 0 < vl (t00 + d * t11) (t01 + t10) d
          · refine and_no ?_ (iteF ?_)
            · rcases due with z | z
              · exact .inl (by rw [decide_eq_true (show t00 = 0 ∧ t01 = 0 ∧ t10 = 0 ∧ t11 = 0 from z)]; rfl)
              · refine .inr fun u => ⟨_, rfl, _, 1, rfl, rfl, _, rfl, ?_⟩
                rw [sg_lt z]
                exact u
            obtain ⟨h, es, hpq, hA, dE⟩ : ∃ h es, Hc pq = some (.tup [.str "told", .ref h]) ∧ HeapAt PySem.Challenge.pw_grainyard_k34_heaps_with_a_table w T.C_Heap Hc h d es ∧ DueE d v t00 t01 t10 t11 j es := by
              rcases hF with z | ⟨_, z1, z2⟩
              · exact z
              · rcases due with y | y
                · exact absurd y z1
                · exact absurd y z2
            replace hpq := e6 _ _ hpq
            replace hA := hA.same e6
            refine ⟨_, rfl, pq, _, 1, .ref h, rfl, rfl, SqT.of hpq, atI_nat (j := 1) rfl, ?_⟩
            obtain ⟨dx, cc, hp8, DA⟩ := id hA
            refine ⟨_, rfl, .ref h, .ref T.C_Heap, .ref T.C_Heap, .ref T.C_Heap, true, rfl, ClsV.own _, TyX.base (TyOf.ins hp8 T.cl_Heap T.ca_Heap T.hn T.ht T.mo_Heap), by simp [PySem.W.kitOne], true, rfl, iteF ?_⟩
            have dI := due_is r2 r99 hw fb4 hj dE
            refine ⟨_, rfl, h, dx, _, rfl, hp8, h, d, es, rfl, hA, _, rfl, rfl, false, by simp, iteF ?_⟩
            refine ⟨_, rfl, h, dx, _, rfl, hp8, h, d, es, rfl, hA, fun Ha sa => ?_⟩
            refine ⟨_, 2, rfl, rfl, false, congrArg V.bl (decide_eq_false (show ¬ (2 : Int) < wsum one1 es by have := dI.many; omega)), iteF ?_⟩
            refine ⟨_, rfl, h, dx, _, rfl, sa _ _ hp8, h, d, es, rfl, hA.same sa, _, rfl, _, rfl, _, 0, rfl, rfl, rfl, false, (by rw [dI.full]; simp), iteF ?_⟩
            replace hpq := sa _ _ hpq
            replace hA := hA.same sa
            replace DA := DA.same sa
            replace hp8 := sa _ _ hp8
            have hp4a := sa _ _ (e6 _ _ hp4')
            have hTa := (hT'.same e6).same sa
            have s0a := e6.trans sa
            -- the four numbers of its rows
            refine ⟨_, rfl, h, dx, _, rfl, hp8, rfl, h, d, es, rfl, hA, fun l as Hr hl sr h1 R1 => ?_⟩
            have RL : RowsL Hr l es := ⟨as, h1, R1, fun e he => (DA.ks e he).same sr⟩
            refine ⟨l, es, rfl, RL, by have := dI.len; omega, fun c2 Hs nc2 ss D2 => ?_⟩
            have mid : mergeD es = es := merge_id dI.asc.nd
            rw [mid] at D2
            refine ⟨c2, es, rfl, D2, dI.asc.nd, dI.small, fun pf2 Ht npf2 st hpf2 => ?_⟩
            have srt := sr.trans (ss.trans st)
            refine ⟨_, rfl, _, _, dfour hpf2, dfour (srt _ _ hp4a), rfl, rfl, false, (by
              rw [efour, decide_eq_true (show wsum f00 es = t00 ∧ wsum f01 es = t01 ∧ wsum f10 es = t10 ∧ wsum f11 es = t11 from ⟨dI.s00, dI.s01, dI.s10, dI.s11⟩)]
              rfl), iteF ?_⟩
            replace hA := hA.same srt
            replace DA := DA.same srt
            replace hp8 := srt _ _ hp8
            replace hTa := hTa.same srt
            replace hp4a := srt _ _ hp4a
            replace s0a := s0a.trans srt
            clear hpf2 npf2 D2 nc2 ss st sr h1 R1 RL hl srt hpq
            -- all sides
            refine ⟨_, rfl, h, dx, _, rfl, hp8, rfl, h, d, es, rfl, hA, fun l as Hr hl sr h1 R1 => ?_⟩
            have RL : RowsL Hr l es := ⟨as, h1, R1, fun e he => (DA.ks e he).same sr⟩
            refine ⟨l, es, rfl, RL, by have := dI.len; omega, fun c2 Hs nc2 ss D2 => ?_⟩
            rw [mid] at D2
            refine ⟨c2, es, rfl, D2, dI.asc.nd, by have := dI.len; omega, fun ls Ht nls st sd => ?_⟩
            have srt := sr.trans (ss.trans st)
            obtain ⟨as3, hls, lns, hsd⟩ := sd
            refine ⟨ls, rfl, ⟨_, SqL.of hls⟩, fun L hL => lc_list (K := K) (a := ls) (xs := as3.map V.ref) (fun j G => Same Ht G ∧ G L = some (.lst ((List.replicate j true).map V.bl))) ⟨same_new hL, upd_same⟩ (fun j G _ z => SqL.of (z.1 _ _ hls)) ?_ ?_⟩
            · rintro j x G hx ⟨sG, hG⟩
              rw [List.getElem?_map] at hx
              cases hb : as3[j]? with
              | none =>
                rw [hb] at hx
                cases hx
              | some a3 =>
                rw [hb] at hx
                cases hx
                have hj3 := (List.getElem?_eq_some_iff.mp hb).1
                obtain ⟨x, y, hxy, ⟨f, hf, so⟩⟩ := hsd a3 (List.mem_of_getElem? hb)
                have ok := (dI.wi f hf).1
                have lo : LenOk d x y := by
                  rcases so with ⟨rfl, rfl⟩ | ⟨rfl, rfl⟩
                  · exact ok.1
                  · exact ok.2
                refine ⟨rfl, _, rfl, _, rfl, a3, d, x, y, rfl, SqT.of (sG _ _ hxy), dz, w100 lo.2.1, w100 lo.2.2, rfl, _, hG, ?_, fun a o z => (upd_ne (ne_of_none z hL)).trans (sG a o z), ?_⟩
                · rw [List.length_map, List.length_replicate]
                  exact small1000 (by omega)
                · rw [upd_same, sgnI_pos lo.1, List.replicate_succ', List.map_append]
                  rfl
            · rintro G ⟨sG, hG⟩
              refine ⟨L, _, rfl, SqL.of hG, ?_⟩
              rw [show (List.replicate (as3.map V.ref).length true).all id = true by simp]
              refine ⟨true, rfl, iteF ?_⟩
              have s9 := srt.trans sG
              replace hA := hA.same s9
              replace hp8 := s9 _ _ hp8
              replace hTa := hTa.same s9
              replace s0a := s0a.trans s9
              refine ⟨_, rfl, _, rfl, rfl, tz, d, v, t00, t01, t10, t11, j, rfl, hTa, ?_⟩
              refine ⟨⟨up90 f1 (by decide), up90 f2 (by decide)⟩, ⟨up90 f3 (by decide), up90 f4 (by decide)⟩, (fun z => by
                rw [rd] at z
                cases z), fun _ az x H' nx sx hX => ?_, fun _ nz np => ?_, fun _ z => ⟨hw, hj z⟩, fun _ nz pz x p q H' nx sx hX => ?_⟩
              · obtain ⟨dx', cx, hpx, _⟩ := id hX
                refine ⟨_, rfl, x, dx', _, h, dx, _, rfl, rfl, hpx, sx _ _ hp8, x, h, d, d, _, es, rfl, hX, hA.same sx, true, ?_, false, rfl, iteF ?_⟩
                · rw [due_same r2 r99 hw fb4 hj (.inl ⟨az, rfl⟩) dE]
                  simp
                · exact ⟨_, rfl, s0a.trans sx⟩
              · rcases due with z | z
                · exact absurd z nz
                · exact absurd z np
              · obtain ⟨dx', cx, hpx, _⟩ := id hX
                refine ⟨_, rfl, x, dx', _, h, dx, _, rfl, rfl, hpx, sx _ _ hp8, x, h, d, d, _, es, rfl, hX, hA.same sx, true, ?_, false, rfl, iteF ?_⟩
                · rw [due_same r2 r99 hw fb4 hj (.inr ⟨nz, pz, p, q, rfl⟩) dE]
                  simp
                · exact ⟨_, rfl, s0a.trans sx⟩
          · have nz : ¬ allZero t00 t01 t10 t11 := fun z => due (.inl z)
            have np : ¬ 0 < vl (t00 + d * t11) (t01 + t10) d := fun z => due (.inr z)
            obtain hpq : Hc pq = some (.tup [.str "NotEnough", .non]) := by
              rcases hF with ⟨_, _, _, _, z | z⟩ | ⟨z, _, _⟩
              · exact absurd z.1 nz
              · exact absurd z.2.1 np
              · exact z
            rw [show decide (t00 = 0 ∧ t01 = 0 ∧ t10 = 0 ∧ t11 = 0) = false from decide_eq_false nz]
            refine iteT ⟨_, rfl, _, 1, rfl, rfl, _, rfl, ?_⟩
            rw [sg_ge np]
            refine iteT ⟨_, rfl, by show 2 ≤ sizeLine; decide, fun t7 n7 => ?_⟩
            have e7 := same_new (o := .tup [.str "NotEnough", .non]) n7
            refine ⟨.tuple [.str "NotEnough", .none], .tuple [.str "NotEnough", .none], .tup (SqT.of (e7 _ _ (e6 _ _ hpq))) (.cons (.str _) (.cons .non .nil)), .tup (SqT.of upd_same) (.cons (.str _) (.cons .non .nil)), snot, snot, false, (by rw [enot]; rfl), iteF ?_⟩
            exact ⟨_, rfl, e6.trans e7⟩
        rintro σ Hd ⟨z9, rfl, sd⟩
        replace hT' := hT'.same sd
        replace hp4' := sd _ _ hp4'
        replace B9 := B9.same sd
        replace tb9 := tb9.ext sd
        clear hF sd
        -- what is no root
        refine ⟨.ref b, rfl, 7, rfl, by show 4 ≤ sizeLine; decide, fun l nl => ?_⟩
        have el := same_new (o := .lst [.int 1, .int 4, .int 100, .int (-7)]) nl
        refine ⟨b, sb, l, [.int 1, .int 4, .int 100, .int (-7)], rfl, B9.new nl, upd_same, B9.ne nl, by decide, by decide, fun i3 vb He hvb Be ke => ?_⟩
        obtain ⟨n, rfl, nr⟩ : ∃ n : Int, vb = .int n ∧ isRB n = false := by
          match i3, hvb with
          | 0, hvb => cases hvb; exact ⟨1, rfl, by decide⟩
          | 1, hvb => cases hvb; exact ⟨4, rfl, by decide⟩
          | 2, hvb => cases hvb; exact ⟨100, rfl, by decide⟩
          | 3, hvb => cases hvb; exact ⟨-7, rfl, by decide⟩
          | m + 4, hvb => simp at hvb
        replace hT' := (hT'.same el).keep (B9.new nl) ke
        replace hp4' := tup_keep (B9.new nl) ke _ _ (el _ _ hp4')
        replace tb9 := tabs_keep (tb9.ext el) (B9.new nl) ke
        clear el nl B9 ke hvb
        refine ⟨tb9, fun Hf ef tbf => ?_⟩
        replace hT' := hT'.extN ef
        replace hp4' := tup_extN hp4' ef
        replace Be := Be.extN ef
        refine ⟨_, rfl, neg_do (m := 90) hT' (mk4 f1 f2 f3 f4) (by decide) fun x Hg nx sx hN => ?_⟩
        have no : ∀ {P : Prop}, isRB n = true → P := fun z => by
          rw [nr] at z
          cases z
        have neg : ∀ {z : Int}, z.natAbs < 2 ^ 90 → (-z).natAbs < 2 ^ 100 := fun h => by
          rw [Int.natAbs_neg]
          exact up90 h (by decide)
        refine ⟨_, rfl, x, n, v, _, _, _, _, j, rfl, hN, ⟨⟨neg f1, neg f2⟩, ⟨neg f3, neg f4⟩, fun _ dd Hm ndd sm' hdd => ?_, no, no, no, no⟩⟩
        refine raised_root T hdd fun Hn pn sn hpn => ⟨_, rfl, by show 2 ≤ sizeLine; decide, fun td ntd => ?_⟩
        have ed := same_new (o := .tup [.str "BadRoot", .int n]) ntd
        refine ⟨_, _, droot (ed _ _ hpn), droot upd_same, sroot _, sroot _, false, (by rw [eroot]; rfl), iteF ?_⟩
        have s7 := sx.trans (sm'.trans (sn.trans ed))
        replace hT' := hT'.same s7
        replace hp4' := s7 _ _ hp4'
        replace Be := Be.same s7
        replace tbf := tbf.ext s7
        obtain ⟨dz', cz, hz, _⟩ := id hT'
        refine ⟨_, rfl, tz, dz', _, rfl, hz, nc (by decide +kernel), tz, _, _, _, _, rfl, hT', fun t ht => ?_⟩
        refine ⟨_, rfl, 2, rfl, p4, _, rfl, SqT.of hp4', fun z => by simp [HT.sIx] at z, fun p1 m1 => ?_⟩
        have e1 := same_new (o := .tup [.int t00, .int t01]) m1
        refine ⟨_, rfl, 2, rfl, p4, _, rfl, SqT.of (e1 _ _ hp4'), fun z => by simp [HT.sIx] at z, fun p2 m2 => ⟨by show 2 ≤ sizeLine; decide, fun p3 m3 => ?_⟩⟩
        have e2 := same_new (o := .tup [.int t10, .int t11]) m2
        have e3 := same_new (o := .tup [.ref p1, .ref p2]) m3
        have e13 := e1.trans (e2.trans e3)
        have hc3 : CellsAt (upd (upd (upd _ p1 (.tup [.int t00, .int t01])) p2 (.tup [.int t10, .int t11])) p3 (.tup [.ref p1, .ref p2])) p3 t00 t01 t10 t11 := ⟨p1, p2, upd_same, (e2.trans e3) _ _ upd_same, e3 _ _ upd_same⟩
        refine ⟨_, _, (ht.same e13).dp, hc3.dp, rfl, rfl, false, (by
          rw [eqv4, decide_eq_true ⟨rfl, rfl, rfl, rfl⟩]
          rfl), iteF ?_⟩
        exact ⟨_, _, _, _, _, _, _, _, rfl, Be.same e13, tbf.ext e13⟩
      · rintro σ H2 ⟨y2, y3, y4, y5, y6, y7, y8, y9, rfl, B2, tb2⟩
        exact ⟨_, _, _, _, _, _, _, _, rfl⟩
    · rintro σ H2 ⟨y2, y3, y4, y5, y6, y7, y8, y9, rfl⟩
      refine mk_tab (K := K) (Dflt.cells T.z0_Table_init) fun t0 G0 n0 s0 hT0 => ?_
      refine ⟨t0, 2, 1, 0, 0, 0, 0, 0, rfl, hT0, ⟨⟨by decide, by decide⟩, ⟨by decide, by decide⟩, fun z => absurd z (by decide), fun _ _ x G1 nx sx hX => ?_, fun _ nz _ => absurd ⟨rfl, rfl, rfl, rfl⟩ nz, fun _ z => absurd z (by decide), fun _ nz _ => absurd ⟨rfl, rfl, rfl, rfl⟩ nz⟩⟩
      refine mk_heap (T := T) (w := w) (es := []) (show isRB 2 = true by decide) (Handed.none (Dfl0.sq T.z0_Heap_init)) (fun e he => by cases he) (fun e he => by cases he) (by decide) fun h1 G2 n1 s1' A1 => ?_
      replace hX := hX.same s1'
      obtain ⟨d0, c0, a0, _⟩ := id hX
      obtain ⟨d1, c1, a1, _⟩ := id A1
      refine ⟨x, d0, _, h1, d1, _, rfl, rfl, a0, a1, x, h1, 2, 2, _, _, rfl, hX, A1, ?_⟩
      rw [show (decide ((2 : Int) = 2) && eqD [] (sortE (mergeD []))) = true by simp [mergeD, sortE, sortK, eqD]]
      exact q _
end
theorem all_mk {w : World} {K : PySem.W.Frag} {h : Heap} {mg : Str → Option Value} {fa : Addr} (X : K.In h) (G : h.Ns mainGlobals mg) (hfa : mg "law" = some (.ref fa)) {l : PySem.W.OpenLaw} (hprog : l.prog = PySem.Challenge.pw_grainyard_k34_heaps_with_a_table) {cL PL : Addr}
    {C_Table : Addr} (aC_Table : PySem.W.nsIn K mainGlobals "Table" = some (some (.ref C_Table))) (pg_Table : PySem.W.plainGet K C_Table Str.empty = true) (hd_Table : PySem.W.hasDictIn K C_Table = true) (po_Table : PySem.W.plainOver K C_Table = true) (sa_Table : PySem.W.findIn K (.ref C_Table) "__setattr__" = some (some (.builtin "object.__setattr__"))) (mk_Table : PySem.W.makesIn K C_Table = true) (kc_Table : PySem.W.keepIn K (.ref C_Table) = true) (sf_Table : PySem.W.selfFirst K C_Table = true) (nq_Table : PySem.W.noSeq K C_Table = true) (n_Table_cells : PySem.W.findIn K (.ref C_Table) "cells" = some none)
    (mo_Table : PySem.W.mroIn K C_Table (.type "object") = some true) (ne_Table : PySem.W.findIn K (.ref C_Table) "__ne__" = some (some (.builtin "object.__ne__"))) (ca_Table : PySem.W.findIn K (.ref C_Table) "__class__" = some (some (.builtin "object.__class__"))) (x_Table_rmul : PySem.W.findIn K (.ref C_Table) "__rmul__" = some none) (i_mul : PySem.W.findIn K (.type "int") "__mul__" = some (some (.builtin "int.__mul__"))) (i_rmul : PySem.W.findIn K (.type "int") "__rmul__" = some (some (.builtin "int.__rmul__"))) (is_Table : PySem.W.subIn K (.type "int") (.ref C_Table) = some false)
    {C_Heap : Addr} (aC_Heap : PySem.W.nsIn K mainGlobals "Heap" = some (some (.ref C_Heap))) (pg_Heap : PySem.W.plainGet K C_Heap Str.empty = true) (hd_Heap : PySem.W.hasDictIn K C_Heap = true) (po_Heap : PySem.W.plainOver K C_Heap = true) (sa_Heap : PySem.W.findIn K (.ref C_Heap) "__setattr__" = some (some (.builtin "object.__setattr__"))) (mk_Heap : PySem.W.makesIn K C_Heap = true) (kc_Heap : PySem.W.keepIn K (.ref C_Heap) = true) (sf_Heap : PySem.W.selfFirst K C_Heap = true) (nq_Heap : PySem.W.noSeq K C_Heap = true) (n_Heap_held_root : PySem.W.findIn K (.ref C_Heap) "held_root" = some none) (n_Heap_copies : PySem.W.findIn K (.ref C_Heap) "copies" = some none)
    (mo_Heap : PySem.W.mroIn K C_Heap (.type "object") = some true) (ne_Heap : PySem.W.findIn K (.ref C_Heap) "__ne__" = some (some (.builtin "object.__ne__"))) (ca_Heap : PySem.W.findIn K (.ref C_Heap) "__class__" = some (some (.builtin "object.__class__"))) (x_Heap_rmul : PySem.W.findIn K (.ref C_Heap) "__rmul__" = some none) (is_Heap : PySem.W.subIn K (.type "int") (.ref C_Heap) = some false)
    {od0 an0 : Option Addr} {sl0 : Array (Option Value)} {kV0 oc0 dc0 pm0 cd0 ct0 : Value} {f0 : Addr}
    (a0 : PySem.W.nsIn K mainGlobals "whole_root" = some (some (.ref f0))) (l0 : K.lookup f0 = some ⟨oc0, od0, .func (PySem.W.fnOf "whole_root" "whole_root" (defArgs s_whole_root) (defBody s_whole_root) (defScope s_whole_root) .none kV0 dc0 pm0 an0 cd0 ct0), sl0⟩) (c0 : PySem.W.codeIn K cd0 "whole_root" = true) (k0 : PySem.W.keepIn K (.ref f0) = true)
    {od1 an1 : Option Addr} {sl1 : Array (Option Value)} {kV1 oc1 dc1 pm1 cd1 ct1 : Value} {f1 : Addr}
    (a1 : PySem.W.nsIn K mainGlobals "is_root" = some (some (.ref f1))) (l1 : K.lookup f1 = some ⟨oc1, od1, .func (PySem.W.fnOf "is_root" "is_root" (defArgs s_is_root) (defBody s_is_root) (defScope s_is_root) .none kV1 dc1 pm1 an1 cd1 ct1), sl1⟩) (c1 : PySem.W.codeIn K cd1 "is_root" = true) (k1 : PySem.W.keepIn K (.ref f1) = true)
    {od2 an2 : Option Addr} {sl2 : Array (Option Value)} {kV2 oc2 dc2 pm2 cd2 ct2 : Value} {f2 : Addr}
    (a2 : PySem.W.nsIn K mainGlobals "check_root" = some (some (.ref f2))) (l2 : K.lookup f2 = some ⟨oc2, od2, .func (PySem.W.fnOf "check_root" "check_root" (defArgs s_check_root) (defBody s_check_root) (defScope s_check_root) .none kV2 dc2 pm2 an2 cd2 ct2), sl2⟩) (c2 : PySem.W.codeIn K cd2 "check_root" = true) (k2 : PySem.W.keepIn K (.ref f2) = true)
    {od3 an3 : Option Addr} {sl3 : Array (Option Value)} {kV3 oc3 dc3 pm3 cd3 ct3 : Value} {f3 : Addr}
    (a3 : PySem.W.nsIn K mainGlobals "sign" = some (some (.ref f3))) (l3 : K.lookup f3 = some ⟨oc3, od3, .func (PySem.W.fnOf "sign" "sign" (defArgs s_sign) (defBody s_sign) (defScope s_sign) .none kV3 dc3 pm3 an3 cd3 ct3), sl3⟩) (c3 : PySem.W.codeIn K cd3 "sign" = true) (k3 : PySem.W.keepIn K (.ref f3) = true)
    {od4 an4 : Option Addr} {sl4 : Array (Option Value)} {kV4 oc4 dc4 pm4 cd4 ct4 : Value} {f4 : Addr}
    (a4 : PySem.W.nsIn K mainGlobals "is_length" = some (some (.ref f4))) (l4 : K.lookup f4 = some ⟨oc4, od4, .func (PySem.W.fnOf "is_length" "is_length" (defArgs s_is_length) (defBody s_is_length) (defScope s_is_length) .none kV4 dc4 pm4 an4 cd4 ct4), sl4⟩) (c4 : PySem.W.codeIn K cd4 "is_length" = true) (k4 : PySem.W.keepIn K (.ref f4) = true)
    {od5 an5 : Option Addr} {sl5 : Array (Option Value)} {kV5 oc5 dc5 pm5 cd5 ct5 : Value} {f5 : Addr}
    (a5 : PySem.W.nsIn K mainGlobals "added" = some (some (.ref f5))) (l5 : K.lookup f5 = some ⟨oc5, od5, .func (PySem.W.fnOf "added" "added" (defArgs s_added) (defBody s_added) (defScope s_added) .none kV5 dc5 pm5 an5 cd5 ct5), sl5⟩) (c5 : PySem.W.codeIn K cd5 "added" = true) (k5 : PySem.W.keepIn K (.ref f5) = true)
    {od6 an6 : Option Addr} {sl6 : Array (Option Value)} {kV6 oc6 dc6 pm6 cd6 ct6 : Value} {f6 : Addr}
    (a6 : PySem.W.nsIn K mainGlobals "scaled" = some (some (.ref f6))) (l6 : K.lookup f6 = some ⟨oc6, od6, .func (PySem.W.fnOf "scaled" "scaled" (defArgs s_scaled) (defBody s_scaled) (defScope s_scaled) .none kV6 dc6 pm6 an6 cd6 ct6), sl6⟩) (c6 : PySem.W.codeIn K cd6 "scaled" = true) (k6 : PySem.W.keepIn K (.ref f6) = true)
    {od7 an7 : Option Addr} {sl7 : Array (Option Value)} {kV7 oc7 dc7 pm7 cd7 ct7 : Value} {f7 : Addr}
    (a7 : PySem.W.nsIn K mainGlobals "floor_of" = some (some (.ref f7))) (l7 : K.lookup f7 = some ⟨oc7, od7, .func (PySem.W.fnOf "floor_of" "floor_of" (defArgs s_floor_of) (defBody s_floor_of) (defScope s_floor_of) .none kV7 dc7 pm7 an7 cd7 ct7), sl7⟩) (c7 : PySem.W.codeIn K cd7 "floor_of" = true) (k7 : PySem.W.keepIn K (.ref f7) = true)
    {od8 an8 : Option Addr} {sl8 : Array (Option Value)} {oc8 dc8 pm8 cd8 ct8 : Value} {f8 : Addr} {T8 r08 : Addr} {tc8 : Value} {td8 : Option Addr} {tn8 : Nat} {ts8 : Array (Option Value)} {kV8 : Value}
    (a8 : PySem.W.findIn K (.ref C_Table) "__init__" = some (some (.ref f8))) (i8 : PySem.W.isFn K (.ref f8) = true) (l8 : K.lookup f8 = some ⟨oc8, od8, .func (PySem.W.fnOf "__init__" "Table.__init__" (defArgs s_Table_init) (defBody s_Table_init) (defScope s_Table_init) (.ref T8) kV8 dc8 pm8 an8 cd8 ct8), sl8⟩) (c8 : PySem.W.codeIn K cd8 "Table.__init__" = true) (k8 : PySem.W.keepIn K (.ref f8) = true)
    (t8 : K.lookup T8 = some ⟨tc8, td8, .seq #[.ref r08] tn8, ts8⟩)
    {y81 y82 : Addr} {y8d y8e y8f : Option Addr} {y8m y8n y8o : Nat} {y8s y8t y8u : Array (Option Value)} {y8v y8w y8x y8y : Tok}
    (y8a : K.lookup r08 = some ⟨.type "tuple", y8d, .seq #[.ref y81, .ref y82] y8m, y8s⟩) (y8b : K.lookup y81 = some ⟨.type "tuple", y8e, .seq #[.int 0 y8v, .int 0 y8w] y8n, y8t⟩) (y8c : K.lookup y82 = some ⟨.type "tuple", y8f, .seq #[.int 0 y8x, .int 0 y8y] y8o, y8u⟩)
    {od9 an9 : Option Addr} {sl9 : Array (Option Value)} {oc9 dc9 pm9 cd9 ct9 : Value} {f9 : Addr} {kV9 : Value}
    (a9 : PySem.W.findIn K (.ref C_Table) "rows" = some (some (.ref f9))) (i9 : PySem.W.isFn K (.ref f9) = true) (l9 : K.lookup f9 = some ⟨oc9, od9, .func (PySem.W.fnOf "rows" "Table.rows" (defArgs s_Table_rows) (defBody s_Table_rows) (defScope s_Table_rows) .none kV9 dc9 pm9 an9 cd9 ct9), sl9⟩) (c9 : PySem.W.codeIn K cd9 "Table.rows" = true) (k9 : PySem.W.keepIn K (.ref f9) = true)
    {od10 an10 : Option Addr} {sl10 : Array (Option Value)} {oc10 dc10 pm10 cd10 ct10 : Value} {f10 : Addr} {kV10 : Value}
    (a10 : PySem.W.findIn K (.ref C_Table) "area_for" = some (some (.ref f10))) (i10 : PySem.W.isFn K (.ref f10) = true) (l10 : K.lookup f10 = some ⟨oc10, od10, .func (PySem.W.fnOf "area_for" "Table.area_for" (defArgs s_Table_area_for) (defBody s_Table_area_for) (defScope s_Table_area_for) .none kV10 dc10 pm10 an10 cd10 ct10), sl10⟩) (c10 : PySem.W.codeIn K cd10 "Table.area_for" = true) (k10 : PySem.W.keepIn K (.ref f10) = true)
    {od11 an11 : Option Addr} {sl11 : Array (Option Value)} {oc11 dc11 pm11 cd11 ct11 : Value} {f11 : Addr} {kV11 : Value}
    (a11 : PySem.W.findIn K (.ref C_Table) "__add__" = some (some (.ref f11))) (i11 : PySem.W.isFn K (.ref f11) = true) (l11 : K.lookup f11 = some ⟨oc11, od11, .func (PySem.W.fnOf "__add__" "Table.__add__" (defArgs s_Table_add) (defBody s_Table_add) (defScope s_Table_add) .none kV11 dc11 pm11 an11 cd11 ct11), sl11⟩) (c11 : PySem.W.codeIn K cd11 "Table.__add__" = true) (k11 : PySem.W.keepIn K (.ref f11) = true)
    {od12 an12 : Option Addr} {sl12 : Array (Option Value)} {oc12 dc12 pm12 cd12 ct12 : Value} {f12 : Addr} {kV12 : Value}
    (a12 : PySem.W.findIn K (.ref C_Table) "__sub__" = some (some (.ref f12))) (i12 : PySem.W.isFn K (.ref f12) = true) (l12 : K.lookup f12 = some ⟨oc12, od12, .func (PySem.W.fnOf "__sub__" "Table.__sub__" (defArgs s_Table_sub) (defBody s_Table_sub) (defScope s_Table_sub) .none kV12 dc12 pm12 an12 cd12 ct12), sl12⟩) (c12 : PySem.W.codeIn K cd12 "Table.__sub__" = true) (k12 : PySem.W.keepIn K (.ref f12) = true)
    {od13 an13 : Option Addr} {sl13 : Array (Option Value)} {oc13 dc13 pm13 cd13 ct13 : Value} {f13 : Addr} {kV13 : Value}
    (a13 : PySem.W.findIn K (.ref C_Table) "__neg__" = some (some (.ref f13))) (i13 : PySem.W.isFn K (.ref f13) = true) (l13 : K.lookup f13 = some ⟨oc13, od13, .func (PySem.W.fnOf "__neg__" "Table.__neg__" (defArgs s_Table_neg) (defBody s_Table_neg) (defScope s_Table_neg) .none kV13 dc13 pm13 an13 cd13 ct13), sl13⟩) (c13 : PySem.W.codeIn K cd13 "Table.__neg__" = true) (k13 : PySem.W.keepIn K (.ref f13) = true)
    {od14 an14 : Option Addr} {sl14 : Array (Option Value)} {oc14 dc14 pm14 cd14 ct14 : Value} {f14 : Addr} {kV14 : Value}
    (a14 : PySem.W.findIn K (.ref C_Table) "__mul__" = some (some (.ref f14))) (i14 : PySem.W.isFn K (.ref f14) = true) (l14 : K.lookup f14 = some ⟨oc14, od14, .func (PySem.W.fnOf "__mul__" "Table.__mul__" (defArgs s_Table_mul) (defBody s_Table_mul) (defScope s_Table_mul) .none kV14 dc14 pm14 an14 cd14 ct14), sl14⟩) (c14 : PySem.W.codeIn K cd14 "Table.__mul__" = true) (k14 : PySem.W.keepIn K (.ref f14) = true)
    {od15 an15 : Option Addr} {sl15 : Array (Option Value)} {oc15 dc15 pm15 cd15 ct15 : Value} {f15 : Addr} {kV15 : Value}
    (a15 : PySem.W.findIn K (.ref C_Table) "__eq__" = some (some (.ref f15))) (i15 : PySem.W.isFn K (.ref f15) = true) (l15 : K.lookup f15 = some ⟨oc15, od15, .func (PySem.W.fnOf "__eq__" "Table.__eq__" (defArgs s_Table_eq) (defBody s_Table_eq) (defScope s_Table_eq) .none kV15 dc15 pm15 an15 cd15 ct15), sl15⟩) (c15 : PySem.W.codeIn K cd15 "Table.__eq__" = true) (k15 : PySem.W.keepIn K (.ref f15) = true)
    {od16 an16 : Option Addr} {sl16 : Array (Option Value)} {oc16 dc16 pm16 cd16 ct16 : Value} {f16 : Addr} {kV16 : Value}
    (a16 : PySem.W.findIn K (.ref C_Table) "__bool__" = some (some (.ref f16))) (i16 : PySem.W.isFn K (.ref f16) = true) (l16 : K.lookup f16 = some ⟨oc16, od16, .func (PySem.W.fnOf "__bool__" "Table.__bool__" (defArgs s_Table_bool) (defBody s_Table_bool) (defScope s_Table_bool) .none kV16 dc16 pm16 an16 cd16 ct16), sl16⟩) (c16 : PySem.W.codeIn K cd16 "Table.__bool__" = true) (k16 : PySem.W.keepIn K (.ref f16) = true)
    {od17 an17 : Option Addr} {sl17 : Array (Option Value)} {kV17 oc17 dc17 pm17 cd17 ct17 : Value} {f17 : Addr}
    (a17 : PySem.W.nsIn K mainGlobals "outer" = some (some (.ref f17))) (l17 : K.lookup f17 = some ⟨oc17, od17, .func (PySem.W.fnOf "outer" "outer" (defArgs s_outer) (defBody s_outer) (defScope s_outer) .none kV17 dc17 pm17 an17 cd17 ct17), sl17⟩) (c17 : PySem.W.codeIn K cd17 "outer" = true) (k17 : PySem.W.keepIn K (.ref f17) = true)
    {od18 an18 : Option Addr} {sl18 : Array (Option Value)} {kV18 oc18 dc18 pm18 cd18 ct18 : Value} {f18 : Addr}
    (a18 : PySem.W.nsIn K mainGlobals "is_sheet" = some (some (.ref f18))) (l18 : K.lookup f18 = some ⟨oc18, od18, .func (PySem.W.fnOf "is_sheet" "is_sheet" (defArgs s_is_sheet) (defBody s_is_sheet) (defScope s_is_sheet) .none kV18 dc18 pm18 an18 cd18 ct18), sl18⟩) (c18 : PySem.W.codeIn K cd18 "is_sheet" = true) (k18 : PySem.W.keepIn K (.ref f18) = true)
    {od19 an19 : Option Addr} {sl19 : Array (Option Value)} {kV19 oc19 dc19 pm19 cd19 ct19 : Value} {f19 : Addr}
    (a19 : PySem.W.nsIn K mainGlobals "check_rows" = some (some (.ref f19))) (l19 : K.lookup f19 = some ⟨oc19, od19, .func (PySem.W.fnOf "check_rows" "check_rows" (defArgs s_check_rows) (defBody s_check_rows) (defScope s_check_rows) .none kV19 dc19 pm19 an19 cd19 ct19), sl19⟩) (c19 : PySem.W.codeIn K cd19 "check_rows" = true) (k19 : PySem.W.keepIn K (.ref f19) = true)
    {od20 an20 : Option Addr} {sl20 : Array (Option Value)} {kV20 oc20 dc20 pm20 cd20 ct20 : Value} {f20 : Addr}
    (a20 : PySem.W.nsIn K mainGlobals "merged" = some (some (.ref f20))) (l20 : K.lookup f20 = some ⟨oc20, od20, .func (PySem.W.fnOf "merged" "merged" (defArgs s_merged) (defBody s_merged) (defScope s_merged) .none kV20 dc20 pm20 an20 cd20 ct20), sl20⟩) (c20 : PySem.W.codeIn K cd20 "merged" = true) (k20 : PySem.W.keepIn K (.ref f20) = true)
    {od21 an21 : Option Addr} {sl21 : Array (Option Value)} {oc21 dc21 pm21 cd21 ct21 : Value} {f21 : Addr} {T21 r021 : Addr} {tc21 : Value} {td21 : Option Addr} {tn21 : Nat} {ts21 : Array (Option Value)} {kV21 : Value}
    (a21 : PySem.W.findIn K (.ref C_Heap) "__init__" = some (some (.ref f21))) (i21 : PySem.W.isFn K (.ref f21) = true) (l21 : K.lookup f21 = some ⟨oc21, od21, .func (PySem.W.fnOf "__init__" "Heap.__init__" (defArgs s_Heap_init) (defBody s_Heap_init) (defScope s_Heap_init) (.ref T21) kV21 dc21 pm21 an21 cd21 ct21), sl21⟩) (c21 : PySem.W.codeIn K cd21 "Heap.__init__" = true) (k21 : PySem.W.keepIn K (.ref f21) = true)
    (t21 : K.lookup T21 = some ⟨tc21, td21, .seq #[.ref r021] tn21, ts21⟩)
    {y21d : Option Addr} {y21m : Nat} {y21s : Array (Option Value)} (y21a : K.lookup r021 = some ⟨.type "tuple", y21d, .seq #[] y21m, y21s⟩)
    {od22 an22 : Option Addr} {sl22 : Array (Option Value)} {oc22 kV22 dc22 pm22 cd22 ct22 : Value} {f22 p22 : Addr} {q22 : List Value}
    (a22 : PySem.W.findCls K (.ref C_Heap) (.type "type") "of" = some (.get (.builtin "classmethod.__get__") (.ref p22) .none (.ref C_Heap))) (r22 : PySem.W.recIn K p22 "classmethod" = some (.ref f22 :: q22)) (i22 : PySem.W.fnIn K f22 = true) (rd22 : PySem.W.readsIn K C_Heap (.type "type") = true) (gt22 : PySem.W.specialIn K (.ref C_Heap) "__getattribute__" = some (some (.builtin "type.__getattribute__"))) (l22 : K.lookup f22 = some ⟨oc22, od22, .func (PySem.W.fnOf "of" "Heap.of" (defArgs s_Heap_of) (defBody s_Heap_of) (defScope s_Heap_of) .none kV22 dc22 pm22 an22 cd22 ct22), sl22⟩) (c22 : PySem.W.codeIn K cd22 "Heap.of" = true) (k22 : PySem.W.keepIn K (.ref f22) = true)
    {od23 an23 : Option Addr} {sl23 : Array (Option Value)} {oc23 kV23 dc23 pm23 cd23 ct23 : Value} {f23 p23 : Addr} {q23 : List Value}
    (a23 : PySem.W.findIn K (.ref C_Heap) "root" = some (some (.ref p23))) (gp23 : PySem.W.specialIn K (.ref p23) "__get__" = some (some (.builtin "property.__get__"))) (tp23 : PySem.W.takesIn K (.ref p23) = some true) (rp23 : PySem.W.recIn K p23 "property" = some (.ref f23 :: q23)) (l23 : K.lookup f23 = some ⟨oc23, od23, .func (PySem.W.fnOf "root" "Heap.root" (defArgs s_Heap_root) (defBody s_Heap_root) (defScope s_Heap_root) .none kV23 dc23 pm23 an23 cd23 ct23), sl23⟩) (c23 : PySem.W.codeIn K cd23 "Heap.root" = true) (k23 : PySem.W.keepIn K (.ref f23) = true)
    {od24 an24 : Option Addr} {sl24 : Array (Option Value)} {oc24 kV24 dc24 pm24 cd24 ct24 : Value} {f24 p24 : Addr} {q24 : List Value}
    (a24 : PySem.W.findIn K (.ref C_Heap) "many" = some (some (.ref p24))) (gp24 : PySem.W.specialIn K (.ref p24) "__get__" = some (some (.builtin "property.__get__"))) (tp24 : PySem.W.takesIn K (.ref p24) = some true) (rp24 : PySem.W.recIn K p24 "property" = some (.ref f24 :: q24)) (l24 : K.lookup f24 = some ⟨oc24, od24, .func (PySem.W.fnOf "many" "Heap.many" (defArgs s_Heap_many) (defBody s_Heap_many) (defScope s_Heap_many) .none kV24 dc24 pm24 an24 cd24 ct24), sl24⟩) (c24 : PySem.W.codeIn K cd24 "Heap.many" = true) (k24 : PySem.W.keepIn K (.ref f24) = true)
    {od25 an25 : Option Addr} {sl25 : Array (Option Value)} {oc25 dc25 pm25 cd25 ct25 : Value} {f25 : Addr} {kV25 : Value}
    (a25 : PySem.W.findIn K (.ref C_Heap) "rows" = some (some (.ref f25))) (i25 : PySem.W.isFn K (.ref f25) = true) (l25 : K.lookup f25 = some ⟨oc25, od25, .func (PySem.W.fnOf "rows" "Heap.rows" (defArgs s_Heap_rows) (defBody s_Heap_rows) (defScope s_Heap_rows) .none kV25 dc25 pm25 an25 cd25 ct25), sl25⟩) (c25 : PySem.W.codeIn K cd25 "Heap.rows" = true) (k25 : PySem.W.keepIn K (.ref f25) = true)
    {od26 an26 : Option Addr} {sl26 : Array (Option Value)} {oc26 dc26 pm26 cd26 ct26 : Value} {f26 : Addr} {kV26 : Value}
    (a26 : PySem.W.findIn K (.ref C_Heap) "__eq__" = some (some (.ref f26))) (i26 : PySem.W.isFn K (.ref f26) = true) (l26 : K.lookup f26 = some ⟨oc26, od26, .func (PySem.W.fnOf "__eq__" "Heap.__eq__" (defArgs s_Heap_eq) (defBody s_Heap_eq) (defScope s_Heap_eq) .none kV26 dc26 pm26 an26 cd26 ct26), sl26⟩) (c26 : PySem.W.codeIn K cd26 "Heap.__eq__" = true) (k26 : PySem.W.keepIn K (.ref f26) = true)
    {od27 an27 : Option Addr} {sl27 : Array (Option Value)} {oc27 dc27 pm27 cd27 ct27 : Value} {f27 : Addr} {kV27 : Value}
    (a27 : PySem.W.findIn K (.ref C_Heap) "__bool__" = some (some (.ref f27))) (i27 : PySem.W.isFn K (.ref f27) = true) (l27 : K.lookup f27 = some ⟨oc27, od27, .func (PySem.W.fnOf "__bool__" "Heap.__bool__" (defArgs s_Heap_bool) (defBody s_Heap_bool) (defScope s_Heap_bool) .none kV27 dc27 pm27 an27 cd27 ct27), sl27⟩) (c27 : PySem.W.codeIn K cd27 "Heap.__bool__" = true) (k27 : PySem.W.keepIn K (.ref f27) = true)
    {od28 an28 : Option Addr} {sl28 : Array (Option Value)} {kV28 oc28 dc28 pm28 cd28 ct28 : Value} {f28 : Addr}
    (a28 : PySem.W.nsIn K mainGlobals "endless_fractions" = some (some (.ref f28))) (l28 : K.lookup f28 = some ⟨oc28, od28, .func (PySem.W.fnOf "endless_fractions" "endless_fractions" (defArgs s_endless_fractions) (defBody s_endless_fractions) (defScope s_endless_fractions) .none kV28 dc28 pm28 an28 cd28 ct28), sl28⟩) (c28 : PySem.W.codeIn K cd28 "endless_fractions" = true) (k28 : PySem.W.keepIn K (.ref f28) = true)
    {od29 an29 : Option Addr} {sl29 : Array (Option Value)} {kV29 oc29 dc29 pm29 cd29 ct29 : Value} {f29 : Addr}
    (a29 : PySem.W.nsIn K mainGlobals "tile_of" = some (some (.ref f29))) (l29 : K.lookup f29 = some ⟨oc29, od29, .func (PySem.W.fnOf "tile_of" "tile_of" (defArgs s_tile_of) (defBody s_tile_of) (defScope s_tile_of) .none kV29 dc29 pm29 an29 cd29 ct29), sl29⟩) (c29 : PySem.W.codeIn K cd29 "tile_of" = true) (k29 : PySem.W.keepIn K (.ref f29) = true)
    {od30 an30 : Option Addr} {sl30 : Array (Option Value)} {kV30 oc30 dc30 pm30 cd30 ct30 : Value} {f30 : Addr}
    (a30 : PySem.W.nsIn K mainGlobals "two_sheets" = some (some (.ref f30))) (l30 : K.lookup f30 = some ⟨oc30, od30, .func (PySem.W.fnOf "two_sheets" "two_sheets" (defArgs s_two_sheets) (defBody s_two_sheets) (defScope s_two_sheets) .none kV30 dc30 pm30 an30 cd30 ct30), sl30⟩) (c30 : PySem.W.codeIn K cd30 "two_sheets" = true) (k30 : PySem.W.keepIn K (.ref f30) = true)
    {od31 an31 : Option Addr} {sl31 : Array (Option Value)} {kV31 oc31 dc31 pm31 cd31 ct31 : Value} {f31 : Addr}
    (a31 : PySem.W.nsIn K mainGlobals "heap_of_table" = some (some (.ref f31))) (l31 : K.lookup f31 = some ⟨oc31, od31, .func (PySem.W.fnOf "heap_of_table" "heap_of_table" (defArgs s_heap_of_table) (defBody s_heap_of_table) (defScope s_heap_of_table) .none kV31 dc31 pm31 an31 cd31 ct31), sl31⟩) (c31 : PySem.W.codeIn K cd31 "heap_of_table" = true) (k31 : PySem.W.keepIn K (.ref f31) = true)
    {od32 an32 : Option Addr} {sl32 : Array (Option Value)} {kV32 oc32 dc32 pm32 cd32 ct32 : Value} {f32 : Addr}
    (a32 : PySem.W.nsIn K mainGlobals "_law_source" = some (some (.ref f32))) (l32 : K.lookup f32 = some ⟨oc32, od32, .func (PySem.W.fnOf "_law_source" "_law_source" (defArgs s_source) (defBody s_source) (defScope s_source) .none kV32 dc32 pm32 an32 cd32 ct32), sl32⟩) (c32 : PySem.W.codeIn K cd32 "_law_source" = true) (k32 : PySem.W.keepIn K (.ref f32) = true)
    {od33 an33 : Option Addr} {sl33 : Array (Option Value)} {kV33 oc33 dc33 pm33 cd33 ct33 : Value} {f33 : Addr}
    (a33 : PySem.W.nsIn K mainGlobals "_law_pull" = some (some (.ref f33))) (l33 : K.lookup f33 = some ⟨oc33, od33, .func (PySem.W.fnOf "_law_pull" "_law_pull" (defArgs s_pull) (defBody s_pull) (defScope s_pull) .none kV33 dc33 pm33 an33 cd33 ct33), sl33⟩) (c33 : PySem.W.codeIn K cd33 "_law_pull" = true) (k33 : PySem.W.keepIn K (.ref f33) = true)
    {od34 an34 : Option Addr} {sl34 : Array (Option Value)} {kV34 oc34 dc34 pm34 cd34 ct34 : Value} {f34 : Addr}
    (a34 : PySem.W.nsIn K mainGlobals "_law_of" = some (some (.ref f34))) (l34 : K.lookup f34 = some ⟨oc34, od34, .func (PySem.W.fnOf "_law_of" "_law_of" (defArgs s_of) (defBody s_of) (defScope s_of) .none kV34 dc34 pm34 an34 cd34 ct34), sl34⟩) (c34 : PySem.W.codeIn K cd34 "_law_of" = true) (k34 : PySem.W.keepIn K (.ref f34) = true)
    {od35 an35 : Option Addr} {sl35 : Array (Option Value)} {kV35 oc35 dc35 pm35 cd35 ct35 : Value} {f35 : Addr}
    (a35 : PySem.W.nsIn K mainGlobals "_law_roots" = some (some (.ref f35))) (l35 : K.lookup f35 = some ⟨oc35, od35, .func (PySem.W.fnOf "_law_roots" "_law_roots" (defArgs s_roots) (defBody s_roots) (defScope s_roots) .none kV35 dc35 pm35 an35 cd35 ct35), sl35⟩) (c35 : PySem.W.codeIn K cd35 "_law_roots" = true) (k35 : PySem.W.keepIn K (.ref f35) = true)
    {od36 an36 : Option Addr} {sl36 : Array (Option Value)} {kV36 oc36 dc36 pm36 cd36 ct36 : Value} {f36 : Addr}
    (a36 : PySem.W.nsIn K mainGlobals "_law_a_root" = some (some (.ref f36))) (l36 : K.lookup f36 = some ⟨oc36, od36, .func (PySem.W.fnOf "_law_a_root" "_law_a_root" (defArgs s_a_root) (defBody s_a_root) (defScope s_a_root) .none kV36 dc36 pm36 an36 cd36 ct36), sl36⟩) (c36 : PySem.W.codeIn K cd36 "_law_a_root" = true) (k36 : PySem.W.keepIn K (.ref f36) = true)
    {od37 an37 : Option Addr} {sl37 : Array (Option Value)} {kV37 oc37 dc37 pm37 cd37 ct37 : Value} {f37 : Addr}
    (a37 : PySem.W.nsIn K mainGlobals "_law_four" = some (some (.ref f37))) (l37 : K.lookup f37 = some ⟨oc37, od37, .func (PySem.W.fnOf "_law_four" "_law_four" (defArgs s_four) (defBody s_four) (defScope s_four) .none kV37 dc37 pm37 an37 cd37 ct37), sl37⟩) (c37 : PySem.W.codeIn K cd37 "_law_four" = true) (k37 : PySem.W.keepIn K (.ref f37) = true)
    {od38 an38 : Option Addr} {sl38 : Array (Option Value)} {kV38 oc38 dc38 pm38 cd38 ct38 : Value} {f38 : Addr}
    (a38 : PySem.W.nsIn K mainGlobals "_law_stock_of" = some (some (.ref f38))) (l38 : K.lookup f38 = some ⟨oc38, od38, .func (PySem.W.fnOf "_law_stock_of" "_law_stock_of" (defArgs s_stock_of) (defBody s_stock_of) (defScope s_stock_of) .none kV38 dc38 pm38 an38 cd38 ct38), sl38⟩) (c38 : PySem.W.codeIn K cd38 "_law_stock_of" = true) (k38 : PySem.W.keepIn K (.ref f38) = true)
    {od39 an39 : Option Addr} {sl39 : Array (Option Value)} {kV39 oc39 dc39 pm39 cd39 ct39 : Value} {f39 : Addr}
    (a39 : PySem.W.nsIn K mainGlobals "_law_any_pair" = some (some (.ref f39))) (l39 : K.lookup f39 = some ⟨oc39, od39, .func (PySem.W.fnOf "_law_any_pair" "_law_any_pair" (defArgs s_any_pair) (defBody s_any_pair) (defScope s_any_pair) .none kV39 dc39 pm39 an39 cd39 ct39), sl39⟩) (c39 : PySem.W.codeIn K cd39 "_law_any_pair" = true) (k39 : PySem.W.keepIn K (.ref f39) = true)
    {od40 an40 : Option Addr} {sl40 : Array (Option Value)} {kV40 oc40 dc40 pm40 cd40 ct40 : Value} {f40 : Addr}
    (a40 : PySem.W.nsIn K mainGlobals "_law_sign" = some (some (.ref f40))) (l40 : K.lookup f40 = some ⟨oc40, od40, .func (PySem.W.fnOf "_law_sign" "_law_sign" (defArgs s_lsign) (defBody s_lsign) (defScope s_lsign) .none kV40 dc40 pm40 an40 cd40 ct40), sl40⟩) (c40 : PySem.W.codeIn K cd40 "_law_sign" = true) (k40 : PySem.W.keepIn K (.ref f40) = true)
    {od41 an41 : Option Addr} {sl41 : Array (Option Value)} {kV41 oc41 dc41 pm41 cd41 ct41 : Value} {f41 : Addr}
    (a41 : PySem.W.nsIn K mainGlobals "_law_a_length" = some (some (.ref f41))) (l41 : K.lookup f41 = some ⟨oc41, od41, .func (PySem.W.fnOf "_law_a_length" "_law_a_length" (defArgs s_a_length) (defBody s_a_length) (defScope s_a_length) .none kV41 dc41 pm41 an41 cd41 ct41), sl41⟩) (c41 : PySem.W.codeIn K cd41 "_law_a_length" = true) (k41 : PySem.W.keepIn K (.ref f41) = true)
    {od42 an42 : Option Addr} {sl42 : Array (Option Value)} {kV42 oc42 dc42 pm42 cd42 ct42 : Value} {f42 : Addr}
    (a42 : PySem.W.nsIn K mainGlobals "_law_a_sheet" = some (some (.ref f42))) (l42 : K.lookup f42 = some ⟨oc42, od42, .func (PySem.W.fnOf "_law_a_sheet" "_law_a_sheet" (defArgs s_a_sheet) (defBody s_a_sheet) (defScope s_a_sheet) .none kV42 dc42 pm42 an42 cd42 ct42), sl42⟩) (c42 : PySem.W.codeIn K cd42 "_law_a_sheet" = true) (k42 : PySem.W.keepIn K (.ref f42) = true)
    {od43 an43 : Option Addr} {sl43 : Array (Option Value)} {kV43 oc43 dc43 pm43 cd43 ct43 : Value} {f43 : Addr}
    (a43 : PySem.W.nsIn K mainGlobals "_law_some_count" = some (some (.ref f43))) (l43 : K.lookup f43 = some ⟨oc43, od43, .func (PySem.W.fnOf "_law_some_count" "_law_some_count" (defArgs s_some_count) (defBody s_some_count) (defScope s_some_count) .none kV43 dc43 pm43 an43 cd43 ct43), sl43⟩) (c43 : PySem.W.codeIn K cd43 "_law_some_count" = true) (k43 : PySem.W.keepIn K (.ref f43) = true)
    {od44 an44 : Option Addr} {sl44 : Array (Option Value)} {kV44 oc44 dc44 pm44 cd44 ct44 : Value} {f44 : Addr}
    (a44 : PySem.W.nsIn K mainGlobals "_law_some_rows" = some (some (.ref f44))) (l44 : K.lookup f44 = some ⟨oc44, od44, .func (PySem.W.fnOf "_law_some_rows" "_law_some_rows" (defArgs s_some_rows) (defBody s_some_rows) (defScope s_some_rows) .none kV44 dc44 pm44 an44 cd44 ct44), sl44⟩) (c44 : PySem.W.codeIn K cd44 "_law_some_rows" = true) (k44 : PySem.W.keepIn K (.ref f44) = true)
    {od45 an45 : Option Addr} {sl45 : Array (Option Value)} {kV45 oc45 dc45 pm45 cd45 ct45 : Value} {f45 : Addr}
    (a45 : PySem.W.nsIn K mainGlobals "_law_scaled" = some (some (.ref f45))) (l45 : K.lookup f45 = some ⟨oc45, od45, .func (PySem.W.fnOf "_law_scaled" "_law_scaled" (defArgs s_lscaled) (defBody s_lscaled) (defScope s_lscaled) .none kV45 dc45 pm45 an45 cd45 ct45), sl45⟩) (c45 : PySem.W.codeIn K cd45 "_law_scaled" = true) (k45 : PySem.W.keepIn K (.ref f45) = true)
    {od46 an46 : Option Addr} {sl46 : Array (Option Value)} {kV46 oc46 dc46 pm46 cd46 ct46 : Value} {f46 : Addr}
    (a46 : PySem.W.nsIn K mainGlobals "_law_fractions" = some (some (.ref f46))) (l46 : K.lookup f46 = some ⟨oc46, od46, .func (PySem.W.fnOf "_law_fractions" "_law_fractions" (defArgs s_lfractions) (defBody s_lfractions) (defScope s_lfractions) .none kV46 dc46 pm46 an46 cd46 ct46), sl46⟩) (c46 : PySem.W.codeIn K cd46 "_law_fractions" = true) (k46 : PySem.W.keepIn K (.ref f46) = true)
    {od47 an47 : Option Addr} {sl47 : Array (Option Value)} {kV47 oc47 dc47 pm47 cd47 ct47 : Value} {f47 : Addr}
    (a47 : PySem.W.nsIn K mainGlobals "_law_tile_pair" = some (some (.ref f47))) (l47 : K.lookup f47 = some ⟨oc47, od47, .func (PySem.W.fnOf "_law_tile_pair" "_law_tile_pair" (defArgs s_tile_pair) (defBody s_tile_pair) (defScope s_tile_pair) .none kV47 dc47 pm47 an47 cd47 ct47), sl47⟩) (c47 : PySem.W.codeIn K cd47 "_law_tile_pair" = true) (k47 : PySem.W.keepIn K (.ref f47) = true)
    {od48 an48 : Option Addr} {sl48 : Array (Option Value)} {kV48 oc48 dc48 pm48 cd48 ct48 : Value} {f48 : Addr}
    (a48 : PySem.W.nsIn K mainGlobals "_law_a_number" = some (some (.ref f48))) (l48 : K.lookup f48 = some ⟨oc48, od48, .func (PySem.W.fnOf "_law_a_number" "_law_a_number" (defArgs s_a_number) (defBody s_a_number) (defScope s_a_number) .none kV48 dc48 pm48 an48 cd48 ct48), sl48⟩) (c48 : PySem.W.codeIn K cd48 "_law_a_number" = true) (k48 : PySem.W.keepIn K (.ref f48) = true)
    {od49 an49 : Option Addr} {sl49 : Array (Option Value)} {kV49 oc49 dc49 pm49 cd49 ct49 : Value} {f49 : Addr}
    (a49 : PySem.W.nsIn K mainGlobals "_law_any_four" = some (some (.ref f49))) (l49 : K.lookup f49 = some ⟨oc49, od49, .func (PySem.W.fnOf "_law_any_four" "_law_any_four" (defArgs s_any_four) (defBody s_any_four) (defScope s_any_four) .none kV49 dc49 pm49 an49 cd49 ct49), sl49⟩) (c49 : PySem.W.codeIn K cd49 "_law_any_four" = true) (k49 : PySem.W.keepIn K (.ref f49) = true)
    {od50 an50 : Option Addr} {sl50 : Array (Option Value)} {kV50 oc50 dc50 pm50 cd50 ct50 : Value} {f50 : Addr}
    (a50 : PySem.W.nsIn K mainGlobals "_law_area_of" = some (some (.ref f50))) (l50 : K.lookup f50 = some ⟨oc50, od50, .func (PySem.W.fnOf "_law_area_of" "_law_area_of" (defArgs s_area_of) (defBody s_area_of) (defScope s_area_of) .none kV50 dc50 pm50 an50 cd50 ct50), sl50⟩) (c50 : PySem.W.codeIn K cd50 "_law_area_of" = true) (k50 : PySem.W.keepIn K (.ref f50) = true)
    {od51 an51 : Option Addr} {sl51 : Array (Option Value)} {kV51 oc51 dc51 pm51 cd51 ct51 : Value} {f51 : Addr}
    (a51 : PySem.W.nsIn K mainGlobals "_law_field_of" = some (some (.ref f51))) (l51 : K.lookup f51 = some ⟨oc51, od51, .func (PySem.W.fnOf "_law_field_of" "_law_field_of" (defArgs s_field_of) (defBody s_field_of) (defScope s_field_of) .none kV51 dc51 pm51 an51 cd51 ct51), sl51⟩) (c51 : PySem.W.codeIn K cd51 "_law_field_of" = true) (k51 : PySem.W.keepIn K (.ref f51) = true)
    {od52 an52 : Option Addr} {sl52 : Array (Option Value)} {kV52 oc52 dc52 pm52 cd52 ct52 : Value} {f52 : Addr}
    (a52 : PySem.W.nsIn K mainGlobals "_law_try" = some (some (.ref f52))) (l52 : K.lookup f52 = some ⟨oc52, od52, .func (PySem.W.fnOf "_law_try" "_law_try" (defArgs s_try) (defBody s_try) (defScope s_try) .none kV52 dc52 pm52 an52 cd52 ct52), sl52⟩) (c52 : PySem.W.codeIn K cd52 "_law_try" = true) (k52 : PySem.W.keepIn K (.ref f52) = true)
    {od53 an53 : Option Addr} {sl53 : Array (Option Value)} {kV53 oc53 dc53 pm53 cd53 ct53 : Value} {f53 : Addr}
    (a53 : PySem.W.nsIn K mainGlobals "_law_all_sides" = some (some (.ref f53))) (l53 : K.lookup f53 = some ⟨oc53, od53, .func (PySem.W.fnOf "_law_all_sides" "_law_all_sides" (defArgs s_all_sides) (defBody s_all_sides) (defScope s_all_sides) .none kV53 dc53 pm53 an53 cd53 ct53), sl53⟩) (c53 : PySem.W.codeIn K cd53 "_law_all_sides" = true) (k53 : PySem.W.keepIn K (.ref f53) = true)
    {od54 an54 : Option Addr} {sl54 : Array (Option Value)} {kV54 oc54 dc54 pm54 ct54 : Value} {f54 : Addr}
    (a54 : PySem.W.nsIn K mainGlobals "law" = some (some (.ref f54))) (l54 : K.lookup f54 = some ⟨oc54, od54, .func (PySem.W.fnOf "law" "law" (defArgs s_law) (defBody s_law) (defScope s_law) .none kV54 dc54 pm54 an54 (.ref cL) ct54), sl54⟩) (c54 : PySem.W.codeIn K (.ref cL) "law" = true) (k54 : PySem.W.keepIn K (.ref f54) = true)
    (z0 : PySem.W.nsIn K mainGlobals "ValueError" = some none)
    (z1 : PySem.W.nsIn K mainGlobals "LookupError" = some none)
    (z2 : PySem.W.nsIn K mainGlobals "IndexError" = some none)
    (z3 : PySem.W.nsIn K mainGlobals "enumerate" = some none)
    (z4 : PySem.W.nsIn K mainGlobals "range" = some none)
    (z5 : PySem.W.nsIn K mainGlobals "sorted" = some none)
    (z6 : PySem.W.nsIn K mainGlobals "str" = some none)
    (z7 : PySem.W.nsIn K mainGlobals "sum" = some none)
    (z8 : PySem.W.nsIn K mainGlobals "any" = some none)
    (z9 : PySem.W.nsIn K mainGlobals "list" = some none)
    (z10 : PySem.W.nsIn K mainGlobals "bool" = some none)
    (z11 : PySem.W.nsIn K mainGlobals "len" = some none)
    (z12 : PySem.W.nsIn K mainGlobals "int" = some none)
    (z13 : PySem.W.nsIn K mainGlobals "abs" = some none)
    (z14 : PySem.W.nsIn K mainGlobals "isinstance" = some none)
    (z15 : PySem.W.nsIn K mainGlobals "all" = some none)
    (hn : PySem.W.specialIn K (.builtin "object.__class__") "__get__" = some (some (.builtin "getset_descriptor.__get__"))) (ht : PySem.W.takesIn K (.builtin "object.__class__") = some true)
    {CGrainError : Addr} {DGrainError : ClassData} (aGrainError : PySem.W.nsIn K mainGlobals "GrainError" = some (some (.ref CGrainError))) (cGrainError : PySem.W.clsIn K CGrainError = some DGrainError) (nGrainError : DGrainError.name = "GrainError") (tGrainError : PySem.W.typeIn K (.ref CGrainError) = some (.type "type")) (sbGrainError : PySem.W.subIn K (.ref CGrainError) (.type "BaseException") = some true)
    {CGrainMissing : Addr} {DGrainMissing : ClassData} (aGrainMissing : PySem.W.nsIn K mainGlobals "GrainMissing" = some (some (.ref CGrainMissing))) (cGrainMissing : PySem.W.clsIn K CGrainMissing = some DGrainMissing) (nGrainMissing : DGrainMissing.name = "GrainMissing") (tGrainMissing : PySem.W.typeIn K (.ref CGrainMissing) = some (.type "type")) (sbGrainMissing : PySem.W.subIn K (.ref CGrainMissing) (.type "BaseException") = some true)
    (E_BadRoot : ErW PySem.Challenge.pw_grainyard_k34_heaps_with_a_table K mg "ValueError" "ValueError.__new__" "ValueError.__init__" [.type "ValueError", .type "Exception", .type "BaseException", .type "object"] [.ref CGrainError] i_BadRoot "BadRoot" "BadRoot.__init__" ["word", "number"])
    (E_BadCount : ErW PySem.Challenge.pw_grainyard_k34_heaps_with_a_table K mg "ValueError" "ValueError.__new__" "ValueError.__init__" [.type "ValueError", .type "Exception", .type "BaseException", .type "object"] [.ref CGrainError] i_BadCount "BadCount" "BadCount.__init__" ["word", "number"])
    (E_BadRow : ErW PySem.Challenge.pw_grainyard_k34_heaps_with_a_table K mg "ValueError" "ValueError.__new__" "ValueError.__init__" [.type "ValueError", .type "Exception", .type "BaseException", .type "object"] [.ref CGrainError] i_BadRow "BadRow" "BadRow.__init__" ["word", "at"])
    (E_OtherRoot : ErW PySem.Challenge.pw_grainyard_k34_heaps_with_a_table K mg "ValueError" "ValueError.__new__" "ValueError.__init__" [.type "ValueError", .type "Exception", .type "BaseException", .type "object"] [.ref CGrainError] i_OtherRoot "OtherRoot" "OtherRoot.__init__" ["word"])
    (E_NotEnough : ErW PySem.Challenge.pw_grainyard_k34_heaps_with_a_table K mg "ValueError" "ValueError.__new__" "ValueError.__init__" [.type "ValueError", .type "Exception", .type "BaseException", .type "object"] [.ref CGrainError] i_NotEnough "NotEnough" "NotEnough.__init__" ["word"])
    (E_NoSheet : ErW PySem.Challenge.pw_grainyard_k34_heaps_with_a_table K mg "LookupError" "LookupError.__new__" "LookupError.__init__" [.type "LookupError", .type "Exception", .type "BaseException", .type "object"] [.ref CGrainMissing] i_NoSheet "NoSheet" "NoSheet.__init__" ["word", "sheet"])
    (E_NothingLeft : ErW PySem.Challenge.pw_grainyard_k34_heaps_with_a_table K mg "IndexError" "IndexError.__new__" "IndexError.__init__" [.type "IndexError", .type "LookupError", .type "Exception", .type "BaseException", .type "object"] [] i_NothingLeft "NothingLeft" "NothingLeft.__init__" ["word"])
    (tabL : h.get? PL = some { cls := .none, data := .fields #[] }) (noL : K.lookup PL = none) (hdL : PySem.W.codeHdIn K cL PL = true) : LamX.LawAtS l w K CX0 20 63 "_law_script" mg fa h := by
  have e := hfa.symm.trans (PySem.W.mg_of X G a54)
  cases e
  have F0 := fun_mk (st := s_whole_root) l0 c0 k0
  have b0 := F0.binds (ps := ["number"]) fun _ _ _ _ _ _ us hl => match us, hl with | [_], _ => rfl
  have F1 := fun_mk (st := s_is_root) l1 c1 k1
  have b1 := F1.binds (ps := ["number"]) fun _ _ _ _ _ _ us hl => match us, hl with | [_], _ => rfl
  have F2 := fun_mk (st := s_check_root) l2 c2 k2
  have b2 := F2.binds (ps := ["root"]) fun _ _ _ _ _ _ us hl => match us, hl with | [_], _ => rfl
  have F3 := fun_mk (st := s_sign) l3 c3 k3
  have b3 := F3.binds (ps := ["pair", "root"]) fun _ _ _ _ _ _ us hl => match us, hl with | [_, _], _ => rfl
  have F4 := fun_mk (st := s_is_length) l4 c4 k4
  have b4 := F4.binds (ps := ["pair", "root"]) fun _ _ _ _ _ _ us hl => match us, hl with | [_, _], _ => rfl
  have F5 := fun_mk (st := s_added) l5 c5 k5
  have F6 := fun_mk (st := s_scaled) l6 c6 k6
  have b6 := F6.binds (ps := ["pair", "number"]) fun _ _ _ _ _ _ us hl => match us, hl with | [_, _], _ => rfl
  have F7 := fun_mk (st := s_floor_of) l7 c7 k7
  have b7 := F7.binds (ps := ["pair", "root"]) fun _ _ _ _ _ _ us hl => match us, hl with | [_, _], _ => rfl
  have F8 : FunD K "__init__" "Table.__init__" (defArgs s_Table_init) (defBody s_Table_init) (defScope s_Table_init) [.ref r08] [] f8 _ := ⟨⟨_, _, _, _, _, _, _, _, _, _, rfl, l8, c8, .inr ⟨by simp, T8, _, [.ref r08], _, rfl, t8, rfl, .cons rfl .nil⟩, .inl rfl⟩, k8⟩
  have b8 := bd_given l8 t8 (ps := ["self", "rows"]) (fun us hl => match us, hl with | [_, _], _ => ⟨_, rfl, rfl⟩)
  have e8 := bd_dflt l8 t8 (ps := ["self", "rows"]) (fun us hl => match us, hl with | [_], _ => ⟨_, rfl, rfl⟩)
  have F9 := fun_mk (st := s_Table_rows) l9 c9 k9
  have b9 := F9.binds (ps := ["self"]) fun _ _ _ _ _ _ us hl => match us, hl with | [_], _ => rfl
  have F10 := fun_mk (st := s_Table_area_for) l10 c10 k10
  have b10 := F10.binds (ps := ["self", "root"]) fun _ _ _ _ _ _ us hl => match us, hl with | [_, _], _ => rfl
  have F11 := fun_mk (st := s_Table_add) l11 c11 k11
  have b11 := F11.binds (ps := ["self", "other"]) fun _ _ _ _ _ _ us hl => match us, hl with | [_, _], _ => rfl
  have F12 := fun_mk (st := s_Table_sub) l12 c12 k12
  have b12 := F12.binds (ps := ["self", "other"]) fun _ _ _ _ _ _ us hl => match us, hl with | [_, _], _ => rfl
  have F13 := fun_mk (st := s_Table_neg) l13 c13 k13
  have b13 := F13.binds (ps := ["self"]) fun _ _ _ _ _ _ us hl => match us, hl with | [_], _ => rfl
  have F14 := fun_mk (st := s_Table_mul) l14 c14 k14
  have b14 := F14.binds (ps := ["self", "other"]) fun _ _ _ _ _ _ us hl => match us, hl with | [_, _], _ => rfl
  have F15 := fun_mk (st := s_Table_eq) l15 c15 k15
  have b15 := F15.binds (ps := ["self", "other"]) fun _ _ _ _ _ _ us hl => match us, hl with | [_, _], _ => rfl
  have F16 := fun_mk (st := s_Table_bool) l16 c16 k16
  have b16 := F16.binds (ps := ["self"]) fun _ _ _ _ _ _ us hl => match us, hl with | [_], _ => rfl
  have F17 := fun_mk (st := s_outer) l17 c17 k17
  have b17 := F17.binds (ps := ["one", "other"]) fun _ _ _ _ _ _ us hl => match us, hl with | [_, _], _ => rfl
  have F18 := fun_mk (st := s_is_sheet) l18 c18 k18
  have b18 := F18.binds (ps := ["sheet", "root"]) fun _ _ _ _ _ _ us hl => match us, hl with | [_, _], _ => rfl
  have F19 := fun_mk (st := s_check_rows) l19 c19 k19
  have b19 := F19.binds (ps := ["rows", "root"]) fun _ _ _ _ _ _ us hl => match us, hl with | [_, _], _ => rfl
  have F20 := fun_mk (st := s_merged) l20 c20 k20
  have b20 := F20.binds (ps := ["rows"]) fun _ _ _ _ _ _ us hl => match us, hl with | [_], _ => rfl
  have F21 : FunD K "__init__" "Heap.__init__" (defArgs s_Heap_init) (defBody s_Heap_init) (defScope s_Heap_init) [.ref r021] [] f21 _ := ⟨⟨_, _, _, _, _, _, _, _, _, _, rfl, l21, c21, .inr ⟨by simp, T21, _, [.ref r021], _, rfl, t21, rfl, .cons rfl .nil⟩, .inl rfl⟩, k21⟩
  have b21 := bd_given l21 t21 (ps := ["self", "root", "rows"]) (fun us hl => match us, hl with | [_, _, _], _ => ⟨_, rfl, rfl⟩)
  have e21 := bd_dflt l21 t21 (ps := ["self", "root", "rows"]) (fun us hl => match us, hl with | [_, _], _ => ⟨_, rfl, rfl⟩)
  have F22 := fun_mk (st := s_Heap_of) l22 c22 k22
  have F23 := fun_mk (st := s_Heap_root) l23 c23 k23
  have b23 := F23.binds (ps := ["self"]) fun _ _ _ _ _ _ us hl => match us, hl with | [_], _ => rfl
  have F24 := fun_mk (st := s_Heap_many) l24 c24 k24
  have b24 := F24.binds (ps := ["self"]) fun _ _ _ _ _ _ us hl => match us, hl with | [_], _ => rfl
  have F25 := fun_mk (st := s_Heap_rows) l25 c25 k25
  have b25 := F25.binds (ps := ["self"]) fun _ _ _ _ _ _ us hl => match us, hl with | [_], _ => rfl
  have F26 := fun_mk (st := s_Heap_eq) l26 c26 k26
  have b26 := F26.binds (ps := ["self", "other"]) fun _ _ _ _ _ _ us hl => match us, hl with | [_, _], _ => rfl
  have F27 := fun_mk (st := s_Heap_bool) l27 c27 k27
  have b27 := F27.binds (ps := ["self"]) fun _ _ _ _ _ _ us hl => match us, hl with | [_], _ => rfl
  have F28 := fun_mk (st := s_endless_fractions) l28 c28 k28
  have b28 := F28.binds (ps := ["root"]) fun _ _ _ _ _ _ us hl => match us, hl with | [_], _ => rfl
  have F29 := fun_mk (st := s_tile_of) l29 c29 k29
  have b29 := F29.binds (ps := ["number", "fraction"]) fun _ _ _ _ _ _ us hl => match us, hl with | [_, _], _ => rfl
  have F30 := fun_mk (st := s_two_sheets) l30 c30 k30
  have b30 := F30.binds (ps := ["table", "root"]) fun _ _ _ _ _ _ us hl => match us, hl with | [_, _], _ => rfl
  have F31 := fun_mk (st := s_heap_of_table) l31 c31 k31
  have b31 := F31.binds (ps := ["table", "root"]) fun _ _ _ _ _ _ us hl => match us, hl with | [_, _], _ => rfl
  have F32 := fun_mk (st := s_source) l32 c32 k32
  have b32 := F32.binds (ps := ["_law_script"]) fun _ _ _ _ _ _ us hl => match us, hl with | [_], _ => rfl
  have F33 := fun_mk (st := s_pull) l33 c33 k33
  have b33 := F33.binds (ps := ["_law_bag", "_law_size"]) fun _ _ _ _ _ _ us hl => match us, hl with | [_, _], _ => rfl
  have F34 := fun_mk (st := s_of) l34 c34 k34
  have b34 := F34.binds (ps := ["_law_bag", "_law_some"]) fun _ _ _ _ _ _ us hl => match us, hl with | [_, _], _ => rfl
  have F35 := fun_mk (st := s_roots) l35 c35 k35
  have b35 := F35.binds (ps := []) fun _ _ _ _ _ _ us hl => match us, hl with | [], _ => rfl
  have F36 := fun_mk (st := s_a_root) l36 c36 k36
  have b36 := F36.binds (ps := ["_law_bag"]) fun _ _ _ _ _ _ us hl => match us, hl with | [_], _ => rfl
  have F37 := fun_mk (st := s_four) l37 c37 k37
  have b37 := F37.binds (ps := ["_law_stock"]) fun _ _ _ _ _ _ us hl => match us, hl with | [_], _ => rfl
  have F38 := fun_mk (st := s_stock_of) l38 c38 k38
  have b38 := F38.binds (ps := ["_law_rows"]) fun _ _ _ _ _ _ us hl => match us, hl with | [_], _ => rfl
  have F39 := fun_mk (st := s_any_pair) l39 c39 k39
  have b39 := F39.binds (ps := ["_law_bag"]) fun _ _ _ _ _ _ us hl => match us, hl with | [_], _ => rfl
  have F40 := fun_mk (st := s_lsign) l40 c40 k40
  have b40 := F40.binds (ps := ["_law_pair", "_law_root_z"]) fun _ _ _ _ _ _ us hl => match us, hl with | [_, _], _ => rfl
  have F41 := fun_mk (st := s_a_length) l41 c41 k41
  have b41 := F41.binds (ps := ["_law_bag", "_law_root_z"]) fun _ _ _ _ _ _ us hl => match us, hl with | [_, _], _ => rfl
  have F42 := fun_mk (st := s_a_sheet) l42 c42 k42
  have b42 := F42.binds (ps := ["_law_bag", "_law_root_z"]) fun _ _ _ _ _ _ us hl => match us, hl with | [_, _], _ => rfl
  have F43 := fun_mk (st := s_some_count) l43 c43 k43
  have b43 := F43.binds (ps := ["_law_bag"]) fun _ _ _ _ _ _ us hl => match us, hl with | [_], _ => rfl
  have F44 := fun_mk (st := s_some_rows) l44 c44 k44
  have b44 := F44.binds (ps := ["_law_bag", "_law_root_z", "_law_most"]) fun _ _ _ _ _ _ us hl => match us, hl with | [_, _, _], _ => rfl
  have F45 := fun_mk (st := s_lscaled) l45 c45 k45
  have b45 := F45.binds (ps := ["_law_pair", "_law_number"]) fun _ _ _ _ _ _ us hl => match us, hl with | [_, _], _ => rfl
  have F46 := fun_mk (st := s_lfractions) l46 c46 k46
  have b46 := F46.binds (ps := ["_law_root_z", "_law_count"]) fun _ _ _ _ _ _ us hl => match us, hl with | [_, _], _ => rfl
  have F47 := fun_mk (st := s_tile_pair) l47 c47 k47
  have b47 := F47.binds (ps := ["_law_root_z", "_law_number"]) fun _ _ _ _ _ _ us hl => match us, hl with | [_, _], _ => rfl
  have F48 := fun_mk (st := s_a_number) l48 c48 k48
  have b48 := F48.binds (ps := ["_law_bag"]) fun _ _ _ _ _ _ us hl => match us, hl with | [_], _ => rfl
  have F49 := fun_mk (st := s_any_four) l49 c49 k49
  have b49 := F49.binds (ps := ["_law_bag", "_law_root_z"]) fun _ _ _ _ _ _ us hl => match us, hl with | [_, _], _ => rfl
  have F50 := fun_mk (st := s_area_of) l50 c50 k50
  have b50 := F50.binds (ps := ["_law_four_here", "_law_root_z"]) fun _ _ _ _ _ _ us hl => match us, hl with | [_, _], _ => rfl
  have F51 := fun_mk (st := s_field_of) l51 c51 k51
  have b51 := F51.binds (ps := ["_law_e"]) fun _ _ _ _ _ _ us hl => match us, hl with | [_], _ => rfl
  have F52 := fun_mk (st := s_try) l52 c52 k52
  have b52 := F52.binds (ps := ["_law_ask"]) fun _ _ _ _ _ _ us hl => match us, hl with | [_], _ => rfl
  have F53 := fun_mk (st := s_all_sides) l53 c53 k53
  have b53 := F53.binds (ps := ["_law_stock"]) fun _ _ _ _ _ _ us hl => match us, hl with | [_], _ => rfl
  have F54 := fun_mk (st := s_law) l54 c54 k54
  have T : Txt K mg := {
    f_whole_root := f0
    d_whole_root := _
    F_whole_root := F0
    g_whole_root := PySem.W.mg_of X G a0
    b_whole_root := b0
    f_is_root := f1
    d_is_root := _
    F_is_root := F1
    g_is_root := PySem.W.mg_of X G a1
    b_is_root := b1
    f_check_root := f2
    d_check_root := _
    F_check_root := F2
    g_check_root := PySem.W.mg_of X G a2
    b_check_root := b2
    f_sign := f3
    d_sign := _
    F_sign := F3
    g_sign := PySem.W.mg_of X G a3
    b_sign := b3
    f_is_length := f4
    d_is_length := _
    F_is_length := F4
    g_is_length := PySem.W.mg_of X G a4
    b_is_length := b4
    f_added := f5
    d_added := _
    F_added := F5
    g_added := PySem.W.mg_of X G a5
    f_scaled := f6
    d_scaled := _
    F_scaled := F6
    g_scaled := PySem.W.mg_of X G a6
    b_scaled := b6
    f_floor_of := f7
    d_floor_of := _
    F_floor_of := F7
    g_floor_of := PySem.W.mg_of X G a7
    b_floor_of := b7
    C_Table := C_Table
    cl_Table := .mk pg_Table hd_Table po_Table sa_Table
    g_Table := PySem.W.mg_of X G aC_Table
    sf_Table := sf_Table
    nq_Table := nq_Table
    n_Table_cells := n_Table_cells
    M_Table := .mk mk_Table a8 i8 kc_Table
    mo_Table := mo_Table
    ne_Table := ne_Table
    ca_Table := ca_Table
    x_Table_rmul := x_Table_rmul
    i_mul := i_mul
    i_rmul := i_rmul
    is_Table := is_Table
    f_Table_init := f8
    d_Table_init := _
    r0_Table_init := r08
    F_Table_init := F8
    b_Table_init := b8
    b0_Table_init := e8
    v0_Table_init := .cons rfl .nil
    z0_Table_init := .mk y8a y8b y8c
    m_Table_rows := .mk a9 i9 k9
    f_Table_rows := f9
    d_Table_rows := _
    F_Table_rows := F9
    b_Table_rows := b9
    m_Table_area_for := .mk a10 i10 k10
    f_Table_area_for := f10
    d_Table_area_for := _
    F_Table_area_for := F10
    b_Table_area_for := b10
    m_Table_add := .mk a11 i11 k11
    f_Table_add := f11
    d_Table_add := _
    F_Table_add := F11
    b_Table_add := b11
    m_Table_sub := .mk a12 i12 k12
    f_Table_sub := f12
    d_Table_sub := _
    F_Table_sub := F12
    b_Table_sub := b12
    m_Table_neg := .mk a13 i13 k13
    f_Table_neg := f13
    d_Table_neg := _
    F_Table_neg := F13
    b_Table_neg := b13
    m_Table_mul := .mk a14 i14 k14
    f_Table_mul := f14
    d_Table_mul := _
    F_Table_mul := F14
    b_Table_mul := b14
    m_Table_eq := .mk a15 i15 k15
    f_Table_eq := f15
    d_Table_eq := _
    F_Table_eq := F15
    b_Table_eq := b15
    m_Table_bool := .mk a16 i16 k16
    f_Table_bool := f16
    d_Table_bool := _
    F_Table_bool := F16
    b_Table_bool := b16
    f_outer := f17
    d_outer := _
    F_outer := F17
    g_outer := PySem.W.mg_of X G a17
    b_outer := b17
    f_is_sheet := f18
    d_is_sheet := _
    F_is_sheet := F18
    g_is_sheet := PySem.W.mg_of X G a18
    b_is_sheet := b18
    f_check_rows := f19
    d_check_rows := _
    F_check_rows := F19
    g_check_rows := PySem.W.mg_of X G a19
    b_check_rows := b19
    f_merged := f20
    d_merged := _
    F_merged := F20
    g_merged := PySem.W.mg_of X G a20
    b_merged := b20
    C_Heap := C_Heap
    cl_Heap := .mk pg_Heap hd_Heap po_Heap sa_Heap
    g_Heap := PySem.W.mg_of X G aC_Heap
    sf_Heap := sf_Heap
    nq_Heap := nq_Heap
    n_Heap_held_root := n_Heap_held_root
    n_Heap_copies := n_Heap_copies
    M_Heap := .mk mk_Heap a21 i21 kc_Heap
    mo_Heap := mo_Heap
    ne_Heap := ne_Heap
    ca_Heap := ca_Heap
    x_Heap_rmul := x_Heap_rmul
    is_Heap := is_Heap
    f_Heap_init := f21
    d_Heap_init := _
    r0_Heap_init := r021
    F_Heap_init := F21
    b_Heap_init := b21
    b0_Heap_init := e21
    v0_Heap_init := .cons rfl .nil
    z0_Heap_init := .mk y21a
    f_Heap_of := f22
    d_Heap_of := _
    F_Heap_of := F22
    p_Heap_of := p22
    cr_Heap := .mk rd22 gt22
    cm_Heap_of := .mk a22 (.intro _ r22) i22
    p_Heap_root := p23
    pr_Heap_root := PropOf.mk a23 gp23 tp23 (.intro _ rp23)
    f_Heap_root := f23
    d_Heap_root := _
    F_Heap_root := F23
    b_Heap_root := b23
    p_Heap_many := p24
    pr_Heap_many := PropOf.mk a24 gp24 tp24 (.intro _ rp24)
    f_Heap_many := f24
    d_Heap_many := _
    F_Heap_many := F24
    b_Heap_many := b24
    m_Heap_rows := .mk a25 i25 k25
    f_Heap_rows := f25
    d_Heap_rows := _
    F_Heap_rows := F25
    b_Heap_rows := b25
    m_Heap_eq := .mk a26 i26 k26
    f_Heap_eq := f26
    d_Heap_eq := _
    F_Heap_eq := F26
    b_Heap_eq := b26
    m_Heap_bool := .mk a27 i27 k27
    f_Heap_bool := f27
    d_Heap_bool := _
    F_Heap_bool := F27
    b_Heap_bool := b27
    f_endless_fractions := f28
    d_endless_fractions := _
    F_endless_fractions := F28
    g_endless_fractions := PySem.W.mg_of X G a28
    b_endless_fractions := b28
    f_tile_of := f29
    d_tile_of := _
    F_tile_of := F29
    g_tile_of := PySem.W.mg_of X G a29
    b_tile_of := b29
    f_two_sheets := f30
    d_two_sheets := _
    F_two_sheets := F30
    g_two_sheets := PySem.W.mg_of X G a30
    b_two_sheets := b30
    f_heap_of_table := f31
    d_heap_of_table := _
    F_heap_of_table := F31
    g_heap_of_table := PySem.W.mg_of X G a31
    b_heap_of_table := b31
    f_source := f32
    d_source := _
    F_source := F32
    g_source := PySem.W.mg_of X G a32
    b_source := b32
    f_pull := f33
    d_pull := _
    F_pull := F33
    g_pull := PySem.W.mg_of X G a33
    b_pull := b33
    f_of := f34
    d_of := _
    F_of := F34
    g_of := PySem.W.mg_of X G a34
    b_of := b34
    f_roots := f35
    d_roots := _
    F_roots := F35
    g_roots := PySem.W.mg_of X G a35
    b_roots := b35
    f_a_root := f36
    d_a_root := _
    F_a_root := F36
    g_a_root := PySem.W.mg_of X G a36
    b_a_root := b36
    f_four := f37
    d_four := _
    F_four := F37
    g_four := PySem.W.mg_of X G a37
    b_four := b37
    f_stock_of := f38
    d_stock_of := _
    F_stock_of := F38
    g_stock_of := PySem.W.mg_of X G a38
    b_stock_of := b38
    f_any_pair := f39
    d_any_pair := _
    F_any_pair := F39
    g_any_pair := PySem.W.mg_of X G a39
    b_any_pair := b39
    f_lsign := f40
    d_lsign := _
    F_lsign := F40
    g_lsign := PySem.W.mg_of X G a40
    b_lsign := b40
    f_a_length := f41
    d_a_length := _
    F_a_length := F41
    g_a_length := PySem.W.mg_of X G a41
    b_a_length := b41
    f_a_sheet := f42
    d_a_sheet := _
    F_a_sheet := F42
    g_a_sheet := PySem.W.mg_of X G a42
    b_a_sheet := b42
    f_some_count := f43
    d_some_count := _
    F_some_count := F43
    g_some_count := PySem.W.mg_of X G a43
    b_some_count := b43
    f_some_rows := f44
    d_some_rows := _
    F_some_rows := F44
    g_some_rows := PySem.W.mg_of X G a44
    b_some_rows := b44
    f_lscaled := f45
    d_lscaled := _
    F_lscaled := F45
    g_lscaled := PySem.W.mg_of X G a45
    b_lscaled := b45
    f_lfractions := f46
    d_lfractions := _
    F_lfractions := F46
    g_lfractions := PySem.W.mg_of X G a46
    b_lfractions := b46
    f_tile_pair := f47
    d_tile_pair := _
    F_tile_pair := F47
    g_tile_pair := PySem.W.mg_of X G a47
    b_tile_pair := b47
    f_a_number := f48
    d_a_number := _
    F_a_number := F48
    g_a_number := PySem.W.mg_of X G a48
    b_a_number := b48
    f_any_four := f49
    d_any_four := _
    F_any_four := F49
    g_any_four := PySem.W.mg_of X G a49
    b_any_four := b49
    f_area_of := f50
    d_area_of := _
    F_area_of := F50
    g_area_of := PySem.W.mg_of X G a50
    b_area_of := b50
    f_field_of := f51
    d_field_of := _
    F_field_of := F51
    g_field_of := PySem.W.mg_of X G a51
    b_field_of := b51
    f_try := f52
    d_try := _
    F_try := F52
    g_try := PySem.W.mg_of X G a52
    b_try := b52
    f_all_sides := f53
    d_all_sides := _
    F_all_sides := F53
    g_all_sides := PySem.W.mg_of X G a53
    b_all_sides := b53
    n_ValueError := PySem.W.mg_none_of X G z0
    n_LookupError := PySem.W.mg_none_of X G z1
    n_IndexError := PySem.W.mg_none_of X G z2
    n_enumerate := PySem.W.mg_none_of X G z3
    n_range := PySem.W.mg_none_of X G z4
    n_sorted := PySem.W.mg_none_of X G z5
    n_str := PySem.W.mg_none_of X G z6
    n_sum := PySem.W.mg_none_of X G z7
    n_any := PySem.W.mg_none_of X G z8
    n_list := PySem.W.mg_none_of X G z9
    n_bool := PySem.W.mg_none_of X G z10
    n_len := PySem.W.mg_none_of X G z11
    n_int := PySem.W.mg_none_of X G z12
    n_abs := PySem.W.mg_none_of X G z13
    n_isinstance := PySem.W.mg_none_of X G z14
    n_all := PySem.W.mg_none_of X G z15
    kb_heap_of_table_root_table := kbn_heap_of_table_root_table F31
    r_GrainError := CGrainError
    g_GrainError := PySem.W.mg_of X G aGrainError
    c_GrainError := .intro _ ⟨cGrainError,nGrainError⟩
    t_GrainError := tGrainError
    sb_GrainError := sbGrainError
    r_GrainMissing := CGrainMissing
    g_GrainMissing := PySem.W.mg_of X G aGrainMissing
    c_GrainMissing := .intro _ ⟨cGrainMissing,nGrainMissing⟩
    t_GrainMissing := tGrainMissing
    sb_GrainMissing := sbGrainMissing
    e_BadRoot := E_BadRoot.e
    x_BadRoot_word := E_BadRoot.no _ (by simp)
    x_BadRoot_number := E_BadRoot.no _ (by simp)
    e_BadCount := E_BadCount.e
    x_BadCount_word := E_BadCount.no _ (by simp)
    x_BadCount_number := E_BadCount.no _ (by simp)
    e_BadRow := E_BadRow.e
    x_BadRow_word := E_BadRow.no _ (by simp)
    x_BadRow_at := E_BadRow.no _ (by simp)
    e_OtherRoot := E_OtherRoot.e
    x_OtherRoot_word := E_OtherRoot.no _ (by simp)
    e_NotEnough := E_NotEnough.e
    x_NotEnough_word := E_NotEnough.no _ (by simp)
    e_NoSheet := E_NoSheet.e
    x_NoSheet_word := E_NoSheet.no _ (by simp)
    x_NoSheet_sheet := E_NoSheet.no _ (by simp)
    e_NothingLeft := E_NothingLeft.e
    x_NothingLeft_word := E_NothingLeft.no _ (by simp)
    hn := hn
    ht := ht }
  refine ⟨PySem.W.fnOf "law" "law" (defArgs s_law) (defBody s_law) (defScope s_law) .none kV54 dc54 pm54 an54 (.ref cL) ct54, [(cL, PL)], spLaw K PL, fun p hp => ?_, fun p hp => ?_, fun p hp => ?_, fun s v => .of_eq rfl, fun H a ns hl _ hP hS => ⟨a, ns, rfl, hS, hl, hP _ (List.mem_singleton.mpr rfl), fun _ => rfl⟩, fun base _ _ TB => ?_⟩
  · rw [List.mem_singleton.mp hp]
    exact tabL
  · rw [List.mem_singleton.mp hp]
    exact noL
  · rw [List.mem_singleton.mp hp]
    exact PySem.W.codeHd_of_K X hdL
  · rw [hprog]
    exact ok_law l54 c54 (TB _ (List.mem_singleton.mpr rfl)) T
end Gy
open PySem PySem.W PyProof.Rows
set_option maxRecDepth 100000 in
set_option maxHeartbeats 0 in
theorem PySem.Challenge.cw_grainyard_k34_heaps_with_a_table_holds : PySem.Challenge.rw_grainyard_k34_heaps_with_a_table.Holds := by
  w_on; o_law; k_head; (case hw => w_witness2)
  k_fill
  refine LamX.walk_ofTs (l := PySem.Challenge.rw_grainyard_k34_heaps_with_a_table) (n := 63) (k := 20) (x := "_law_script") (CX := fun _ => L2.CX0) rfl (by decide) rfl ⟨rfl, by decide, by decide⟩ (fun w h Y => PySem.W.km_in_of Y) ?F (fun _ _ _ _ _ h => h)
  case F =>
    intro w mg fa h Y KX G hmg
    have hT := PySem.W.km_tabs_of Y
    refine' Gy.all_mk KX G hmg rfl ?aC_Table ?pg_Table ?hd_Table ?po_Table ?sa_Table ?mk_Table ?kc_Table ?sf_Table ?nq_Table ?n_Table_cells ?mo_Table ?ne_Table ?ca_Table ?x_Table_rmul ?i_mul ?i_rmul ?is_Table ?aC_Heap ?pg_Heap ?hd_Heap ?po_Heap ?sa_Heap ?mk_Heap ?kc_Heap ?sf_Heap ?nq_Heap ?n_Heap_held_root ?n_Heap_copies ?mo_Heap ?ne_Heap ?ca_Heap ?x_Heap_rmul ?is_Heap ?a0 ?l0 ?c0 ?k0 ?a1 ?l1 ?c1 ?k1 ?a2 ?l2 ?c2 ?k2 ?a3 ?l3 ?c3 ?k3 ?a4 ?l4 ?c4 ?k4 ?a5 ?l5 ?c5 ?k5 ?a6 ?l6 ?c6 ?k6 ?a7 ?l7 ?c7 ?k7 ?a8 ?i8 ?l8 ?c8 ?k8 ?t8 ?y8a ?y8b ?y8c ?a9 ?i9 ?l9 ?c9 ?k9 ?a10 ?i10 ?l10 ?c10 ?k10 ?a11 ?i11 ?l11 ?c11 ?k11 ?a12 ?i12 ?l12 ?c12 ?k12 ?a13 ?i13 ?l13 ?c13 ?k13 ?a14 ?i14 ?l14 ?c14 ?k14 ?a15 ?i15 ?l15 ?c15 ?k15 ?a16 ?i16 ?l16 ?c16 ?k16 ?a17 ?l17 ?c17 ?k17 ?a18 ?l18 ?c18 ?k18 ?a19 ?l19 ?c19 ?k19 ?a20 ?l20 ?c20 ?k20 ?a21 ?i21 ?l21 ?c21 ?k21 ?t21 ?y21a ?a22 ?r22 ?i22 ?rd22 ?gt22 ?l22 ?c22 ?k22 ?a23 ?gp23 ?tp23 ?rp23 ?l23 ?c23 ?k23 ?a24 ?gp24 ?tp24 ?rp24 ?l24 ?c24 ?k24 ?a25 ?i25 ?l25 ?c25 ?k25 ?a26 ?i26 ?l26 ?c26 ?k26 ?a27 ?i27 ?l27 ?c27 ?k27 ?a28 ?l28 ?c28 ?k28 ?a29 ?l29 ?c29 ?k29 ?a30 ?l30 ?c30 ?k30 ?a31 ?l31 ?c31 ?k31 ?a32 ?l32 ?c32 ?k32 ?a33 ?l33 ?c33 ?k33 ?a34 ?l34 ?c34 ?k34 ?a35 ?l35 ?c35 ?k35 ?a36 ?l36 ?c36 ?k36 ?a37 ?l37 ?c37 ?k37 ?a38 ?l38 ?c38 ?k38 ?a39 ?l39 ?c39 ?k39 ?a40 ?l40 ?c40 ?k40 ?a41 ?l41 ?c41 ?k41 ?a42 ?l42 ?c42 ?k42 ?a43 ?l43 ?c43 ?k43 ?a44 ?l44 ?c44 ?k44 ?a45 ?l45 ?c45 ?k45 ?a46 ?l46 ?c46 ?k46 ?a47 ?l47 ?c47 ?k47 ?a48 ?l48 ?c48 ?k48 ?a49 ?l49 ?c49 ?k49 ?a50 ?l50 ?c50 ?k50 ?a51 ?l51 ?c51 ?k51 ?a52 ?l52 ?c52 ?k52 ?a53 ?l53 ?c53 ?k53 ?a54 ?l54 ?c54 ?k54 ?z0 ?z1 ?z2 ?z3 ?z4 ?z5 ?z6 ?z7 ?z8 ?z9 ?z10 ?z11 ?z12 ?z13 ?z14 ?z15 ?hn ?ht ?aGrainError ?cGrainError ?nGrainError ?tGrainError ?sbGrainError ?aGrainMissing ?cGrainMissing ?nGrainMissing ?tGrainMissing ?sbGrainMissing ?E_BadRoot ?E_BadCount ?E_BadRow ?E_OtherRoot ?E_NotEnough ?E_NoSheet ?E_NothingLeft ?tabL ?noL ?hdL
    (case aC_Table => k_is); (case pg_Table => k_is); (case hd_Table => k_is); (case po_Table => k_is); (case sa_Table => k_is); (case mk_Table => k_is); (case kc_Table => k_is); (case sf_Table => k_is); (case nq_Table => k_is); (case n_Table_cells => k_is); (case mo_Table => k_is); (case ne_Table => k_is); (case ca_Table => k_is); (case x_Table_rmul => k_is); (case i_mul => k_is); (case i_rmul => k_is); (case is_Table => k_is); (case aC_Heap => k_is); (case pg_Heap => k_is); (case hd_Heap => k_is); (case po_Heap => k_is); (case sa_Heap => k_is); (case mk_Heap => k_is); (case kc_Heap => k_is); (case sf_Heap => k_is); (case nq_Heap => k_is); (case n_Heap_held_root => k_is); (case n_Heap_copies => k_is); (case mo_Heap => k_is); (case ne_Heap => k_is); (case ca_Heap => k_is); (case x_Heap_rmul => k_is); (case is_Heap => k_is); (case a0 => k_is); (case l0 => k_is); (case c0 => k_is); (case k0 => k_is); (case a1 => k_is); (case l1 => k_is); (case c1 => k_is); (case k1 => k_is); (case a2 => k_is); (case l2 => k_is); (case c2 => k_is); (case k2 => k_is); (case a3 => k_is); (case l3 => k_is); (case c3 => k_is); (case k3 => k_is); (case a4 => k_is); (case l4 => k_is); (case c4 => k_is); (case k4 => k_is); (case a5 => k_is); (case l5 => k_is); (case c5 => k_is); (case k5 => k_is); (case a6 => k_is); (case l6 => k_is); (case c6 => k_is); (case k6 => k_is); (case a7 => k_is); (case l7 => k_is); (case c7 => k_is); (case k7 => k_is); (case a8 => k_is); (case i8 => k_is); (case l8 => k_is); (case c8 => k_is); (case k8 => k_is); (case t8 => k_is); (case y8a => k_is); (case y8b => k_is); (case y8c => k_is); (case a9 => k_is); (case i9 => k_is); (case l9 => k_is); (case c9 => k_is); (case k9 => k_is); (case a10 => k_is); (case i10 => k_is); (case l10 => k_is); (case c10 => k_is); (case k10 => k_is); (case a11 => k_is); (case i11 => k_is); (case l11 => k_is); (case c11 => k_is); (case k11 => k_is); (case a12 => k_is); (case i12 => k_is); (case l12 => k_is); (case c12 => k_is); (case k12 => k_is); (case a13 => k_is); (case i13 => k_is); (case l13 => k_is); (case c13 => k_is); (case k13 => k_is); (case a14 => k_is); (case i14 => k_is); (case l14 => k_is); (case c14 => k_is); (case k14 => k_is); (case a15 => k_is); (case i15 => k_is); (case l15 => k_is); (case c15 => k_is); (case k15 => k_is); (case a16 => k_is); (case i16 => k_is); (case l16 => k_is); (case c16 => k_is); (case k16 => k_is); (case a17 => k_is); (case l17 => k_is); (case c17 => k_is); (case k17 => k_is); (case a18 => k_is); (case l18 => k_is); (case c18 => k_is); (case k18 => k_is); (case a19 => k_is); (case l19 => k_is); (case c19 => k_is); (case k19 => k_is); (case a20 => k_is); (case l20 => k_is); (case c20 => k_is); (case k20 => k_is); (case a21 => k_is); (case i21 => k_is); (case l21 => k_is); (case c21 => k_is); (case k21 => k_is); (case t21 => k_is); (case y21a => k_is); (case a22 => k_is); (case r22 => k_is); (case i22 => k_is); (case rd22 => k_is); (case gt22 => k_is); (case l22 => k_is); (case c22 => k_is); (case k22 => k_is); (case a23 => k_is); (case gp23 => k_is); (case tp23 => k_is); (case rp23 => k_is); (case l23 => k_is); (case c23 => k_is); (case k23 => k_is); (case a24 => k_is); (case gp24 => k_is); (case tp24 => k_is); (case rp24 => k_is); (case l24 => k_is); (case c24 => k_is); (case k24 => k_is); (case a25 => k_is); (case i25 => k_is); (case l25 => k_is); (case c25 => k_is); (case k25 => k_is); (case a26 => k_is); (case i26 => k_is); (case l26 => k_is); (case c26 => k_is); (case k26 => k_is); (case a27 => k_is); (case i27 => k_is); (case l27 => k_is); (case c27 => k_is); (case k27 => k_is); (case a28 => k_is); (case l28 => k_is); (case c28 => k_is); (case k28 => k_is); (case a29 => k_is); (case l29 => k_is); (case c29 => k_is); (case k29 => k_is); (case a30 => k_is); (case l30 => k_is); (case c30 => k_is); (case k30 => k_is); (case a31 => k_is); (case l31 => k_is); (case c31 => k_is); (case k31 => k_is); (case a32 => k_is); (case l32 => k_is); (case c32 => k_is); (case k32 => k_is); (case a33 => k_is); (case l33 => k_is); (case c33 => k_is); (case k33 => k_is); (case a34 => k_is); (case l34 => k_is); (case c34 => k_is); (case k34 => k_is); (case a35 => k_is); (case l35 => k_is); (case c35 => k_is); (case k35 => k_is); (case a36 => k_is); (case l36 => k_is); (case c36 => k_is); (case k36 => k_is); (case a37 => k_is); (case l37 => k_is); (case c37 => k_is); (case k37 => k_is); (case a38 => k_is); (case l38 => k_is); (case c38 => k_is); (case k38 => k_is); (case a39 => k_is); (case l39 => k_is); (case c39 => k_is); (case k39 => k_is); (case a40 => k_is); (case l40 => k_is); (case c40 => k_is); (case k40 => k_is); (case a41 => k_is); (case l41 => k_is); (case c41 => k_is); (case k41 => k_is); (case a42 => k_is); (case l42 => k_is); (case c42 => k_is); (case k42 => k_is); (case a43 => k_is); (case l43 => k_is); (case c43 => k_is); (case k43 => k_is); (case a44 => k_is); (case l44 => k_is); (case c44 => k_is); (case k44 => k_is); (case a45 => k_is); (case l45 => k_is); (case c45 => k_is); (case k45 => k_is); (case a46 => k_is); (case l46 => k_is); (case c46 => k_is); (case k46 => k_is); (case a47 => k_is); (case l47 => k_is); (case c47 => k_is); (case k47 => k_is); (case a48 => k_is); (case l48 => k_is); (case c48 => k_is); (case k48 => k_is); (case a49 => k_is); (case l49 => k_is); (case c49 => k_is); (case k49 => k_is); (case a50 => k_is); (case l50 => k_is); (case c50 => k_is); (case k50 => k_is); (case a51 => k_is); (case l51 => k_is); (case c51 => k_is); (case k51 => k_is); (case a52 => k_is); (case l52 => k_is); (case c52 => k_is); (case k52 => k_is); (case a53 => k_is); (case l53 => k_is); (case c53 => k_is); (case k53 => k_is); (case a54 => k_is); (case l54 => k_is); (case c54 => k_is); (case k54 => k_is); (case z0 => k_is); (case z1 => k_is); (case z2 => k_is); (case z3 => k_is); (case z4 => k_is); (case z5 => k_is); (case z6 => k_is); (case z7 => k_is); (case z8 => k_is); (case z9 => k_is); (case z10 => k_is); (case z11 => k_is); (case z12 => k_is); (case z13 => k_is); (case z14 => k_is); (case z15 => k_is); (case hn => k_is); (case ht => k_is); (case aGrainError => k_is); (case cGrainError => k_is); (case nGrainError => rfl); (case tGrainError => k_is); (case sbGrainError => k_is); (case aGrainMissing => k_is); (case cGrainMissing => k_is); (case nGrainMissing => rfl); (case tGrainMissing => k_is); (case sbGrainMissing => k_is); (case E_BadRoot => refine' Gy.erw2 (P := PySem.Challenge.pw_grainyard_k34_heaps_with_a_table) KX G ?op ?nsu (by decide +kernel) (by decide +kernel) (by decide +kernel) ?ht rfl rfl (by decide +kernel) (by decide +kernel) (by decide +kernel) (by decide +kernel) ?aC ?lC ?aI ?lI ?cI ?lc ?lco ?sa ?ga ?gt ?kp ?cl ?su ?hvs ?hfi ?x0 ?x1; (case op => k_is); (case nsu => k_is); (case aC => k_is); (case lC => k_is); (case ht => decide +kernel); (case aI => k_is); (case lI => k_is); (case cI => k_is); (case lc => k_is); (case lco => k_is); (case sa => k_is); (case ga => k_is); (case gt => k_is); (case kp => k_is); (case cl => k_is); (case su => first | k_is | ks_is); (case hvs => rfl); (case hfi => decide +kernel); (case x0 => k_is); (case x1 => k_is)); (case E_BadCount => refine' Gy.erw2 (P := PySem.Challenge.pw_grainyard_k34_heaps_with_a_table) KX G ?op ?nsu (by decide +kernel) (by decide +kernel) (by decide +kernel) ?ht rfl rfl (by decide +kernel) (by decide +kernel) (by decide +kernel) (by decide +kernel) ?aC ?lC ?aI ?lI ?cI ?lc ?lco ?sa ?ga ?gt ?kp ?cl ?su ?hvs ?hfi ?x0 ?x1; (case op => k_is); (case nsu => k_is); (case aC => k_is); (case lC => k_is); (case ht => decide +kernel); (case aI => k_is); (case lI => k_is); (case cI => k_is); (case lc => k_is); (case lco => k_is); (case sa => k_is); (case ga => k_is); (case gt => k_is); (case kp => k_is); (case cl => k_is); (case su => first | k_is | ks_is); (case hvs => rfl); (case hfi => decide +kernel); (case x0 => k_is); (case x1 => k_is)); (case E_BadRow => refine' Gy.erw2 (P := PySem.Challenge.pw_grainyard_k34_heaps_with_a_table) KX G ?op ?nsu (by decide +kernel) (by decide +kernel) (by decide +kernel) ?ht rfl rfl (by decide +kernel) (by decide +kernel) (by decide +kernel) (by decide +kernel) ?aC ?lC ?aI ?lI ?cI ?lc ?lco ?sa ?ga ?gt ?kp ?cl ?su ?hvs ?hfi ?x0 ?x1; (case op => k_is); (case nsu => k_is); (case aC => k_is); (case lC => k_is); (case ht => decide +kernel); (case aI => k_is); (case lI => k_is); (case cI => k_is); (case lc => k_is); (case lco => k_is); (case sa => k_is); (case ga => k_is); (case gt => k_is); (case kp => k_is); (case cl => k_is); (case su => first | k_is | ks_is); (case hvs => rfl); (case hfi => decide +kernel); (case x0 => k_is); (case x1 => k_is)); (case E_OtherRoot => refine' Gy.erw1 (P := PySem.Challenge.pw_grainyard_k34_heaps_with_a_table) KX G ?op ?nsu (by decide +kernel) (by decide +kernel) (by decide +kernel) ?ht rfl rfl (by decide +kernel) (by decide +kernel) (by decide +kernel) (by decide +kernel) ?aC ?lC ?aI ?lI ?cI ?lc ?lco ?sa ?ga ?gt ?kp ?cl ?su ?hvs ?hfi ?x0; (case op => k_is); (case nsu => k_is); (case aC => k_is); (case lC => k_is); (case ht => decide +kernel); (case aI => k_is); (case lI => k_is); (case cI => k_is); (case lc => k_is); (case lco => k_is); (case sa => k_is); (case ga => k_is); (case gt => k_is); (case kp => k_is); (case cl => k_is); (case su => first | k_is | ks_is); (case hvs => rfl); (case hfi => decide +kernel); (case x0 => k_is)); (case E_NotEnough => refine' Gy.erw1 (P := PySem.Challenge.pw_grainyard_k34_heaps_with_a_table) KX G ?op ?nsu (by decide +kernel) (by decide +kernel) (by decide +kernel) ?ht rfl rfl (by decide +kernel) (by decide +kernel) (by decide +kernel) (by decide +kernel) ?aC ?lC ?aI ?lI ?cI ?lc ?lco ?sa ?ga ?gt ?kp ?cl ?su ?hvs ?hfi ?x0; (case op => k_is); (case nsu => k_is); (case aC => k_is); (case lC => k_is); (case ht => decide +kernel); (case aI => k_is); (case lI => k_is); (case cI => k_is); (case lc => k_is); (case lco => k_is); (case sa => k_is); (case ga => k_is); (case gt => k_is); (case kp => k_is); (case cl => k_is); (case su => first | k_is | ks_is); (case hvs => rfl); (case hfi => decide +kernel); (case x0 => k_is)); (case E_NoSheet => refine' Gy.erw2 (P := PySem.Challenge.pw_grainyard_k34_heaps_with_a_table) KX G ?op ?nsu (by decide +kernel) (by decide +kernel) (by decide +kernel) ?ht rfl rfl (by decide +kernel) (by decide +kernel) (by decide +kernel) (by decide +kernel) ?aC ?lC ?aI ?lI ?cI ?lc ?lco ?sa ?ga ?gt ?kp ?cl ?su ?hvs ?hfi ?x0 ?x1; (case op => k_is); (case nsu => k_is); (case aC => k_is); (case lC => k_is); (case ht => decide +kernel); (case aI => k_is); (case lI => k_is); (case cI => k_is); (case lc => k_is); (case lco => k_is); (case sa => k_is); (case ga => k_is); (case gt => k_is); (case kp => k_is); (case cl => k_is); (case su => first | k_is | ks_is); (case hvs => rfl); (case hfi => decide +kernel); (case x0 => k_is); (case x1 => k_is)); (case E_NothingLeft => refine' Gy.erw1 (P := PySem.Challenge.pw_grainyard_k34_heaps_with_a_table) KX G ?op ?nsu (by decide +kernel) (by decide +kernel) (by decide +kernel) ?ht rfl rfl (by decide +kernel) (by decide +kernel) (by decide +kernel) (by decide +kernel) ?aC ?lC ?aI ?lI ?cI ?lc ?lco ?sa ?ga ?gt ?kp ?cl ?su ?hvs ?hfi ?x0; (case op => k_is); (case nsu => k_is); (case aC => k_is); (case lC => k_is); (case ht => decide +kernel); (case aI => k_is); (case lI => k_is); (case cI => k_is); (case lc => k_is); (case lco => k_is); (case sa => k_is); (case ga => k_is); (case gt => k_is); (case kp => k_is); (case cl => k_is); (case su => first | k_is | ks_is); (case hvs => rfl); (case hfi => decide +kernel); (case x0 => k_is)); (case tabL => exact hT _ List.mem_cons_self); (case noL => kernel_rfl); (case hdL => kernel_rfl)

