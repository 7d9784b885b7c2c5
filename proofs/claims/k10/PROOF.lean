import PyProof.Rows.All
import Wide.All
import OpenK.AllK
import Wide.FinOn
import HandS.ForMost
import HandS.Wide
import HandS.WideBits
import HandS.IsInst
import HandS.Defaults
import HandS.Star
import HandS.Evl
import HandS.NoneIn
import HandS.Style
import HandS.SlotsOwn
import HandS.MakeKwOnly
import HandS.ForExc
import HandS.ExcInit
import HandS.MapJoin
import HandS.NestedK
import HandS.Lambda
import HandS.EndTab
import HandS.TryMany
import HandS.HotCalls
import HandS.ExcField
import HandS.ClsMeth
import KE.KExcSuper
import KE.KExcIs
import KE.KOpsOwn
import KE.KNestM
import HandS.Property
import KE.DataEq
import HandS.Deep
import HandS.TupAny
import HandS.Zip
import HandS.Dict
import HandS.More
import HandS.FStr
import HandS.Text
import HandS.RaiseMore
import HandS.DictComp
import HandS.DictTup
import HandS.Conv
import HandS.Comp
import KE.KDictKeyed
import KE.KeyNested
import KE.SortData
import KE.KDictItemsList
import KE.GoesMore
import HandS.Walk
import HandS.StrMore
import HandS.GenList
import HandS.RepeatKit
import KE.DatumOrd
import PySem.Challenge.RW_grainyard_k10_whole_first_numbers
set_option Elab.async false
set_option linter.all false
set_option maxRecDepth 100000
set_option maxHeartbeats 4000000
namespace Gy
open PySem PySem.Spec PyProof.Rows L2
/-! ### an error's fields, wherever its object is pinned -/
section
variable {X : Cx} {a : Addr} {oe : Obj} {cls : Value} {d : Option Addr} {e : Expr} {te : TE} {pos : Pos} {n : Str}
/-- a.f of the error at a whose class is cls and whose dict stands at d -/
def tXfA (K : PySem.W.Frag) (a : Addr) (cls : Value) (d : Option Addr) (f : Str) (te : TE) : TE := fun σ H Q => te σ H fun x H1 => x = .ref a ∧
  ∃ (C dd : Addr) (fs : List (Str × V)) (v : V), cls = .ref C ∧ d = some dd ∧ XfC K C ∧ PySem.W.findIn K (.ref C) f = some none ∧ H1 dd = some (.xd fs) ∧ fs.lookup f = some v ∧ Q v H1
theorem pe_xfG (hp : (a, oe) ∈ X.pn) (hz : Zc cls d oe) (hf : ∃ vs, oe.data = .fields vs) (he : PE X e te) (hb : attributeBase e n X.env (eval e X.env) = eval e X.env := by rfl) : PE X (.Attribute e n pos) (tXfA X.K a cls d n te) := by
  constructor
  intro pins s σ H Q I h
  apply attr_of hb
  refine thn (he.run pins s σ H _ I h) ?_
  rintro u s1 ⟨x, H1, I1, rx, rfl, C, dd, fs, v, rfl, rfl, XC, no, hd, hl, q⟩
  cases (show u = Value.ref a from rx)
  have at_a := (I1.pin (a, oe) (List.mem_append_left _ hp)).1
  obtain ⟨ws, dat⟩ := hf
  obtain ⟨mA, nsA, rel⟩ := (show ObjOk X.prog X.w H1 s1.heap dd (.xd fs) from I1.hok dd _ hd)
  obtain ⟨od, at_d, look⟩ := lookIn_ns nsA
  have rn := rel n
  rw [hl] at rn
  obtain ⟨u', hu', ru'⟩ := RelO.some_of rn
  have inst : PySem.W.InstAt s1.heap a oe C (some od) := by
    refine ⟨at_a, hz.1, ?_, ?_⟩
    · unfold PySem.W.notCls
      rw [dat] <;> rfl
    · rw [hz.2]
      exact at_d
  have found : PySem.W.lookIn n od = some (some u') := by rw [look, hu']
  exact HandSPX.exc_get I1.kIn inst XC.ga XC.gg XC.exC (PySem.W.findObj_own XC.hdC no rfl found) (handed_of ru') ⟨v, H1, I1.tok _, ru', q⟩
end
/-! ### try: .. except x as n: .., several clauses, one of which takes -/
/-- behind a suite its name is gone -/
def Dn (D : Ends) (i : Nat) : Ends := { nx := fun σ H => D.nx (σ.set i none) H, rt := D.rt, bk := fun σ H => D.bk (σ.set i none) H, ct := fun σ H => D.ct (σ.set i none) H }
def wAll (K : PySem.W.Frag) (D : Ends) (i : Nat) : List (Value × (Addr → Value → Option Addr → TS)) → WX
  | [] => fun _ _ _ _ => False
  | (c, ts) :: r => fun cls d σ H => ∃ b, PySem.W.exmOne K cls c = some b ∧ (b = true → ∀ a, H a = none → i < σ.length → ts a cls d (Dn D i) (σ.set i (some (.ref a))) H) ∧ (b = false → wAll K D i r cls d σ H)
inductive AsOk (X : Cx) (n : Str) : List ExceptHandler → List (Value × (Addr → Value → Option Addr → TS)) → Prop
  | nil : AsOk X n [] []
  | cons {x : Str} {c : Value} {ts : Addr → Value → Option Addr → TS} {b0 : Stmt} {su : List Stmt} {np p' : Pos} {hds : List ExceptHandler} {l : List (Value × (Addr → Value → Option Addr → TS))} (nm : Names X x c)
      (ok : ∀ (a : Addr) (oe : Obj) (cls : Value) (d : Option Addr) (pn : List (Addr × Obj)), Zc cls d oe → (∃ vs, oe.data = .fields vs) → PSs (X.suite a ((a, oe) :: pn)) (b0 :: su) (ts a cls d)) (r : AsOk X n hds l) :
      AsOk X n (.ExceptHandler (some (.Name x np)) (some n) (b0 :: su) p' :: hds) ((c, ts) :: l)
theorem not_frame {B h : Heap} {l : List Env} {a : Addr} {o : Obj} {vs : Array Value} (F : h.FunFrames B l) (at_a : h.get? a = some o) (dat : o.data = .fields vs) : a ∉ frs l := by
  intro m
  obtain ⟨_, o2, at2, nf⟩ := F.mem m
  cases at_a.symm.trans at2
  exact nf _ dat
section
variable {X : Cx} {n : Str} {i : Nat} {body : List Stmt} {h0 : ExceptHandler} {hds : List ExceptHandler} {l : List (Value × (Addr → Value → Option Addr → TS))} {pos : Pos} {tb : WX → TS}
theorem ps_tryAs (hs : X.stack = X.env :: X.outer) (hf : X.env.frame = some X.env.locals) (hN : X.N.Nodup) (hi : X.N[i]? = some n) (hln : X.env.kindOf n = some .local)
    (hb : ∀ (W : WX) (pn : List (Addr × Obj)) (xe : Value → Shared → Prop), Takes (X.tr pn xe) W → PassesOwn (model X.prog X.w) X.A X.env xe → PSs (X.tr pn xe) body (tb W))
    (hh : AsOk X n (h0 :: hds) l) : PS X (.Try body (h0 :: hds) [] [] pos) (fun D σ H => tb (wAll X.K D i l) D σ H) := by
  constructor
  intro pins s σ H D I h
  have ok := I.ok
  have frs_ : X.A.frames = some (X.env :: X.outer) := hs ▸ ok.frames
  have run := hb (wAll X.K D i l) (X.pn ++ pins) (fun e t1 => wpAny (model X.prog X.w) X.A (noteFrame e X.env) (fun _ t2 => wpAny (model X.prog X.w) X.A (setFlight e none) (fun _ t3 =>
    wpAny (model X.prog X.w) X.A (handleBy e X.env (h0 :: hds)) (SP X pins D) X.xe t3) X.xe t2) X.xe t1) ?air PassesOwn.looking
  case air =>
    rintro u t ⟨a, B, t0, pins0, σ1, H1, cls, d, rfl, I0, gr, up, sky, na, hos, bare, wish⟩
    have I1 : Inv X pins σ1 H1 t0 := I0.ofTry ok
    rw [show (X.tr (X.pn ++ pins) _).stack = X.env :: X.outer from hs] at sky
    show wpAny (model X.prog X.w) X.A (noteFrame (.ref a) X.env) _ _ _
    apply Sky.land Zc.steady frs_ hf sky
    intro g fly upg
    have Ig : Inv X pins σ1 H1 { t with heap := g } := I1.landed gr fly.1 (up.trans upg) hos bare
    obtain ⟨og, vg, at_g, zg, dg⟩ := fly.there
    have away := not_frame fly.2.2.1 at_g dg
    have awL : a ≠ X.env.locals := by
      intro z
      exact away (List.mem_filterMap.mpr ⟨X.env, List.mem_cons_self, by rw [hf, z]⟩)
    have awF : a ∉ X.fs := by
      intro m
      obtain ⟨en, men, q⟩ := List.mem_filterMap.mp m
      exact away (List.mem_filterMap.mpr ⟨en, List.mem_cons_of_mem _ men, q⟩)
    have Sg := Ig.suite at_g dg na awL awF
    have types : PySem.W.Looks (model X.prog X.w) g (typeOf (.ref a)) cls := by
      intro A' Q' E' t' k q
      apply wpAny_typeOf_ref (k _ _ at_g)
      rw [zg.1]
      exact q
    clear h
    have inside : i < σ1.length := by
      rw [I1.len]
      exact (List.getElem?_eq_some_iff.mp hi).1
    have clauses : ∀ {hs' : List ExceptHandler} {l' : List (Value × (Addr → Value → Option Addr → TS))}, AsOk X n hs' l' → wAll X.K D i l' cls d σ1 H1 → wpAny (model X.prog X.w) X.A (handleBy (.ref a) X.env hs') (SP X pins D) X.xe { t with heap := g } := by
      intro hs' l' A
      induction A with
      | nil => exact fun z => z.elim
      | @cons x c ts b0 su np p' hs2 l2 nm okS rest ih =>
        rintro ⟨b, mt, yes, no⟩
        refine wpAny_handleBy_cons (codeAny_handlers_test ?_) (by intro z; cases z)
        have meets := PySem.W.exm_one (M := model X.prog X.w) Ig.kIn types mt
        have name_ : ∀ {Q' : Value → Shared → Prop} {E' : Value → Shared → Prop}, Q' c { t with heap := g } → wpAny (model X.prog X.w) (X.A.mark (some (.ref a))) (eval (.Name x np) X.env) Q' E' { t with heap := g } := by
          intro Q' E' q
          rcases nm with ⟨gl, ndb, hm | ⟨hm, hv, nn⟩⟩
          · exact ld_glob (X := X.suite a ((a, og) :: (X.pn ++ pins))) Sg gl hm q ndb
          · exact ld_blt (X := X.suite a ((a, og) :: (X.pn ++ pins))) Sg gl hm hv q nn ndb
        apply name_
        apply meets.here
        cases b with
        | false => exact ih (no rfl)
        | true =>
          apply codeAny_handlers_suite_as
          apply HandSPX.lands_againZ fly
          intro k flk upk
          have Ik : Inv X pins σ1 H1 { t with heap := k } := I1.landed gr flk.1 ((up.trans upg).trans upk) hos bare
          obtain ⟨ok_, vk, at_k, zk, dk⟩ := flk.there
          have Sk := Ik.suite at_k dk na awL awF
          apply store_ok (X := X.suite a ((a, ok_) :: (X.pn ++ pins))) (v := .ref a) Sk hN hi (.inl hln) rfl _ (.inr hln)
          intro t5 S5
          have suite := (okS a ok_ cls d (X.pn ++ pins) zk ⟨_, dk⟩).run [] t5 _ H1 _ S5 (yes rfl a na inside)
          refine wpAny_mono suite (fun f t6 out => ?_) (fun _ _ z => z.elim)
          have away_ : ∀ {σ6 : L2.St} {H6 : Hp} {Q' : Shared → Prop}, Inv (X.suite a ((a, ok_) :: (X.pn ++ pins))) [] σ6 H6 t6 → (∀ t7, Inv X pins (σ6.set i none) H6 t7 → Q' t7) →
              wpAny (model X.prog X.w) X.A (do bindName X.env n .none; unbindBehindTheSuite X.env n p') (fun _ t7 => Q' t7) X.xe t6 := by
            intro σ6 H6 Q' S6 q
            exact gone_ok (S6.unsuite ok) hN hi hln q
          cases f with
          | next => obtain ⟨_, _, S6, q6⟩ := out; exact away_ S6 fun _ I7 => ⟨_, _, I7, q6⟩
          | brk => obtain ⟨_, _, S6, q6⟩ := out; exact away_ S6 fun _ I7 => ⟨_, _, I7, q6⟩
          | cont => obtain ⟨_, _, S6, q6⟩ := out; exact away_ S6 fun _ I7 => ⟨_, _, I7, q6⟩
          | ret u => obtain ⟨_, _, _, S6, r6, q6⟩ := out; exact away_ S6 fun _ I7 => ⟨_, _, _, I7, r6, q6⟩
    exact clauses hh wish
  apply wpAny_Try_except
  refine wpAny_mono (run.run [] s σ H D (I.toTry _) h) (fun f t1 out => ?_) (fun _ _ z => z)
  cases f with
  | next => obtain ⟨_, _, I1, q⟩ := out; exact wpAny_execs_nil ⟨_, _, I1.ofTry ok, q⟩
  | brk => obtain ⟨_, _, I1, q⟩ := out; exact ⟨_, _, I1.ofTry ok, q⟩
  | cont => obtain ⟨_, _, I1, q⟩ := out; exact ⟨_, _, I1.ofTry ok, q⟩
  | ret u => obtain ⟨_, _, _, I1, r, q⟩ := out; exact ⟨_, _, _, I1.ofTry ok, r, q⟩
end
/-! ### a def that is called while an error is handled: it raises nothing -/
structure FnP (P : Program) (w : World) (K : PySem.W.Frag) (mg : Str → Option Value) (base : Heap) (k : Nat) (f : Addr) (fd : FuncData) (ps : List Str) (sp : Addr → Value → Option Addr → Sp) : Prop where
  len : ∀ a cls d vs H Q E, sp a cls d vs H Q E → vs.length = ps.length
  run : ∀ (A : Around) (outer : List Env) (s : Shared) (H : Hp) (args : Args) (us : List Value) (vs : List V) (Q : VK) (E : XK) (p : Addr × Obj) (cls : Value) (d : Option Addr), L2H.RoomH k A → L2H.PinOk outer H s p → Zc cls d p.2 → (∃ vs, p.2.data = .fields vs) →
    Env0 P w K mg base A outer s H → BindsTo s fd args (ps.zip us) → Vals vs us → sp p.1 cls d vs H Q E → codeAny (model P w) A (.call (.ref f) args) (CR CX0 outer P w H s Q E) s
theorem fn_ofP {P : Program} {w : World} {K : PySem.W.Frag} {mg : Str → Option Value} {base : Heap} {k : Nat} {f : Addr} {x qual : Str} {st : Stmt} {fd : FuncData} {N ps : List Str} {sp : Addr → Value → Option Addr → Sp} (F : Fun K x qual st f fd) (S : FnScope N ps (defScope st))
    (len : ∀ a cls d vs H Q E, sp a cls d vs H Q E → vs.length = ps.length)
    (body : ∀ (cdv : Value) (A : Around) (outer : List Env) (s : Shared) (H : Hp) (vs : List V) (Q : VK) (E : XK) (p : Addr × Obj) (cls : Value) (d : Option Addr), Zc cls d p.2 → (∃ vs, p.2.data = .fields vs) → L2H.RoomH k (A.deeper (envOfC qual (defScope st) s.heap.objs.size f cdv)) → sp p.1 cls d vs H Q E →
      ∃ t, PSs (L2H.cxH CX0 P w K mg base N qual (defScope st) f cdv A outer s H E p) (defBody st) t ∧ t { nx := fun _ H' => Q .non H', rt := Q } (L2.start N vs) H) : FnP P w K mg base (k + 1) f fd ps sp := by
  obtain ⟨oc, od, kV, doc, pm, an, cdv, ct, osl, rfl, lk, hcd⟩ := F.ex
  constructor
  · exact len
  intro A outer s H args us vs Q E p cls d room pin zc dat e0 bd rv hsp
  have inK : K.In s.heap := e0.mod.kin.keeps fun b o z => (e0.bs b o z).1
  have free_ : s.heap.NoLimit := e0.mod.nolimit.keeps fun b o z => (e0.bs b o z).1
  have kinds : ∀ y ∈ ps.zip us, (defScope st).names.lookup y.1 = some .local ∨ ((defScope st).names.lookup y.1 = some .cell ∧ ((cellsFrom (s.heap.objs.size + 1) (defScope st).names []).lookup y.1).isSome = true) := by
    rintro ⟨y, v⟩ hy
    rcases S.par y (List.of_mem_zip hy).1 with z | z
    · exact .inl z
    · exact .inr ⟨z, PySem.W.cellsFrom_some _ _ _ (.inl z)⟩
  apply codeAny_call_function room.depth (inK _ _ lk) rfl S.co S.gen rfl (PySem.W.codeRec_of inK hcd)
  apply bd
  apply wpAny_newFunctionEnv_cells S.kind kinds
  rintro env rfl s1 inside
  refine ⟨free_.keeps inside.toInCall.keep, codeAny_func ?_⟩
  obtain ⟨t, term, reading⟩ := body cdv A outer s H vs Q E p cls d zc dat (room.deeper _) hsp
  have I := L2H.inv_startH (CX := CX0) (E := E) S pin e0 (len _ _ _ _ _ _ _ hsp) rv inside
  refine wpAny_mono (term.run [] s1 (L2.start N vs) H _ I reading) (fun fl s' out => ?_) fun _ _ z => z
  cases fl with
  | ret u => obtain ⟨v, _, H', J, r, q⟩ := out; exact ⟨v, H', J.os, J.bare, J.base, J.hok, r, q⟩
  | next => obtain ⟨_, H', J, q⟩ := out; exact ⟨.non, H', J.os, J.bare, J.base, J.hok, rfl, q⟩
  | brk => obtain ⟨_, _, _, q⟩ := out; exact q.elim
  | cont => obtain ⟨_, _, _, q⟩ := out; exact q.elim
section
variable {X : Cx} {k : Nat} {f a : Addr} {oe : Obj} {cls : Value} {d : Option Addr} {fd : FuncData} {ps : List Str} {sp : Addr → Value → Option Addr → Sp} {x : Str} {q pos : Pos} {e : Expr} {es : List Expr} {t : TA}
theorem pe_callP (hp : (a, oe) ∈ X.pn) (hz : Zc cls d oe) (hf : ∃ vs, oe.data = .fields vs) (F : FnP X.prog X.w X.K X.mg X.base k f fd ps sp) (hr : L2H.RoomH k X.A) (hg : Gl X x) (hm : X.mg x = some (.ref f)) (hk : PySem.W.keepIn X.K (.ref f) = true) (hb : Binds X.K fd ps [])
    (ha : PA X (e :: es) t) (hdb : (x == ("__debug__" : Str)) = false := by decide) (he : starEach (e :: es) X.env = (false, eval e X.env) :: starEach es X.env := by rfl) (hpl : (backTo pos (starEach es X.env)).any (·.1) = false := by rfl) :
    PE X (.Call (.Name x q) (e :: es) [] pos) (fun σ H Q => t σ H fun vs H1 => sp a cls d vs H1 Q E0) := by
  constructor
  intro pins s σ H Q I h
  apply wpAny_Call_Name_kw
  refine ld_glob I hg hm ?_ hdb
  refine PySem.W.callWith_K (h₀ := X.base) I.ok.mod.kin hk (thn (ha.run pos pins s σ H _ I h) ?_) he hpl
  rintro us s1 ⟨vs, H1, I1, r1, q1⟩
  refine ⟨I1.kIn, ?_⟩
  have ln : (us ++ ([] : List Value)).length = ps.length := by
    rw [List.append_nil, ← r1.length]
    exact F.len _ _ _ _ _ _ _ q1
  have bd := hb s1 us I1.kIn ln
  rw [List.append_nil] at bd
  have P1 := I1.pin (a, oe) (List.mem_append_left _ hp)
  have pin : L2H.PinOk X.stack H1 s1 (a, oe) := by
    refine ⟨P1.1, P1.2.1, fun m => ?_, P1.2.2.2.2⟩
    rcases List.mem_cons.mp (I1.stkSub a m) with z | z
    · exact P1.2.2.1 z
    · exact P1.2.2.2.1 z
  refine wpAny_call (codeAny_mono (F.run X.A X.stack s1 H1 ⟨us, []⟩ us vs Q E0 (a, oe) cls d hr pin hz hf I1.env0 bd r1 q1) fun r s' out => ?_)
  cases r with
  | error z => exact (show False from out).elim
  | ok fl =>
    cases fl with
    | ret u => exact I1.after out
    | next => exact False.elim out
    | brk => exact False.elim out
    | cont => exact False.elim out
end
open NdefX
/-! ### own error classes over a built-in one -/
/-- the built-in base B, its __new__, its __init__, its mro -/
structure ErB (B newId initId : String) (bmB : List Value) : Prop where
  fb : ExcBaseFacts B newId initId bmB
  kx : PySem.W.KxsFacts B initId
  sf : StoreFacts B bmB "object.__setattr__" "object"
theorem erb_VE : ErB "ValueError" "ValueError.__new__" "ValueError.__init__" [.type "ValueError", .type "Exception", .type "BaseException", .type "object"] := ⟨PySem.F.excBase_ValueError, PySem.W.kxs_ValueError, PySem.F.store_ValueError⟩
theorem erb_LE : ErB "LookupError" "LookupError.__new__" "LookupError.__init__" [.type "LookupError", .type "Exception", .type "BaseException", .type "object"] := ⟨PySem.F.excBase_LookupError, PySem.W.kxs_LookupError, PySem.F.store_LookupError⟩
theorem erb_IE : ErB "IndexError" "IndexError.__new__" "IndexError.__init__" [.type "IndexError", .type "LookupError", .type "Exception", .type "BaseException", .type "object"] := ⟨PySem.F.excBase_IndexError, PySem.W.kxs_IndexError, PySem.F.store_IndexError⟩
/-- what stands written of an own error class at C -/
structure ErC (K : PySem.W.Frag) (C : Addr) (newId : String) (bmB : List Value) : Prop where
  cls : ∃ nm q N bs bm sn sub ab col dd k0 k1 k2 k3 k5, K.lookup C = some (excClassObj nm q C N bs bm true sn sub ab col dd k0 k1 k2 k3 k5 newId) ∧ PySem.W.excTail bmB bm = true
  ov : PySem.W.excOver K C bmB = true
  sa : PySem.W.findIn K (.ref C) "__setattr__" = some (some (.builtin "object.__setattr__"))
  ga : PySem.W.findIn K (.ref C) "__getattribute__" = some (some (.builtin "BaseException.__getattribute__"))
  gt : PySem.W.findIn K (.ref C) "__getattr__" = some none
  ex : PySem.W.subIn K (.ref C) (.type "BaseException") = some true
  ty : PySem.W.typeIn K (.ref C) = some (.type "type")
  kp : PySem.W.keepIn K (.ref C) = true
  cl : PySem.W.findIn K (.ref C) "__class__" = some (some (.builtin "object.__class__"))
  ob : PySem.W.mroIn K C (.type "object") = some true
section
variable {pr : Program} {wo : World} {A : Around} {Ex : Value → Shared → Prop} {hh : Heap} {gg : Array GenState} {dr : Drawn} {tt : Nat} {oo : OsState}
variable {nm qn : Str} {C N : Addr} {bs bm bmB : List Value} {hdct : Bool} {sn : List Str} {sub : List Value} {ab : Bool} {col : Option Bool} {dd : Option Addr} {k0 k1 k2 k3 k5 : Option Value} {B newId initId : String}
theorem mw_call (FB : ExcBaseFacts B newId initId bmB) {u e t0 : Addr} {rest : List Value} {Qv : Value → Shared → Prop}
    (hC : hh.get? C = some (excClassObj nm qn C N bs bm hdct sn sub ab col dd k0 k1 k2 k3 k5 newId)) (he : hh.get? e = some (PySem.HandSPX.excO C t0)) (hu : hh.get? u = some (PySem.W.kxs_mw initId e)) (hrest : rest.length ≤ sizeLine)
    (hq : ∀ h' t1, (∀ b o, b ≠ e → hh.get? b = some o → h'.get? b = some o) → h'.get? e = some (PySem.HandSPX.excO C t1) → Qv .none ⟨h', gg, dr, tt, oo⟩) :
    wpAny (model pr wo) A (call (.ref u) rest) Qv Ex ⟨hh, gg, dr, tt, oo⟩ := by
  refine wpAny_call (codeAny_of_tree ?_)
  show wpAny _ A.in1 (callAny (.ref u) ⟨rest, []⟩) _ _ _
  simp only [callAny]
  refine wpAny_bind (wpAny_load hu ?_)
  refine PySem.W.KFB.if_so (show ((Value.type "method-wrapper" == .type "method") || (Value.type "method-wrapper" == .type "builtin_function_or_method") || (Value.type "method-wrapper" == .type "method-wrapper")) = true by decide) ?_
  refine wpAny_bind (PySem.W.check_bound_init FB.toExcCallFacts hC he rfl ?_)
  refine wpAny_bind (wpAny_pure (wpAny_pure ⟨plainId_quiet FB.init.plain _, codeAny_builtin FB.initEntry ?_⟩))
  refine PySem.W.exc_init_tree (cls := .ref C) (t0 := t0) (dv := none) (c2 := .none) (c3 := .none) (b4 := .bool false) he hrest fun h' k e' _ => hq h' _ k e'
end
section
variable {X : Cx} {pins : List (Addr × Obj)} {σ : L2.St} {H : Hp} {s : Shared} {B newId initId : String} {bmB : List Value}
/-! ### self.f = y -/
theorem taker0 {K : PySem.W.Frag} {C : Addr} {f : Str} (h : PySem.W.findIn K (.ref C) f = some none) : PySem.W.takerIn K C f = some none := by
  unfold PySem.W.takerIn
  rw [h]
  rfl
theorem gst_new {a C : Addr} {f : Str} {y : V} {u : Value} {Qu : Unit → Shared → Prop} {Ex : Value → Shared → Prop} {A : Around} (E : ErB B newId initId bmB) (T : ErC X.K C newId bmB) (I : Inv X pins σ H s) (e : H a = some (exo a C none)) (hno : PySem.W.findIn X.K (.ref C) f = some none) (ry : RelV y u)
    (h : ∀ dx s', H dx = none → dx ≠ a → Inv X pins σ (upd (upd H dx (exd dx [(f, y)])) a (exo a C (some dx))) s' → Qu () s') : wpAny (model X.prog X.w) A (setAttr (.ref a) f u) Qu Ex s := by
  obtain ⟨nm, q, N, bs, bm, sn, sub, ab, col, dd, k0, k1, k2, k3, k5, hC, hbm⟩ := T.cls
  have hcl : PySem.W.clsIn X.K C = some { name := nm, bases := bs, mro := .ref C :: bm, ns := N, qualname := q, hasDict := true, slotNames := sn, subclasses := sub, abstract := ab, collection := col, hasDel := false } := by unfold PySem.W.clsIn; rw [hC] <;> rfl
  obtain ⟨t1, ho⟩ := exo_at I.hok e
  obtain ⟨hp, g, d, t, os⟩ := s
  have IA : PySem.W.InstAt hp a (PySem.HandSPX.excO C t1) C none := ⟨ho, rfl, rfl, trivial⟩
  refine PySem.W.set_plain I.kIn IA T.sa ?_
  refine PySem.W.osa_openX E.sf (s := ⟨hp, g, d, _, os⟩) I.kIn IA T.ov (taker0 hno) fun b => ?_
  have hcls : PySem.W.Looks (model X.prog X.w) hp (classData C) _ := PySem.W.looks_clsIn I.kIn hcl
  have hxs : a ≠ hp.objs.size := Nat.ne_of_lt (Heap.lt_size ho)
  show wpAny _ _ (Builtin.ObjectAttr.storeInOwnDict (.ref a) (.ref C) (.str f _) f u b) _ _ _
  unfold Builtin.ObjectAttr.storeInOwnDict Builtin.ObjectAttr.ownDictForStores
  repeat (first | with_reducible refine PySem.HandSPX.store_in_new ?_ ?_ | with_reducible refine wpAny_loadPart_at ho ?_ | with_reducible refine hcls.at ?_ | wp_step)
  · exact ⟨_, #[], _, (Heap.get?_update_ne _ _ _ _ hxs.symm).trans (Heap.get?_push_at rfl rfl), rfl, fun e he => absurd he (by simp), fun _ => rfl⟩
  · intro h' tk' hn' hs
    have hx1 : (hp.push { cls := .type "dict", data := .dict #[] }).get? a = some (PySem.HandSPX.excO C t1) := Heap.get?_push_of_some _ ho
    have k : ∀ b o, b ≠ a → hp.get? b = some o → h'.get? b = some o := fun b o hb ho' => (hs.2 b (Nat.ne_of_lt (Heap.lt_size ho'))).trans ((Heap.get?_update_ne _ _ _ _ hb).trans (Heap.get?_push_of_some _ ho'))
    have hx := (hs.2 a hxs).trans (Heap.get?_update_self _ hx1 rfl)
    have dn := Nat.le_refl hp.objs.size
    have hnd : H hp.objs.size = none := I.hok.fresh dn
    have nd : ∀ {b : Addr} {o : Obj}, hp.get? b = some o → b ≠ hp.objs.size := fun q => Nat.ne_of_lt (Heap.lt_size q)
    have na : ∀ {b : Addr}, H b = none → b ≠ a := fun {b} n z => by
      rw [z, e] at n
      cases n
    have U1 : Un X.fs [] H (upd (upd H hp.objs.size (exd hp.objs.size [(f, y)])) a (exo a C (some hp.objs.size))) hp h' := {
      keep := fun b o q n _ _ => k b o (na n) q
      slot := fun b o q n _ _ => ⟨o.slots, k b o (na n) q⟩
      free := fun b o q n _ => (upd_ne (na n)).trans ((upd_ne (nd q)).trans n)
      there := fun b o q _ => by
        by_cases hb : b = a
        · exact ⟨_, hb ▸ hx⟩
        · exact ⟨o, k b o hb q⟩
      tups := fun b xs q => (upd_ne (at_ne e q exo_tup)).trans ((upd_ne (ne_of_none q hnd)).trans q)
      frzs := fun b o v q => (upd_ne (at_ne e q exo_frz)).trans ((upd_ne (ne_of_none q hnd)).trans q)
      tbls := fun b ps q => ⟨#[], by rw [upd_ne (at_ne e q exo_tbl), upd_ne (ne_of_none q hnd), q]; simp⟩ }
    refine h hp.objs.size _ hnd hxs.symm (I.un (t' := tk') U1 fun b o q => ?_)
    by_cases hb : b = a
    · subst hb
      rw [upd_same] at q
      cases q
      exact exo_ok hx
    · rw [upd_ne hb] at q
      by_cases hd : b = hp.objs.size
      · subst hd
        rw [upd_same] at q
        cases q
        exact exd_ok hn' (relO_put (fs := []) ry fun g => True.intro)
      · rw [upd_ne hd] at q
        refine (I.hok b o q).stay (fun c v hc z => k c v ?_ z) (fun c hc => (upd_ne (at_ne e hc exo_own)).trans ((upd_ne (ne_of_none hc hnd)).trans hc)) fun c xs hc => (upd_ne (at_ne e hc exo_tup)).trans ((upd_ne (ne_of_none hc hnd)).trans hc)
        rcases hc with hc | hc
        · rw [hc]
          exact hb
        · exact at_ne e hc exo_own
theorem gst_old {a C dx : Addr} {f : Str} {y : V} {u : Value} {fs : List (Str × V)} {Qu : Unit → Shared → Prop} {Ex : Value → Shared → Prop} {A : Around} (E : ErB B newId initId bmB) (T : ErC X.K C newId bmB) (I : Inv X pins σ H s) (e : H a = some (exo a C (some dx))) (ed : H dx = some (exd dx fs)) (hl : fs.length ≤ 900)
    (hno : PySem.W.findIn X.K (.ref C) f = some none) (ry : RelV y u) (h : ∀ s', Inv X pins σ (upd H dx (exd dx ((f, y) :: fs))) s' → Qu () s') : wpAny (model X.prog X.w) A (setAttr (.ref a) f u) Qu Ex s := by
  obtain ⟨nm, q, N, bs, bm, sn, sub, ab, col, dd, k0, k1, k2, k3, k5, hC, hbm⟩ := T.cls
  have hcl : PySem.W.clsIn X.K C = some { name := nm, bases := bs, mro := .ref C :: bm, ns := N, qualname := q, hasDict := true, slotNames := sn, subclasses := sub, abstract := ab, collection := col, hasDel := false } := by unfold PySem.W.clsIn; rw [hC] <;> rfl
  obtain ⟨t1, ho⟩ := exo_at I.hok e
  obtain ⟨mA, hns, rel⟩ := exd_at I.hok ed
  have hw := within_of rel
  obtain ⟨hp, g, d, t, os⟩ := s
  obtain ⟨oD, _, _, hoD, _, _⟩ := hns.count hw
  have IA : PySem.W.InstAt hp a { cls := .ref C, dict := some dx, data := .fields #[.ref t1, .none, .none, .none, .bool false, .none] } C (some oD) := ⟨ho, rfl, rfl, hoD⟩
  refine PySem.W.set_plain I.kIn IA T.sa ?_
  refine PySem.W.osa_openX E.sf (s := ⟨hp, g, d, _, os⟩) I.kIn IA T.ov (taker0 hno) fun b => ?_
  have hcls : PySem.W.Looks (model X.prog X.w) hp (classData C) _ := PySem.W.looks_clsIn I.kIn hcl
  show wpAny _ _ (Builtin.ObjectAttr.storeInOwnDict (.ref a) (.ref C) (.str f _) f u b) _ _ _
  unfold Builtin.ObjectAttr.storeInOwnDict Builtin.ObjectAttr.ownDictForStores
  repeat (first | with_reducible refine PySem.OEX.store_in_old hns hw (by rw [List.length_map]; omega) ?_ | with_reducible refine wpAny_loadPart_at ho ?_ | with_reducible refine hcls.at ?_ | wp_step)
  intro h' tk' hn hs
  have k : ∀ b o, b ≠ dx → hp.get? b = some o → h'.get? b = some o := fun b o hb ho' => (hs.2 b hb).trans ho'
  have hd : ∃ o, h'.get? dx = some o := by
    obtain ⟨o, _, _, e', _⟩ := hn
    exact ⟨o, e'⟩
  exact h _ (I.write (t' := tk') (x := dx) (e := dx) (o := exd dx ((f, y) :: fs)) (by rw [ed]; exact True.intro) (.inl rfl) k hd (exd_ok hn (relO_put ry rel)))
def tGst (K : PySem.W.Frag) (newId : String) (bmB : List Value) (f : Str) (to te : TE) : TS := fun D σ H => te σ H fun y H1 => to σ H1 fun x H2 => ∃ a C : Addr, x = .ref a ∧ ErC K C newId bmB ∧ PySem.W.findIn K (.ref C) f = some none ∧
  ((H2 a = some (exo a C none) ∧ ∀ dx, H2 dx = none → dx ≠ a → D.nx σ (upd (upd H2 dx (exd dx [(f, y)])) a (exo a C (some dx)))) ∨
    ∃ (dx : Addr) (fs : List (Str × V)), H2 a = some (exo a C (some dx)) ∧ H2 dx = some (exd dx fs) ∧ fs.length ≤ 900 ∧ D.nx σ (upd H2 dx (exd dx ((f, y) :: fs))))
theorem ps_gst {o e : Expr} {to te : TE} {f : Str} {p' pos : Pos} (E : ErB B newId initId bmB) (ho : PE X o to) (he : PE X e te) (hs : swapsWith e (some (.Attribute o f p')) pos.line X.env = pure false := by rfl) : PS X (.Assign [.Attribute o f p'] e pos) (tGst X.K newId bmB f to te) := by
  refine ⟨fun pins s σ H D I h => ?_⟩
  refine plainObj_wpAny_Assign_Attribute (thn (he.run pins s σ H _ I h) fun v s1 ⟨y, H1, I1, r1, q1⟩ => thn (ho.run pins s1 σ H1 _ I1 q1) fun u s2 ⟨x, H2, I2, r2, a, C, ex, T, hno, q⟩ => ?_) hs
  subst ex
  obtain rfl : u = Value.ref a := r2
  rcases q with ⟨ea, q⟩ | ⟨dx, fs, ea, ed, hl, q⟩
  · exact gst_new E T I2 ea hno r1 fun dx s' n ne J => ⟨σ, _, J, q dx n ne⟩
  · exact gst_old E T I2 ea ed hl hno r1 fun s' J => ⟨σ, _, J, q⟩
end
section
variable {X : Cx} {pins : List (Addr × Obj)} {σ : L2.St} {H : Hp} {s : Shared} {B newId initId : String} {bmB : List Value}
/-! ### super().__init__(text), the first statement of an own error's __init__ -/
/-- a method with super(): its def at f, its code object at c -/
structure SupM (X : Cx) (f c : Addr) (ar : Arg) : Prop where
  fu : X.env.func = some f
  co : X.env.code = .ref c
  fd : ∃ (o : Obj) (fd : FuncData), X.K.lookup f = some o ∧ o.data = .func fd ∧ (fd.params.posonlyargs ++ fd.params.args).head? = some ar
  cd : ∃ (o : Obj) (vs : Array Value) (file : Str) (tk : Tok), X.K.lookup c = some o ∧ o.data = .fields vs ∧ vs[2]? = some (.str file tk) ∧ ((X.prog.main.file : Str) == file) = true
  ks : X.env.kindOf "super" = some .globalImplicit
  kc : X.env.kindOf "__class__" = some .free
  ka : X.env.kindOf ar.arg = some .local
  top : (X.prog.main.scope.names.lookup ("super" : Str)).isSome = false
  no : X.mg "super" = none
  op : PySem.W.nsIn X.K cStatics "thirdparty.any" = some none
theorem sup_stmt {f c a C : Addr} {ar : Arg} {i j : Nat} {body : List Stmt} {m : Str} {n : Nat} {pl : Sem Bool} {p0 p1 p2 p3 p4 p5 : Pos} (E : ErB B newId initId bmB) (T : SupM X f c ar) (O : ErC X.K C newId bmB) (I : Inv X pins σ H s)
    (hi : X.N[i]? = some ar.arg) (hs : σ[i]? = some (some (.ref a))) (hj : X.N[j]? = some ("__class__" : Str)) (hsj : σ[j]? = some (some (.ref C))) (ha : H a = some (exo a C none))
    (hsup : PySem.W.ks_superIn X.K C C "__init__" = some (some (.builtin initId))) (hB : PySem.W.subIn X.K (.ref C) (.type B) = some true) (hDD : PySem.W.mroIn X.K C (.ref C) = some true)
    (he : eval (.Call (.Attribute (.Call (.Name "super" p0) [] [] p1) "__init__" p2) [.Constant (.str m) n p3] [] p4) X.env = (do
      let ov ← attributeBase (.Call (.Name "super" p0) [] [] p1) "__init__" X.env (eval (.Call (.Name "super" p0) [] [] p1) X.env)
      standAt p2.atName
      let (g, first) ← holding [ov] (getMethod ov "__init__" pl)
      callWith p4 g first (backTo p4 (starEach [.Constant (.str m) n p3] X.env)) []))
    (hint : interactive X.env = false) (hsw : swapsWith (.Call (.Attribute (.Call (.Name "super" p0) [] [] p1) "__init__" p2) [.Constant (.str m) n p3] [] p4) none p5.line X.env = pure false) :
    _root_.PySem.wpAt (model X.prog X.w) X.A (.func body X.env) (exec (.Expr (.Call (.Attribute (.Call (.Name "super" p0) [] [] p1) "__init__" p2) [.Constant (.str m) n p3] [] p4) p5) X.env) (fun fl s' => fl = .next ∧ Inv X pins σ H s') X.xe s := by
  refine ks_wpAt_Expr_any ?_ hint hsw
  refine ks_wpAt_MethodCall (pl := pl) ?_ he
  have KX : X.K.In s.heap := I.kIn
  obtain ⟨of, fd, hf, hfd, hp⟩ := T.fd
  obtain ⟨oc, vs, file, tk, hc, hoc, hvs, hfile⟩ := T.cd
  obtain ⟨nm, q, N, bs, bm, sn, sub, ab, col, dd, k0, k1, k2, k3, k5, hC, hbm⟩ := O.cls
  have hcl : PySem.W.clsIn X.K C = some { name := nm, bases := bs, mro := .ref C :: bm, ns := N, qualname := q, hasDict := true, slotNames := sn, subclasses := sub, abstract := ab, collection := col, hasDel := false } := by unfold PySem.W.clsIn; rw [hC] <;> rfl
  obtain ⟨t1, ho⟩ := exo_at I.hok ha
  refine ks_wpAt_super_base (env := X.env) T.ks T.kc (by decide) T.fu (KX _ _ hf) hfd hp T.co (KX _ _ hc) hoc hvs hfile T.top ?_
  obtain ⟨mb, h1, h2⟩ := I.mod.blt
  refine PySem.W.ks_loadName_global I.ok.kind T.ks (Calls.loadGlobal_builtin (by rw [I.ok.glob]; exact I.mod.glob.keeps I.bk) T.no (by rw [I.ok.blt]; exact h1.keeps I.bk) ((h2 "super" (by decide)).trans (by decide +kernel)) ⟨rfl, ?_⟩)
  obtain ⟨mm, hn, hl⟩ := I.loc
  obtain ⟨uc, rc, lc⟩ := hl j _ _ hj hsj (.inr (.inr T.kc))
  obtain ⟨ua, ra, la⟩ := hl i _ _ hi hs (.inl T.ka)
  obtain rfl : uc = Value.ref C := rc
  obtain rfl : ua = Value.ref a := ra
  obtain ⟨cc, hcc, hcell⟩ : ∃ cc, X.env.cells.lookup ("__class__" : Str) = some cc ∧ s.heap.IsCell cc (some (Value.ref C)) := by
    rcases lc with ⟨z, _⟩ | ⟨_, z⟩
    · rw [T.kc] at z
      cases z
    · exact z
  have hma : mm ar.arg = some (Value.ref a) := by
    rcases la with ⟨_, z⟩ | ⟨z, _⟩
    · exact z
    · rw [T.ka] at z
      rcases z with z | z <;> cases z
  refine wpAny_loadName_free I.ok.kind T.kc hcc hcell ?_
  refine wpAny_loadName_local I.ok.kind T.ka hn hma ?_
  have hCh := KX _ _ hC
  refine ks_wpAny_isType_cls hCh rfl ⟨rfl, ?_⟩
  obtain ⟨hp', g, d, t, os⟩ := s
  refine ks_wpAny_call_super hCh rfl ho rfl (fun z e => by cases e) (PySem.W.looks_mroIn KX hDD) fun h1 so kk => ?_
  have I1 : Inv X pins σ H ⟨h1, g, d, t, os⟩ := I.kept (t' := t) kk
  have hin : PySem.W.Looks (model X.prog X.w) h1 (isInstance (.ref a) (.type B)) true := (show PySem.W.InstAt h1 a (PySem.HandSPX.excO C t1) C none from ⟨kk _ _ ho, rfl, rfl, trivial⟩).type.andThen (PySem.W.looks_subIn I1.kIn hB)
  have hsup' := hsup
  unfold PySem.W.ks_superIn at hsup'
  rw [hcl] at hsup'
  refine PySem.W.kxs_getMethod E.kx so (PySem.W.looks_opaque I1.kIn T.op) (l₀ := .ref C :: bm) (fun A Q E s k q => wpAny_bind ((PySem.W.looks_clsIn I1.kIn hcl) A _ E s k (wpAny_pure q))) rfl I1.kIn hsup' hin (fun z => ?_) (by decide) ?_
  · subst z
    rw [show hp'.get? a = _ from hCh] at ho
    cases ho
  have kk2 : ∀ b o, h1.get? b = some o → (h1.push (PySem.W.kxs_mw initId a)).get? b = some o := fun b o e => Heap.get?_push_of_some _ e
  have I2 : Inv X pins σ H ⟨h1.push (PySem.W.kxs_mw initId a), g, d, t + 1, os⟩ := I1.kept (t' := t + 1) kk2
  have hmw : (h1.push (PySem.W.kxs_mw initId a)).get? h1.objs.size = some (PySem.W.kxs_mw initId a) := Heap.get?_push_at rfl rfl
  show wpAny _ _ (callWith p4 (.ref h1.objs.size) [] ((false, eval (.Constant (.str m) n p3) X.env) :: backTo p4 (starEach [] X.env)) []) _ _ _
  refine PySem.W.kxs_callWith (i := initId) (x := a) rfl (PySem.Calls.evalArgs_plain (PySem.Calls.spliced_cons (PySem.Calls.Constant_str (PySem.Calls.spliced_nil ⟨hmw, ?_⟩))))
  show wpAny _ _ (call (.ref h1.objs.size) [.str m (t + 1)]) _ _ _
  refine mw_call E.fb (kk2 _ _ (kk _ _ hCh)) (kk2 _ _ (kk _ _ ho)) hmw (by show 1 ≤ sizeLine; decide) fun h3 t3 k3 e3 => ⟨rfl, ?_⟩
  have J := (I2.tok (t + 1 + 1)).write (h' := h3) (t' := t + 1 + 1) (x := a) (e := a) (o := exo a C none) (by rw [ha]; exact True.intro) (.inl rfl) k3 ⟨_, e3⟩ (exo_ok e3)
  rw [show upd H a (exo a C none) = H from funext fun z => by
    by_cases hz : z = a
    · rw [hz, upd_same, ha]
    · rw [upd_ne hz]] at J
  exact J
end
section
variable {P : Program} {w : World} {K : PySem.W.Frag} {mg : Str → Option Value} {base : Heap} {B newId initId : String} {bmB : List Value}
/-- what stands written of an own error's __init__: its words F, the def at f, its class at C -/
structure IniM (P : Program) (K : PySem.W.Frag) (mg : Str → Option Value) (B newId initId : String) (bmB : List Value) (f C : Addr) (F : NF) (ar : Arg) (doc pm ctv : Value) : Prop where
  lk : ∃ (od : Option Addr) (sl : Array (Option Value)), K.lookup f = some ⟨.type "function", od, .func (F.fd doc pm ctv), sl⟩
  cd : PySem.W.codeIn K (.ref F.c) F.qual = true
  cl : ∃ (cc : Addr) (o : Obj), F.cl = [(("__class__" : Str), cc)] ∧ K.lookup cc = some o ∧ o.data = .cell (some (.ref C))
  hd : (F.params.posonlyargs ++ F.params.args).head? = some ar
  fl : ∃ (o : Obj) (vs : Array Value) (file : Str) (tk : Tok), K.lookup F.c = some o ∧ o.data = .fields vs ∧ vs[2]? = some (.str file tk) ∧ ((P.main.file : Str) == file) = true
  ks : F.scope.names.lookup ("super" : Str) = some .globalImplicit
  kc : F.scope.names.lookup ("__class__" : Str) = some .free
  ka : F.scope.names.lookup ar.arg = some .local
  top : (P.main.scope.names.lookup ("super" : Str)).isSome = false
  no : mg "super" = none
  op : PySem.W.nsIn K cStatics "thirdparty.any" = some none
  ox : ErC K C newId bmB
  su : PySem.W.ks_superIn K C C "__init__" = some (some (.builtin initId))
  sb : PySem.W.subIn K (.ref C) (.type B) = some true
  mr : PySem.W.mroIn K C (.ref C) = some true
theorem init_fn {f C : Addr} {F : NF} {ar : Arg} {doc pm ctv : Value} {N ps : List Str} {k i j n : Nat} {sp : Sp} {m : Str} {p0 p1 p2 p3 p4 p5 : Pos} {rest : List Stmt} {pl : Addr → Sem Bool} (EB : ErB B newId initId bmB) (T : IniM P K mg B newId initId bmB f C F ar doc pm ctv)
    (S : NScope N ps ["__class__"] F.scope) (len : ∀ vs H Q E, sp vs H Q E → vs.length = ps.length) (hi : N[i]? = some ar.arg) (hj : N[j]? = some ("__class__" : Str))
    (hbd : F.body = .Expr (.Call (.Attribute (.Call (.Name "super" p0) [] [] p1) "__init__" p2) [.Constant (.str m) n p3] [] p4) p5 :: rest)
    (hst : ∀ vs H Q E, sp vs H Q E → ∃ a, (startF N vs [some (.ref C)])[i]? = some (some (.ref a)) ∧ (startF N vs [some (.ref C)])[j]? = some (some (.ref C)) ∧ H a = some (exo a C none))
    (hbody : ∀ (A : Around) (outer : List Env) (s : Shared) (H : Hp) (vs : List V) (Q : VK) (E : XK), Room k (A.deeper (envF F f s.heap.objs.size)) → sp vs H Q E →
      ∃ t, PSs (ncx CX0 P w K mg base N F f A outer s H E) rest t ∧ t { nx := fun _ H' => Q .non H', rt := Q } (startF N vs [some (.ref C)]) H)
    (he : ∀ L, eval (.Call (.Attribute (.Call (.Name "super" p0) [] [] p1) "__init__" p2) [.Constant (.str m) n p3] [] p4) (envF F f L) = (do
      let ov ← attributeBase (.Call (.Name "super" p0) [] [] p1) "__init__" (envF F f L) (eval (.Call (.Name "super" p0) [] [] p1) (envF F f L))
      standAt p2.atName
      let (g, first) ← holding [ov] (getMethod ov "__init__" (pl L))
      callWith p4 g first (backTo p4 (starEach [.Constant (.str m) n p3] (envF F f L))) []) := by intro _; rfl)
    (hint : ∀ L, interactive (envF F f L) = false := by intro _; rfl)
    (hsw : ∀ L, swapsWith (.Call (.Attribute (.Call (.Name "super" p0) [] [] p1) "__init__" p2) [.Constant (.str m) n p3] [] p4) none p5.line (envF F f L) = pure false := by intro _; rfl) :
    FnOk P w K mg base CX0 (k + 1) f (F.fd doc pm ctv) ps sp := by
  refine ⟨len, fun A outer s H args us vs Q E hr e0 hb r hsp => ?_⟩
  have KX : K.In s.heap := e0.mod.kin.keeps fun b o e => (e0.bs b o e).1
  have hl := len _ _ _ _ hsp
  have lim : s.heap.NoLimit := e0.mod.nolimit.keeps fun b o e => (e0.bs b o e).1
  obtain ⟨od, sl, lk⟩ := T.lk
  obtain ⟨cc, oc, ecl, lcc, dcc⟩ := T.cl
  refine codeAny_call_function hr.depth (KX _ _ lk) rfl S.co S.gen rfl (PySem.W.codeRec_of KX T.cd) (hb _ _ _ _ ?_)
  refine wpAny_newFunctionEnv S.nocell (fun ⟨x, _⟩ hy => S.par x (List.of_mem_zip hy).1) (fun h1 hns hsb => ⟨lim.fresh _ hsb, ?_⟩) S.kind
  have kp : ∀ b o, s.heap.get? b = some o → h1.get? b = some o := fun b o e => hsb.extBut b o (Nat.ne_of_lt (Heap.lt_size e)) (Heap.get?_push_of_some _ e)
  have CA : CellsAt F.cl ["__class__"] [some (.ref C)] s.heap H := by
    rw [ecl]
    have hc : ∀ (y : Str) (c : Addr), ([(("__class__" : Str), cc)] : List (Str × Addr)).lookup y = some c → c = cc ∧ y = "__class__" := fun y c e => by
      rw [List.lookup_cons] at e
      split at e
      · rename_i z
        exact ⟨(Option.some.inj e).symm, eq_of_beq z⟩
      · cases e
    refine ⟨rfl, fun y c e => ?_, fun x y c e1 e2 => (hc x c e1).2.trans (hc y c e2).2.symm, fun i y e => ?_⟩
    · rw [(hc y c e).1]
      exact ⟨(e0.bs _ _ (e0.mod.kin _ _ lcc)).2, _, oc, KX _ _ lcc, dcc⟩
    · match i, e with
      | 0, e =>
        cases e
        exact ⟨cc, by simp, fun v e => by cases e; exact ⟨_, rfl, oc, KX _ _ lcc, dcc⟩⟩
  have I : Inv (ncx CX0 P w K mg base N F f A outer s H E) [] (startF N vs [some (.ref C)]) H { s with heap := h1, toks := s.toks + (ps.zip us).length } := inv_startN S hr.hd e0 hl r CA hns kp
  obtain ⟨a, s1, s2, ha⟩ := hst _ _ _ _ hsp
  have TM : SupM (ncx CX0 P w K mg base N F f A outer s H E) f F.c ar := ⟨rfl, rfl, ⟨_, _, lk, rfl, T.hd⟩, T.fl, T.ks, T.kc, T.ka, T.top, T.no, T.op⟩
  have fin : ∀ {τ : L2.St} {G : Hp} {v : V} {u : Value} {z : Shared}, Inv (ncx CX0 P w K mg base N F f A outer s H E) [] τ G z → L2.RelV v u → Q v G → CE outer P w H s Q u z :=
    fun J rv q => ⟨_, _, J.os, J.bare, J.base, J.hok, rv, q⟩
  obtain ⟨t, ht, hq⟩ := hbody A outer s H vs Q E (hr.deeper _) hsp
  refine ks_codeAny_funcAt (body := F.body) (env := envF F f s.heap.objs.size) ?_
  rw [hbd]
  refine ks_wpAt_execs_cons (ks_wpAt_mono (sup_stmt (X := ncx CX0 P w K mg base N F f A outer s H E) (i := i) (j := j) EB TM T.ox I hi s1 hj s2 ha T.su T.sb T.mr (he _) (hint _) (hsw _)) (fun fl s' hs => ?_) fun e s' hx => hx)
  obtain ⟨rfl, J⟩ := hs
  refine _root_.PySem.wpAt_of_wpAny (wpAny_mono (ht.run [] s' _ H _ J hq) (fun fl z hz => ?_) fun e s' hx => hx)
  cases fl with
  | ret u =>
    obtain ⟨v5, τ5, G5, J5, r5, q5⟩ := hz
    exact fin J5 r5 q5
  | next =>
    obtain ⟨τ5, G5, J5, q5⟩ := hz
    exact fin (v := V.non) (u := Value.none) J5 rfl q5
  | brk =>
    obtain ⟨_, _, _, q5⟩ := hz
    exact q5.elim
  | cont =>
    obtain ⟨_, _, _, q5⟩ := hz
    exact q5.elim
end
section
variable {X : Cx} {B newId initId : String} {bmB : List Value}
theorem ErC.has {K : PySem.W.Frag} {C : Addr} (T : ErC K C newId bmB) : PySem.W.hasDictIn K C = true ∧ (PySem.W.clsIn K C).isSome = true := by
  obtain ⟨nm, q, N, bs, bm, sn, sub, ab, col, dd, k0, k1, k2, k3, k5, hC, hbm⟩ := T.cls
  have hcl : PySem.W.clsIn K C = some { name := nm, bases := bs, mro := .ref C :: bm, ns := N, qualname := q, hasDict := true, slotNames := sn, subclasses := sub, abstract := ab, collection := col, hasDel := false } := by unfold PySem.W.clsIn; rw [hC] <;> rfl
  exact ⟨by unfold PySem.W.hasDictIn; rw [hcl] <;> rfl, by rw [hcl] <;> rfl⟩
/-! ### C(..): an own error as a value -/
def tMkV (C : Addr) (sp : Sp) (dvs : List V) (ta : TA) : TE := fun σ H Q => ta σ H fun vs H1 => vs.length ≤ 1000 ∧ ∀ a, H1 a = none → sp (.ref a :: (vs ++ dvs)) (upd H1 a (exo a C none)) (fun v H2 => v = .non ∧ Q (.ref a) H2) (fun _ _ _ => False)
theorem run_mkE {CX : CXT} {C fI : Addr} {k : Nat} {fd : FuncData} {ps : List Str} {sp : Sp} {ds : List Value} {dvs vs : List V} {us : List Value} {pins : List (Addr × Obj)} {σ : L2.St} {H1 : Hp} {s1 : Shared} {Q : VK} (E : ErB B newId initId bmB) (T : ErC X.K C newId bmB)
    (iC : PySem.W.findIn X.K (.ref C) "__init__" = some (some (.ref fI))) (tI : PySem.W.typeIn X.K (.ref fI) = some (.type "function")) (F1 : FnOk X.prog X.w X.K X.mg X.base CX k fI fd ps sp) (hr : Room (k + 1) X.A) (hb : Binds X.K fd ps ds) (hd : Vals dvs ds)
    (hx : Passes CX X (fun _ _ _ => False)) (I1 : Inv X pins σ H1 s1) (r1 : Vals vs us) (hz : vs.length ≤ 1000) (q1 : ∀ a, H1 a = none → sp (.ref a :: (vs ++ dvs)) (upd H1 a (exo a C none)) (fun v H2 => v = .non ∧ Q (.ref a) H2) (fun _ _ _ => False)) :
    wpAny (model X.prog X.w) X.A (call (.ref C) us) (EP X pins σ Q) X.xe s1 := by
  obtain ⟨nm, q, N, bs, bm, sn, sub, ab, col, dd, k0, k1, k2, k3, k5, hC, hbm⟩ := T.cls
  obtain ⟨hp, g, dr, tk, os⟩ := s1
  have hsz : hp.objs.size ≤ hp.objs.size + 1 := Nat.le_succ _
  have hq := q1 (hp.objs.size + 1) (I1.hok.fresh hsz)
  have kk : ∀ b o, hp.get? b = some o → ((hp.push (PySem.W.kdv_tup us)).push (PySem.HandSPX.excO C hp.objs.size)).get? b = some o := fun b o e => Heap.get?_push_of_some _ (Heap.get?_push_of_some _ e)
  have hget : ((hp.push (PySem.W.kdv_tup us)).push (PySem.HandSPX.excO C hp.objs.size)).get? (hp.objs.size + 1) = some (PySem.HandSPX.excO C hp.objs.size) := by heap_get
  have I2 : Inv X pins σ (upd H1 (hp.objs.size + 1) (exo (hp.objs.size + 1) C none)) ⟨(hp.push (PySem.W.kdv_tup us)).push (PySem.HandSPX.excO C hp.objs.size), g, dr, tk, os⟩ :=
    I1.laid (t' := tk) kk hsz (exo_ok hget)
  have r2 : Vals (V.ref (hp.objs.size + 1) :: (vs ++ dvs)) (Value.ref (hp.objs.size + 1) :: (us ++ ds)) := .cons rfl (r1.append hd)
  have hl : (Value.ref (hp.objs.size + 1) :: us ++ ds).length = ps.length := r2.length.symm.trans (F1.len _ _ _ _ hq)
  have hus : us.length ≤ sizeLine := by
    rw [← Paired.length r1, sizeLine_eq]
    omega
  refine wpAny_call (PySem.HandSPX.call_own E.fb (fun Y => PySem.W.excTail_contains Y bm hbm) (I1.kIn _ _ hC) (PySem.W.looks_findIn I1.kIn iC) (fun self => PySem.W.bind_fn I1.kIn self tI) hus
    (codeAny_mono (F1.run _ X.stack _ _ ⟨Value.ref (hp.objs.size + 1) :: us, []⟩ (Value.ref (hp.objs.size + 1) :: (us ++ ds)) _ _ (fun _ _ _ => False) (hr.make C us []) (I2.env0.make C us []) (hb _ (Value.ref (hp.objs.size + 1) :: us) I2.kIn hl) r2 hq) fun r s' hq' => ?_))
  match r, hq' with
  | .error er, hq' => exact hx pins σ _ _ er s' I2 hq'
  | .ok (.ret u), hq' =>
    obtain ⟨v, H2, J, rv, ev, q2⟩ := I2.after hq'
    subst ev
    exact ⟨rv, .ref (hp.objs.size + 1), H2, J, rfl, q2⟩
  | .ok .next, hq' => exact False.elim hq'
  | .ok .brk, hq' => exact False.elim hq'
  | .ok .cont, hq' => exact False.elim hq'
variable {CX : CXT} {x : Str} {C fI : Addr} {k : Nat} {fd : FuncData} {ps : List Str} {sp : Sp} {ds : List Value} {dvs : List V} {e : Expr} {es : List Expr} {ta : TA} {te : TE} {p pos : Pos}
theorem pe_mkE (E : ErB B newId initId bmB) (T : ErC X.K C newId bmB) (iC : PySem.W.findIn X.K (.ref C) "__init__" = some (some (.ref fI))) (tI : PySem.W.typeIn X.K (.ref fI) = some (.type "function"))
    (F1 : FnOk X.prog X.w X.K X.mg X.base CX k fI fd ps sp) (hr : Room (k + 1) X.A) (hb : Binds X.K fd ps ds) (hd : Vals dvs ds) (hx : Passes CX X (fun _ _ _ => False)) (hg : Gl X x) (hm : X.mg x = some (.ref C)) (ha : PA X (e :: es) ta)
    (hdb : (x == ("__debug__" : Str)) = false := by decide) (he : starEach (e :: es) X.env = (false, eval e X.env) :: starEach es X.env := by rfl) (hpl : (backTo pos (starEach es X.env)).any (·.1) = false := by rfl) :
    PE X (.Call (.Name x p) (e :: es) [] pos) (tMkV C sp dvs ta) := by
  refine ⟨fun pins s σ H Q I h => ?_⟩
  refine wpAny_Call_Name_kw (ld_glob I hg hm ?_ hdb)
  refine PySem.W.callWith_K (h₀ := X.base) I.ok.mod.kin T.kp (thn (ha.run pos pins s σ H _ I h) fun us s1 ⟨vs, H1, I1, r1, hz, q1⟩ => ⟨I1.kIn, ?_⟩) he hpl
  exact run_mkE E T iC tI F1 hr hb hd hx I1 r1 hz q1
theorem pe_mkE0 (E : ErB B newId initId bmB) (T : ErC X.K C newId bmB) (iC : PySem.W.findIn X.K (.ref C) "__init__" = some (some (.ref fI))) (tI : PySem.W.typeIn X.K (.ref fI) = some (.type "function"))
    (F1 : FnOk X.prog X.w X.K X.mg X.base CX k fI fd ps sp) (hr : Room (k + 1) X.A) (hb : Binds X.K fd ps ds) (hd : Vals dvs ds) (hx : Passes CX X (fun _ _ _ => False)) (hg : Gl X x) (hm : X.mg x = some (.ref C))
    (hdb : (x == ("__debug__" : Str)) = false := by decide) : PE X (.Call (.Name x p) [] [] pos) (tMkV C sp dvs tNil) := by
  refine ⟨fun pins s σ H Q I h => ?_⟩
  refine wpAny_Call_Name_kw (ld_glob I hg hm ?_ hdb)
  exact PySem.W.callWith_K0 I.kIn T.kp (run_mkE (us := []) E T iC tI F1 hr hb hd hx I .nil h.1 h.2)
/-! ### e.f of such a value -/
def tXo (K : PySem.W.Frag) (f : Str) (te : TE) : TE := fun σ H Q => te σ H fun x H1 => ∃ (a C d : Addr) (nw : String) (bm : List Value) (fs : List (Str × V)) (v : V), x = .ref a ∧ H1 a = some (exo a C (some d)) ∧ H1 d = some (exd d fs) ∧ fs.lookup f = some v ∧
  PySem.W.findIn K (.ref C) f = some none ∧ ErC K C nw bm ∧ Q v H1
theorem inst_exo {pins : List (Addr × Obj)} {σ : L2.St} {H : Hp} {s : Shared} {a C d : Addr} {fs : List (Str × V)} (I : Inv X pins σ H s) (ea : H a = some (exo a C (some d))) (ed : H d = some (exd d fs)) :
    ∃ (ox od : Obj) (mA : Str → Option Value), PySem.W.InstAt s.heap a ox C (some od) ∧ (∀ n, PySem.W.lookIn n od = some (mA n)) ∧ ∀ f, RelO (fs.lookup f) (mA f) := by
  obtain ⟨t1, ho⟩ := exo_at I.hok ea
  obtain ⟨mA, hns, rel⟩ := exd_at I.hok ed
  obtain ⟨od, hod, hl⟩ := lookIn_ns hns
  exact ⟨_, od, mA, ⟨ho, rfl, rfl, hod⟩, hl, rel⟩
theorem pe_xo {n : Str} (he : PE X e te) (hb : attributeBase e n X.env (eval e X.env) = eval e X.env := by rfl) : PE X (.Attribute e n pos) (tXo X.K n te) := by
  refine ⟨fun pins s σ H Q I h => ?_⟩
  refine attr_of hb (thn (he.run pins s σ H _ I h) fun u s1 hh => ?_)
  obtain ⟨x, H1, I1, rx, a, C, d, nw, bm, fs, v, ex, ea, ed, l, hno, T, q⟩ := hh
  subst ex
  obtain rfl : u = Value.ref a := rx
  obtain ⟨ox, od, mA, J, hl, rel⟩ := inst_exo I1 ea ed
  obtain ⟨u, hu, ru⟩ := RelO.some_of (v := v) (o := mA n) (l ▸ rel n)
  exact HandSPX.exc_get I1.kIn J T.ga T.gt T.ex (PySem.W.findObj_own T.has.1 hno rfl ((hl n).trans (congrArg some hu))) (handed_of ru) ⟨v, H1, I1.tok _, ru, q⟩
/-! ### isinstance of such a value -/
def rIsO (K : PySem.W.Frag) : List V → Hp → VK → Prop := fun xs H Q => ∃ (a C d : Addr) (nw : String) (bm : List Value) (fs : List (Str × V)) (c : V) (cv : Value) (b : Bool), xs = [.ref a, c] ∧ H a = some (exo a C (some d)) ∧ H d = some (exd d fs) ∧ ErC K C nw bm ∧ ClsV c cv ∧
  PySem.W.kitOne K (.ref C) cv = some b ∧ Q (.bl b) H
theorem call_isO (hn : PySem.W.specialIn X.K (.builtin "object.__class__") "__get__" = some (some (.builtin "getset_descriptor.__get__"))) (ht : PySem.W.takesIn X.K (.builtin "object.__class__") = some true) : CallR X (.builtin "isinstance") (rIsO X.K) := by
  intro pins s σ H xs us Q I r h
  obtain ⟨a, C, d, nw, bm, fs, c, cv, b, rfl, ea, ed, T, hc, e, q⟩ := h
  obtain ⟨u1, u2, rfl, r1, r2⟩ := vals2 r
  have e2 := hc.eq r2
  subst e2
  cases (show u1 = Value.ref a from r1)
  obtain ⟨ox, od, mA, J, _, _⟩ := inst_exo I ea ed
  exact PySem.W.kia_one (PySem.W.kitx_exc T.has.2 T.ga T.gt T.ex T.cl hn ht T.ob) I.kIn J e (fun z => nomatch z) fun tk => ⟨.bl b, H, I.tok tk, rfl, q⟩
end
/-! ### an own error made -/
/-- what __init__ leaves: the object at a with its dict at d -/
def Made (H H' : Hp) (a C d : Addr) (fs : List (Str × V)) : Prop := H d = none ∧ d ≠ a ∧ H' a = some (exo a C (some d)) ∧ H' d = some (exd d fs) ∧ ∀ b o, b ≠ a → H b = some o → H' b = some o
def spIni (C : Addr) (n : Nat) (fs : List V → List (Str × V)) : Sp := fun vs H Q _ => ∃ (a : Addr) (ws : List V), vs = .ref a :: ws ∧ ws.length = n ∧ H a = some (exo a C none) ∧ ∀ d H', Made H H' a C d (fs ws) → Q .non H'
abbrev NFI (st : Stmt) (qual : Str) (cc c : Addr) : NF := ⟨"__init__", qual, defArgs st, defBody st, defScope st, [(("__class__" : Str), cc)], c⟩
theorem made1 {H : Hp} {a C d : Addr} {f : Str} {y : V} (ha : H a = some (exo a C none)) (hd : H d = none) (ne : d ≠ a) : Made H (upd (upd H d (exd d [(f, y)])) a (exo a C (some d))) a C d [(f, y)] :=
  ⟨hd, ne, upd_same, (upd_ne ne).trans upd_same, fun b o hb e => (upd_ne hb).trans ((upd_ne (ne_of_none e hd)).trans e)⟩
theorem made2 {H H' : Hp} {a C d : Addr} {f : Str} {y : V} {fs : List (Str × V)} (m : Made H H' a C d fs) : Made H (upd H' d (exd d ((f, y) :: fs))) a C d ((f, y) :: fs) :=
  ⟨m.1, m.2.1, (upd_ne m.2.1.symm).trans m.2.2.1, upd_same, fun b o hb e => (upd_ne (ne_of_none e m.1)).trans (m.2.2.2.2 b o hb e)⟩
/-- the value x is an error of the class at C with the fields fs -/
def IsE (H : Hp) (C : Addr) (fs : List (Str × V)) (x : V) : Prop := ∃ a d : Addr, x = .ref a ∧ H a = some (exo a C (some d)) ∧ H d = some (exd d fs)
theorem IsE.same {H H' : Hp} {C : Addr} {fs : List (Str × V)} {x : V} (h : IsE H C fs x) (s : Same H H') : IsE H' C fs x := by
  obtain ⟨a, d, rfl, ea, ed⟩ := h
  exact ⟨a, d, rfl, s _ _ ea, s _ _ ed⟩
theorem mkv_use {H1 : Hp} {Q : VK} {C : Addr} {n : Nat} {fs : List V → List (Str × V)} {vs : List V} (hn : vs.length = n) (h0 : n ≤ 1000) (h : ∀ x H', Same H1 H' → IsE H' C (fs vs) x → Q x H') :
    vs.length ≤ 1000 ∧ ∀ a, H1 a = none → spIni C n fs (.ref a :: (vs ++ [])) (upd H1 a (exo a C none)) (fun v H2 => v = .non ∧ Q (.ref a) H2) (fun _ _ _ => False) := by
  refine ⟨by omega, fun a ha => ?_⟩
  rw [List.append_nil]
  refine ⟨a, vs, rfl, hn, upd_same, fun d H2 m => ⟨rfl, h _ _ (fun b o e => ?_) ⟨a, d, rfl, m.2.2.1, m.2.2.2.1⟩⟩⟩
  exact m.2.2.2.2 b o (ne_of_none e ha) ((upd_ne (ne_of_none e ha)).trans e)
/-- the class nm, an own error over B: its mro behind itself is pre and then bmB -/
structure Er (P : Program) (K : PySem.W.Frag) (mg : Str → Option Value) (B newId initId : String) (bmB pre : List Value) (st : Stmt) (nm qual : Str) where
  C : Addr
  f : Addr
  cc : Addr
  c : Addr
  ar : Arg
  doc : Value
  pm : Value
  ctv : Value
  T : IniM P K mg B newId initId bmB f C (NFI st qual cc c) ar doc pm ctv
  iC : PySem.W.findIn K (.ref C) "__init__" = some (some (.ref f))
  tI : PySem.W.typeIn K (.ref f) = some (.type "function")
  g : mg nm = some (.ref C)
  har : ar.arg = "self"
  lk : ∃ q N bs sn sub ab col dd k0 k1 k2 k3 k5, K.lookup C = some (excClassObj nm q C N bs (pre ++ bmB) true sn sub ab col dd k0 k1 k2 k3 k5 newId)
section
variable {base : Heap} {K : PySem.W.Frag} {mg : Str → Option Value} {P : Program} {w : World} {B newId initId : String} {bmB pre : List Value} {st : Stmt} {nm qual : Str}
theorem ok_ini1 {fl pn wd m : Str} {p0 p1 p2 p3 p4 p5 q0 q1 q2 q3 r0 r1 r2 r3 : Pos} {n1 n2 : Nat} {pl : Addr → Sem Bool} (EB : ErB B newId initId bmB) (T : Er P K mg B newId initId bmB pre st nm qual) (S : NScope ["self", pn, "__class__"] ["self", pn] ["__class__"] (defScope st))
    (hbd : defBody st = [.Expr (.Call (.Attribute (.Call (.Name "super" p0) [] [] p1) "__init__" p2) [.Constant (.str m) n1 p3] [] p4) p5, .Assign [.Attribute (.Name "self" q0) "word" q1] (.Constant (.str wd) n2 q2) q3, .Assign [.Attribute (.Name "self" r0) fl r1] (.Name pn r2) r3])
    (e1 : PySem.W.findIn K (.ref T.C) "word" = some none) (e2 : PySem.W.findIn K (.ref T.C) fl = some none) (hn1 : (pn == ("__debug__" : Str)) = false := by decide) (hn2 : (pn == ("__classdict__" : Str)) = false := by decide)
    (he : ∀ L, eval (.Call (.Attribute (.Call (.Name "super" p0) [] [] p1) "__init__" p2) [.Constant (.str m) n1 p3] [] p4) (envF (NFI st qual T.cc T.c) T.f L) = (do
      let ov ← attributeBase (.Call (.Name "super" p0) [] [] p1) "__init__" (envF (NFI st qual T.cc T.c) T.f L) (eval (.Call (.Name "super" p0) [] [] p1) (envF (NFI st qual T.cc T.c) T.f L))
      standAt p2.atName
      let (g, first) ← holding [ov] (getMethod ov "__init__" (pl L))
      callWith p4 g first (backTo p4 (starEach [.Constant (.str m) n1 p3] (envF (NFI st qual T.cc T.c) T.f L))) []) := by intro _; rfl)
    (hint : ∀ L, interactive (envF (NFI st qual T.cc T.c) T.f L) = false := by intro _; rfl)
    (hsw : ∀ L, swapsWith (.Call (.Attribute (.Call (.Name "super" p0) [] [] p1) "__init__" p2) [.Constant (.str m) n1 p3] [] p4) none p5.line (envF (NFI st qual T.cc T.c) T.f L) = pure false := by intro _; rfl)
    (hs1 : ∀ L, swapsWith (.Constant (.str wd) n2 q2) (some (.Attribute (.Name "self" q0) "word" q1)) q3.line (envF (NFI st qual T.cc T.c) T.f L) = pure false := by intro _; rfl)
    (hs2 : ∀ L, swapsWith (.Name pn r2) (some (.Attribute (.Name "self" r0) fl r1)) r3.line (envF (NFI st qual T.cc T.c) T.f L) = pure false := by intro _; rfl) :
    FnOk P w K mg base CX0 1 T.f ((NFI st qual T.cc T.c).fd T.doc T.pm T.ctv) ["self", pn] (spIni T.C 1 fun ws => [(fl, ws.getD 0 .non), ("word", .str wd)]) := by
  refine init_fn (i := 0) (j := 2) (N := ["self", pn, "__class__"]) EB T.T S (fun vs H Q E h => ?_) (by rw [T.har]; rfl) rfl hbd (fun vs H Q E h => ?_) (fun A outer s H vs Q E hr h => ?_) he hint hsw
  · obtain ⟨a, ws, rfl, hn, _⟩ := h
    show ws.length + 1 = 2
    omega
  · obtain ⟨a, ws, rfl, hn, ha, _⟩ := h
    match ws, hn with
    | [v], _ => exact ⟨a, rfl, rfl, ha⟩
  · obtain ⟨a, ws, rfl, hn, ha, q⟩ := h
    match ws, hn, q with
    | [v], _, q =>
      refine ⟨_, pss_cons (ps_gst EB (pe_var (i := 0) rfl (Or.inl (S.par _ (by simp)))) pe_str (hs1 _)) (pss_one (ps_gst EB (pe_var (i := 0) rfl (Or.inl (S.par _ (by simp)))) (pe_var (i := 1) rfl (Or.inl (S.par _ (by simp))) hn1 hn2) (hs2 _))), ?_⟩
      refine ⟨_, rfl, a, T.C, rfl, T.T.ox, e1, .inl ⟨ha, fun d hd ne => ?_⟩⟩
      have m1 := made1 (f := "word") (y := .str wd) ha hd ne
      exact ⟨_, rfl, _, rfl, a, T.C, rfl, T.T.ox, e2, .inr ⟨d, _, m1.2.2.1, m1.2.2.2.1, by simp, q d _ (made2 m1)⟩⟩
theorem ok_ini0 {wd m : Str} {p0 p1 p2 p3 p4 p5 q0 q1 q2 q3 : Pos} {n1 n2 : Nat} {pl : Addr → Sem Bool} (EB : ErB B newId initId bmB) (T : Er P K mg B newId initId bmB pre st nm qual) (S : NScope ["self", "__class__"] ["self"] ["__class__"] (defScope st))
    (hbd : defBody st = [.Expr (.Call (.Attribute (.Call (.Name "super" p0) [] [] p1) "__init__" p2) [.Constant (.str m) n1 p3] [] p4) p5, .Assign [.Attribute (.Name "self" q0) "word" q1] (.Constant (.str wd) n2 q2) q3])
    (e1 : PySem.W.findIn K (.ref T.C) "word" = some none)
    (he : ∀ L, eval (.Call (.Attribute (.Call (.Name "super" p0) [] [] p1) "__init__" p2) [.Constant (.str m) n1 p3] [] p4) (envF (NFI st qual T.cc T.c) T.f L) = (do
      let ov ← attributeBase (.Call (.Name "super" p0) [] [] p1) "__init__" (envF (NFI st qual T.cc T.c) T.f L) (eval (.Call (.Name "super" p0) [] [] p1) (envF (NFI st qual T.cc T.c) T.f L))
      standAt p2.atName
      let (g, first) ← holding [ov] (getMethod ov "__init__" (pl L))
      callWith p4 g first (backTo p4 (starEach [.Constant (.str m) n1 p3] (envF (NFI st qual T.cc T.c) T.f L))) []) := by intro _; rfl)
    (hint : ∀ L, interactive (envF (NFI st qual T.cc T.c) T.f L) = false := by intro _; rfl)
    (hsw : ∀ L, swapsWith (.Call (.Attribute (.Call (.Name "super" p0) [] [] p1) "__init__" p2) [.Constant (.str m) n1 p3] [] p4) none p5.line (envF (NFI st qual T.cc T.c) T.f L) = pure false := by intro _; rfl)
    (hs1 : ∀ L, swapsWith (.Constant (.str wd) n2 q2) (some (.Attribute (.Name "self" q0) "word" q1)) q3.line (envF (NFI st qual T.cc T.c) T.f L) = pure false := by intro _; rfl) :
    FnOk P w K mg base CX0 1 T.f ((NFI st qual T.cc T.c).fd T.doc T.pm T.ctv) ["self"] (spIni T.C 0 fun _ => [("word", .str wd)]) := by
  refine init_fn (i := 0) (j := 1) (N := ["self", "__class__"]) EB T.T S (fun vs H Q E h => ?_) (by rw [T.har]; rfl) rfl hbd (fun vs H Q E h => ?_) (fun A outer s H vs Q E hr h => ?_) he hint hsw
  · obtain ⟨a, ws, rfl, hn, _⟩ := h
    show ws.length + 1 = 1
    omega
  · obtain ⟨a, ws, rfl, hn, ha, _⟩ := h
    match ws, hn with
    | [], _ => exact ⟨a, rfl, rfl, ha⟩
  · obtain ⟨a, ws, rfl, hn, ha, q⟩ := h
    match ws, hn, q with
    | [], _, q =>
      refine ⟨_, pss_one (ps_gst EB (pe_var (i := 0) rfl (Or.inl (S.par _ (by simp)))) pe_str (hs1 _)), ?_⟩
      refine ⟨_, rfl, a, T.C, rfl, T.T.ox, e1, .inl ⟨ha, fun d hd ne => ?_⟩⟩
      exact q d _ (made1 (f := "word") (y := .str wd) ha hd ne)
/-! ### isinstance between own errors -/
theorem Er.cl (T : Er P K mg B newId initId bmB pre st nm qual) : ∃ cd : ClassData, PySem.W.clsIn K T.C = some cd ∧ cd.name = nm ∧ cd.mro = .ref T.C :: (pre ++ bmB) := by
  obtain ⟨q, N, bs, sn, sub, ab, col, dd, k0, k1, k2, k3, k5, h⟩ := T.lk
  exact ⟨{ name := nm, bases := bs, mro := .ref T.C :: (pre ++ bmB), ns := N, qualname := q, hasDict := true, slotNames := sn, subclasses := sub, abstract := ab, collection := col, hasDel := false }, by unfold PySem.W.clsIn; rw [h] <;> rfl, rfl, rfl⟩
theorem kit_ref {C D : Addr} {l : List Value} {cd cd' : ClassData} (hC : PySem.W.clsIn K C = some cd) (hm : cd.mro = .ref C :: l) (hD : PySem.W.clsIn K D = some cd') (hT : PySem.W.typeIn K (.ref D) = some (.type "type")) :
    PySem.W.kitOne K (.ref C) (.ref D) = some ((Value.ref C :: l).contains (.ref D)) := by
  unfold PySem.W.kitOne
  split
  · rename_i h
    rw [List.contains_cons, show (Value.ref D == Value.ref C) = true by rw [eq_of_beq h]; exact beq_self_eq_true _]
    rfl
  · unfold PySem.W.kitCls
    dsimp only
    rw [hD, hT, if_pos (show ((some cd').isSome && some (Value.type "type") == some (Value.type "type")) = true from show (true && some (Value.type "type") == some (Value.type "type")) = true by decide +kernel)]
    show PySem.W.mroIn K C (.ref D) = _
    unfold PySem.W.mroIn
    rw [hC, Option.bind_some, hm]
    rfl
theorem kit_typ {C : Addr} {T : String} {l : List Value} {cd : ClassData} (hC : PySem.W.clsIn K C = some cd) (hm : cd.mro = .ref C :: l) (hT : PySem.W.kitMeta T = true) :
    PySem.W.kitOne K (.ref C) (.type T) = some ((Value.ref C :: l).contains (.type T)) := by
  unfold PySem.W.kitOne
  rw [if_neg (by intro h; cases eq_of_beq h)]
  unfold PySem.W.kitCls
  dsimp only
  rw [if_pos hT]
  show PySem.W.mroIn K C (.type T) = _
  unfold PySem.W.mroIn
  rw [hC, Option.bind_some, hm]
  rfl
theorem cls_ne {C D : Addr} {c d : ClassData} (hC : PySem.W.clsIn K C = some c) (hD : PySem.W.clsIn K D = some d) (hn : c.name ≠ d.name) : C ≠ D := by
  intro e
  subst e
  rw [hC] at hD
  cases hD
  exact hn rfl
end
section
variable {P : Program} {K : PySem.W.Frag} {h : Heap} {mg : Str → Option Value} {B newId initId : String} {bmB pre : List Value} {st : Stmt} {nm qual : Str}
theorem mro_at {C : Addr} {q : Str} {N : Addr} {bs : List Value} {sn : List Str} {sub : List Value} {ab : Bool} {col : Option Bool} {dd : Option Addr} {k0 k1 k2 k3 k5 : Option Value} (lC : K.lookup C = some (excClassObj nm q C N bs (pre ++ bmB) true sn sub ab col dd k0 k1 k2 k3 k5 newId)) (v : Value) :
    PySem.W.mroIn K C v = some ((Value.ref C :: (pre ++ bmB)).contains v) := by
  have hcl : PySem.W.clsIn K C = some { name := nm, bases := bs, mro := .ref C :: (pre ++ bmB), ns := N, qualname := q, hasDict := true, slotNames := sn, subclasses := sub, abstract := ab, collection := col, hasDel := false } := by unfold PySem.W.clsIn; rw [lC] <;> rfl
  unfold PySem.W.mroIn
  rw [hcl, Option.bind_some]
  rfl
theorem mro_ty {C : Addr} {X : String} (ht : PySem.W.excTail bmB (pre ++ bmB) = true) (hx : bmB.contains (.type X) = true) : (Value.ref C :: (pre ++ bmB)).contains (.type X) = true := by
  rw [List.contains_cons, PySem.W.excTail_contains X _ ht, hx, Bool.or_true]
theorem ov_at {C : Addr} {q : Str} {N : Addr} {bs : List Value} {sn : List Str} {sub : List Value} {ab : Bool} {col : Option Bool} {dd : Option Addr} {k0 k1 k2 k3 k5 : Option Value} (lC : K.lookup C = some (excClassObj nm q C N bs (pre ++ bmB) true sn sub ab col dd k0 k1 k2 k3 k5 newId)) (ht : PySem.W.excTail bmB (pre ++ bmB) = true) : PySem.W.excOver K C bmB = true := by
  have hcl : PySem.W.clsIn K C = some { name := nm, bases := bs, mro := .ref C :: (pre ++ bmB), ns := N, qualname := q, hasDict := true, slotNames := sn, subclasses := sub, abstract := ab, collection := col, hasDel := false } := by unfold PySem.W.clsIn; rw [lC] <;> rfl
  unfold PySem.W.excOver
  rw [hcl]
  show (C == C && PySem.W.excTail bmB (pre ++ bmB)) = true
  rw [beq_self_eq_true, ht]
  rfl
@[reducible] def er_mk (X : K.In h) (G : h.Ns mainGlobals mg) {C f c cc : Addr} {od cld cdd : Option Addr} {sl csl ccs : Array (Option Value)} {doc pm ctv clc ccl : Value} {vs : Array Value} {file : Str} {tf : Tok} {ar : Arg}
    {q : Str} {N : Addr} {bs : List Value} {sn : List Str} {sub : List Value} {ab : Bool} {col : Option Bool} {dd : Option Addr} {k0 k1 k2 k3 k5 : Option Value}
    (op : PySem.W.nsIn K cStatics "thirdparty.any" = some none) (no : PySem.W.nsIn K mainGlobals "super" = some none)
    (h1 : bmB.contains (.type "BaseException") = true) (h2 : bmB.contains (.type B) = true) (h3 : bmB.contains (.type "object") = true)
    (ht : PySem.W.excTail bmB (pre ++ bmB) = true)
    (hh : ((defArgs st).posonlyargs ++ (defArgs st).args).head? = some ar) (har : ar.arg = "self")
    (ks : (defScope st).names.lookup ("super" : Str) = some .globalImplicit) (kc : (defScope st).names.lookup ("__class__" : Str) = some .free) (ka : (defScope st).names.lookup ar.arg = some .local)
    (top : (P.main.scope.names.lookup ("super" : Str)).isSome = false)
    (aC : PySem.W.nsIn K mainGlobals nm = some (some (.ref C)))
    (lC : K.lookup C = some (excClassObj nm q C N bs (pre ++ bmB) true sn sub ab col dd k0 k1 k2 k3 k5 newId))
    (aI : PySem.W.findIn K (.ref C) "__init__" = some (some (.ref f)))
    (lI : K.lookup f = some ⟨.type "function", od, .func (PySem.W.fnX "__init__" qual (defArgs st) (defBody st) (defScope st) [(("__class__" : Str), cc)] .none .none doc pm none (.ref c) ctv), sl⟩)
    (cI : PySem.W.codeIn K (.ref c) qual = true)
    (lc : K.lookup cc = some ⟨clc, cld, .cell (some (.ref C)), csl⟩)
    (lco : K.lookup c = some ⟨ccl, cdd, .fields vs, ccs⟩)
    (sa : PySem.W.findIn K (.ref C) "__setattr__" = some (some (.builtin "object.__setattr__")))
    (ga : PySem.W.findIn K (.ref C) "__getattribute__" = some (some (.builtin "BaseException.__getattribute__")))
    (gt : PySem.W.findIn K (.ref C) "__getattr__" = some none)
    (kp : PySem.W.keepIn K (.ref C) = true)
    (cl : PySem.W.findIn K (.ref C) "__class__" = some (some (.builtin "object.__class__")))
    (su : PySem.W.ks_superIn K C C "__init__" = some (some (.builtin initId)))
    (hvs : vs[2]? = some (.str file tf)) (hfile : ((P.main.file : Str) == file) = true) : Er P K mg B newId initId bmB pre st nm qual where
  C := C
  f := f
  cc := cc
  c := c
  ar := ar
  doc := doc
  pm := pm
  ctv := ctv
  T := {
    lk := ⟨od, sl, lI⟩
    cd := cI
    cl := ⟨cc, _, rfl, lc, rfl⟩
    hd := hh
    fl := ⟨_, vs, file, tf, lco, rfl, hvs, hfile⟩
    ks := ks
    kc := kc
    ka := ka
    top := top
    no := PySem.W.mg_none_of X G no
    op := op
    ox := {
      cls := ⟨nm, q, N, bs, pre ++ bmB, sn, sub, ab, col, dd, k0, k1, k2, k3, k5, lC, ht⟩
      ov := ov_at lC ht
      sa := sa
      ga := ga
      gt := gt
      ex := (mro_at lC _).trans (congrArg some (mro_ty ht h1))
      ty := congrArg (Option.map fun o : Obj => o.cls) lC
      kp := kp
      cl := cl
      ob := (mro_at lC _).trans (congrArg some (mro_ty ht h3)) }
    su := su
    sb := (mro_at lC _).trans (congrArg some (mro_ty ht h2))
    mr := (mro_at lC _).trans (by rw [List.contains_cons, beq_self_eq_true, Bool.true_or]) }
  iC := aI
  tI := congrArg (Option.map fun o : Obj => o.cls) lI
  g := PySem.W.mg_of X G aC
  har := har
  lk := ⟨q, N, bs, sn, sub, ab, col, dd, k0, k1, k2, k3, k5, lC⟩
/-- an own error and the fields that its class lacks -/
structure ErW (P : Program) (K : PySem.W.Frag) (mg : Str → Option Value) (B newId initId : String) (bmB pre : List Value) (st : Stmt) (nm qual : Str) (fl : List Str) where
  e : Er P K mg B newId initId bmB pre st nm qual
  no : ∀ x ∈ fl, PySem.W.findIn K (.ref e.C) x = some none
def erw1 (X : K.In h) (G : h.Ns mainGlobals mg) {C f c cc : Addr} {od cld cdd : Option Addr} {sl csl ccs : Array (Option Value)} {doc pm ctv clc ccl : Value} {vs : Array Value} {file : Str} {tf : Tok} {ar : Arg}
    {q : Str} {N : Addr} {bs : List Value} {sn : List Str} {sub : List Value} {ab : Bool} {col : Option Bool} {dd : Option Addr} {k0 k1 k2 k3 k5 : Option Value}
    (op : PySem.W.nsIn K cStatics "thirdparty.any" = some none) (no : PySem.W.nsIn K mainGlobals "super" = some none)
    (h1 : bmB.contains (.type "BaseException") = true) (h2 : bmB.contains (.type B) = true) (h3 : bmB.contains (.type "object") = true)
    (ht : PySem.W.excTail bmB (pre ++ bmB) = true)
    (hh : ((defArgs st).posonlyargs ++ (defArgs st).args).head? = some ar) (har : ar.arg = "self")
    (ks : (defScope st).names.lookup ("super" : Str) = some .globalImplicit) (kc : (defScope st).names.lookup ("__class__" : Str) = some .free) (ka : (defScope st).names.lookup ar.arg = some .local)
    (top : (P.main.scope.names.lookup ("super" : Str)).isSome = false)
    (aC : PySem.W.nsIn K mainGlobals nm = some (some (.ref C)))
    (lC : K.lookup C = some (excClassObj nm q C N bs (pre ++ bmB) true sn sub ab col dd k0 k1 k2 k3 k5 newId))
    (aI : PySem.W.findIn K (.ref C) "__init__" = some (some (.ref f)))
    (lI : K.lookup f = some ⟨.type "function", od, .func (PySem.W.fnX "__init__" qual (defArgs st) (defBody st) (defScope st) [(("__class__" : Str), cc)] .none .none doc pm none (.ref c) ctv), sl⟩)
    (cI : PySem.W.codeIn K (.ref c) qual = true)
    (lc : K.lookup cc = some ⟨clc, cld, .cell (some (.ref C)), csl⟩)
    (lco : K.lookup c = some ⟨ccl, cdd, .fields vs, ccs⟩)
    (sa : PySem.W.findIn K (.ref C) "__setattr__" = some (some (.builtin "object.__setattr__")))
    (ga : PySem.W.findIn K (.ref C) "__getattribute__" = some (some (.builtin "BaseException.__getattribute__")))
    (gt : PySem.W.findIn K (.ref C) "__getattr__" = some none)
    (kp : PySem.W.keepIn K (.ref C) = true)
    (cl : PySem.W.findIn K (.ref C) "__class__" = some (some (.builtin "object.__class__")))
    (su : PySem.W.ks_superIn K C C "__init__" = some (some (.builtin initId)))
    (hvs : vs[2]? = some (.str file tf)) (hfile : ((P.main.file : Str) == file) = true) {f1 : Str} (x1 : PySem.W.findIn K (.ref C) f1 = some none) : ErW P K mg B newId initId bmB pre st nm qual [f1] :=
  ⟨er_mk (C := C) X G op no h1 h2 h3 ht hh har ks kc ka top aC lC aI lI cI lc lco sa ga gt kp cl su hvs hfile, fun x hx => by
    rcases List.mem_cons.mp hx with rfl | e
    · exact x1
    · cases e⟩
def erw2 (X : K.In h) (G : h.Ns mainGlobals mg) {C f c cc : Addr} {od cld cdd : Option Addr} {sl csl ccs : Array (Option Value)} {doc pm ctv clc ccl : Value} {vs : Array Value} {file : Str} {tf : Tok} {ar : Arg}
    {q : Str} {N : Addr} {bs : List Value} {sn : List Str} {sub : List Value} {ab : Bool} {col : Option Bool} {dd : Option Addr} {k0 k1 k2 k3 k5 : Option Value}
    (op : PySem.W.nsIn K cStatics "thirdparty.any" = some none) (no : PySem.W.nsIn K mainGlobals "super" = some none)
    (h1 : bmB.contains (.type "BaseException") = true) (h2 : bmB.contains (.type B) = true) (h3 : bmB.contains (.type "object") = true)
    (ht : PySem.W.excTail bmB (pre ++ bmB) = true)
    (hh : ((defArgs st).posonlyargs ++ (defArgs st).args).head? = some ar) (har : ar.arg = "self")
    (ks : (defScope st).names.lookup ("super" : Str) = some .globalImplicit) (kc : (defScope st).names.lookup ("__class__" : Str) = some .free) (ka : (defScope st).names.lookup ar.arg = some .local)
    (top : (P.main.scope.names.lookup ("super" : Str)).isSome = false)
    (aC : PySem.W.nsIn K mainGlobals nm = some (some (.ref C)))
    (lC : K.lookup C = some (excClassObj nm q C N bs (pre ++ bmB) true sn sub ab col dd k0 k1 k2 k3 k5 newId))
    (aI : PySem.W.findIn K (.ref C) "__init__" = some (some (.ref f)))
    (lI : K.lookup f = some ⟨.type "function", od, .func (PySem.W.fnX "__init__" qual (defArgs st) (defBody st) (defScope st) [(("__class__" : Str), cc)] .none .none doc pm none (.ref c) ctv), sl⟩)
    (cI : PySem.W.codeIn K (.ref c) qual = true)
    (lc : K.lookup cc = some ⟨clc, cld, .cell (some (.ref C)), csl⟩)
    (lco : K.lookup c = some ⟨ccl, cdd, .fields vs, ccs⟩)
    (sa : PySem.W.findIn K (.ref C) "__setattr__" = some (some (.builtin "object.__setattr__")))
    (ga : PySem.W.findIn K (.ref C) "__getattribute__" = some (some (.builtin "BaseException.__getattribute__")))
    (gt : PySem.W.findIn K (.ref C) "__getattr__" = some none)
    (kp : PySem.W.keepIn K (.ref C) = true)
    (cl : PySem.W.findIn K (.ref C) "__class__" = some (some (.builtin "object.__class__")))
    (su : PySem.W.ks_superIn K C C "__init__" = some (some (.builtin initId)))
    (hvs : vs[2]? = some (.str file tf)) (hfile : ((P.main.file : Str) == file) = true) {f1 f2 : Str} (x1 : PySem.W.findIn K (.ref C) f1 = some none) (x2 : PySem.W.findIn K (.ref C) f2 = some none) : ErW P K mg B newId initId bmB pre st nm qual [f1, f2] :=
  ⟨er_mk (C := C) X G op no h1 h2 h3 ht hh har ks kc ka top aC lC aI lI cI lc lco sa ga gt kp cl su hvs hfile, fun x hx => by
    rcases List.mem_cons.mp hx with rfl | e
    · exact x1
    · rcases List.mem_cons.mp e with rfl | e
      · exact x2
      · cases e⟩
end
/-! ### raise of an own error -/
section
variable {P : Program} {K : PySem.W.Frag} {mg : Str → Option Value} {G : Addr} {st : Stmt} {nm qual : Str}
theorem oex_of (T : Er P K mg "ValueError" "ValueError.__new__" "ValueError.__init__" [.type "ValueError", .type "Exception", .type "BaseException", .type "object"] [.ref G] st nm qual) : OexC K T.C := by
  obtain ⟨q, N, bs, sn, sub, ab, col, dd, k0, k1, k2, k3, k5, lk⟩ := T.lk
  exact ⟨⟨nm, q, N, bs, _, sn, sub, ab, col, dd, k0, k1, k2, k3, k5, lk, rfl⟩, T.T.ox.sa, T.T.ox.ex, T.T.ox.ty, T.T.ox.kp⟩
theorem xfc_of {B newId initId : String} {bmB pre : List Value} (T : Er P K mg B newId initId bmB pre st nm qual) : XfC K T.C := ⟨T.T.ox.ga, T.T.ox.gt, T.T.ox.ex, T.T.ox.has.1⟩
/-- what the making of an error asks, ahead of its raise -/
theorem mk_use {H1 : Hp} {C : Addr} {n : Nat} {fF : List V → List (Str × V)} {vs : List V} {R : Value → Option Addr → Hp → Prop} (hn : vs.length = n) (h0 : n ≤ 1000) (k : ∀ d Hf, H1 d = none → Same H1 Hf → Hf d = some (.xd (fF vs)) → R (.ref C) (some d) Hf) :
    vs.length ≤ 1000 ∧ ∀ a, H1 a = none → spIni C n fF (.ref a :: (vs ++ [])) (upd H1 a (exo a C none)) (fun v H2 => v = .non ∧ ∃ (d : Addr) (fs : List (Str × V)), H2 a = some (exo a C (some d)) ∧ H2 d = some (exd d fs) ∧ H1 d = none ∧ R (.ref C) (some d) (upd (del H2 a) d (.xd fs))) (fun _ _ _ => False) := by
  refine ⟨by omega, fun a na => ?_⟩
  rw [List.append_nil]
  refine ⟨a, vs, rfl, hn, upd_same, fun d H2 M => ?_⟩
  obtain ⟨m1, m2, m3, m4, m5⟩ := M
  have hd : H1 d = none := by
    rw [upd_ne m2] at m1
    exact m1
  refine ⟨rfl, d, _, m3, m4, hd, k d _ hd (fun b o z => ?_) upd_same⟩
  have hb : b ≠ a := ne_of_none z na
  rw [upd_ne (ne_of_none z hd), del_ne hb]
  exact m5 b o hb ((upd_ne hb).trans z)
end
theorem sq_nn (x : Int) : 0 ≤ x * x := by
  rcases Int.le_total 0 x with h | h
  · exact Int.mul_nonneg h h
  · exact Int.mul_nonneg_of_nonpos_of_nonpos h h
theorem sq_le {x y : Int} (h0 : 0 ≤ x) (h : x ≤ y) : x * x ≤ y * y := Int.mul_le_mul h h h0 (Int.le_trans h0 h)
theorem sq_lt {x y : Int} (h0 : 0 ≤ x) (h : x < y) : x * x < y * y := by
  have h1 : (x + 1) * (x + 1) ≤ y * y := sq_le (by omega) (by omega)
  grind
theorem lt_of_sq {x y : Int} (h0 : 0 ≤ y) (h : x * x < y * y) : x < y := by
  rcases Int.lt_or_le x y with z | z
  · exact z
  · have := sq_le h0 z
    omega
theorem le_of_sq {x y : Int} (h0 : 0 ≤ y) (h : x * x ≤ y * y) : x ≤ y := by
  rcases Int.lt_or_le y x with z | z
  · have := sq_lt h0 z
    omega
  · exact z
/-- Newton's step from above -/
theorem newton_up {g n : Int} (hg : 0 < g) (hn : 0 ≤ n) : n < ((g + n / g) / 2 + 1) * ((g + n / g) / 2 + 1) := by
  have hq : 0 ≤ n / g := Int.ediv_nonneg hn (by omega)
  have h1 : n < g * (n / g + 1) := by
    have := Int.lt_ediv_add_one_mul_self n hg
    grind
  generalize n / g = q at hq h1 ⊢
  have h2 : g + q + 1 ≤ 2 * ((g + q) / 2 + 1) := by omega
  generalize (g + q) / 2 = r at h2 ⊢
  have h3 := sq_nn (g - (q + 1))
  have h4 := sq_le (show 0 ≤ g + q + 1 by omega) h2
  grind
theorem newton_dn {g n : Int} (hg : 0 < g) (h : n < g * g) : (g + n / g) / 2 < g := by
  have h1 : n / g < g := Int.ediv_lt_of_lt_mul hg h
  omega
theorem newton_nn {g n : Int} (hg : 0 < g) (hn : 0 ≤ n) : 0 ≤ (g + n / g) / 2 := by
  have hq : 0 ≤ n / g := Int.ediv_nonneg hn (by omega)
  omega
/-- no root times a square is a square -/
theorem no_square {d k : Int} (hk : 0 ≤ k) (h1 : k * k < d) (h2 : d < (k + 1) * (k + 1)) : ∀ (n : Nat) (b w : Int), 0 < b → 0 ≤ w → b.toNat ≤ n → w * w ≠ d * b * b
  | 0, b, w, hb, _, hn => by omega
  | n + 1, b, w, hb, hw, hn => fun e => by
    have hbb : 0 < b * b := Int.mul_pos hb hb
    have l1 : (k * b) * (k * b) < w * w := by
      have := Int.mul_lt_mul_of_pos_right h1 hbb
      grind
    have l2 : w * w < ((k + 1) * b) * ((k + 1) * b) := by
      have := Int.mul_lt_mul_of_pos_right h2 hbb
      grind
    have m1 : k * b < w := lt_of_sq hw l1
    have m2 : w < (k + 1) * b := lt_of_sq (Int.mul_nonneg (by omega) (by omega)) l2
    have m3 : w - k * b < b := by grind
    refine no_square hk h1 h2 n (w - k * b) (d * b - k * w) (by omega) ?_ (by omega) (by grind)
    have : (k * w) * b ≤ (d * b) * b := by
      have z := Int.mul_le_mul_of_nonneg_right (Int.le_of_lt m1) hw
      grind
    have z : k * w ≤ d * b := Int.le_of_mul_le_mul_right this hb
    omega
/-! ### defs with defaults, methods by keywords -/
inductive Dflt (K : PySem.W.Frag) (r : Addr) : Prop
  | mk {y1 y2 : Addr} {d e f : Option Addr} {m n o : Nat} {s t u : Array (Option Value)} {v w x y : Tok} (a : K.lookup r = some ⟨.type "tuple", d, .seq #[.ref y1, .ref y2] m, s⟩)
      (b : K.lookup y1 = some ⟨.type "tuple", e, .seq #[.int 0 v, .int 0 w] n, t⟩) (c : K.lookup y2 = some ⟨.type "tuple", f, .seq #[.int 0 x, .int 0 y] o, u⟩) : Dflt K r
section
variable {K : PySem.W.Frag} {f T D : Addr} {oc tc u : Value} {od td : Option Addr} {fd : FuncData} {sl ts : Array (Option Value)} {tn : Nat} {its : Array Value} {ps : List Str} {x : Str}
theorem bd_given (l : K.lookup f = some ⟨oc, od, .func fd, sl⟩) (t : K.lookup T = some ⟨tc, td, .seq its tn, ts⟩) (h : ∀ us : List Value, us.length = ps.length → ∃ k, bindArgs fd ⟨us, []⟩ = seqItems? (.ref T) >>= k ∧ k (some its) = pure (ps.zip us)) : Binds K fd ps [] := fun s us X hl => by
  rw [List.append_nil] at hl ⊢
  obtain ⟨k, e1, e2⟩ := h us hl
  refine BindsTo.of_looks fun M => ?_
  rw [e1]
  exact looks_items X t rfl (.of_pure e2)
theorem bd_dflt {v : Value} (l : K.lookup f = some ⟨oc, od, .func fd, sl⟩) (t : K.lookup T = some ⟨tc, td, .seq #[v] tn, ts⟩) (h : ∀ us : List Value, us.length + 1 = ps.length → ∃ k, bindArgs fd ⟨us, []⟩ = seqItems? (.ref T) >>= k ∧ k (some #[v]) = pure (ps.zip (us ++ [v]))) : Binds K fd ps [v] := fun s us X hl => by
  rw [List.length_append] at hl
  obtain ⟨k, e1, e2⟩ := h us hl
  refine BindsTo.of_looks fun M => ?_
  rw [e1]
  exact looks_items X t rfl (.of_pure e2)
theorem bd_kw (l : K.lookup f = some ⟨oc, od, .func fd, sl⟩) (kd : PySem.W.nsIn K D x = some (some u)) (h : ∀ us : List Value, us.length + 1 = ps.length → KwChain D [(x, u)] (bindArgs fd ⟨us, []⟩) (ps.zip (us ++ [u]))) : Binds K fd ps [u] := fun s us X hl => by
  rw [List.length_append] at hl
  refine BindsTo.of_looks fun M => ?_
  refine KwChain.looks X ?_ (h us hl)
  intro q hq
  rcases List.mem_cons.mp hq with e | e
  · rw [e]
    exact kd
  · cases e
end
section
variable {X : Cx} {CX : CXT} {k : Nat} {f C : Addr} {fd : FuncData} {ps ks : List Str} {sp : Sp} {E : XK} {m : Str} {pos apos : Pos} {o : Expr} {kws : List Keyword} {ta : TE} {tk : TA}
theorem pe_methK0 {pl : Sem Bool} {g : List Value → List Value → List Value} {gV : List V → List V → List V} (he : PE X o ta) (c : Cls X.K C) (hm : Meth X.K C m f) (F : FnOk X.prog X.w X.K X.mg X.base CX k f fd ps sp) (hr : Room k X.A) (hb : KBn X.K fd ps 1 ks g gV) (hx : Passes CX X E) (hkw : PK X kws tk)
    (hall : (backToKw pos (keywordEach kws X.env)).all (·.1.isSome) = true := by rfl)
    (hks : (backToKw pos (keywordEach kws X.env)).filterMap (·.1) = ks := by rfl)
    (hpl : ((backTo pos (starEach [] X.env)).any (·.1) || (backToKw pos (keywordEach kws X.env)).any (·.1.isNone)) = false := by rfl)
    (ht : eval (.Call (.Attribute o m apos) [] kws pos) X.env = (do
      let ov ← eval o X.env
      standAt apos.atName
      let (f, first) ← holding [ov] (getMethod ov m pl)
      callWith pos f first (backTo pos (starEach [] X.env)) (backToKw pos (keywordEach kws X.env))) := by rfl) :
    PE X (.Call (.Attribute o m apos) [] kws pos) (fun σ H Q => ta σ H fun x H1 => ∃ a dx fs, x = .ref a ∧ H1 a = some (.ins C dx fs) ∧ fs.lookup m = none ∧ tk σ H1 fun zs H2 => zs.length = ks.length ∧ sp (gV [.ref a] zs) H2 Q E) := by
  refine ⟨fun pins s σ H Q I h => ?_⟩
  refine PySem.W.methodCall_KW (pl := pl) (thn (he.run pins s σ H _ I h) fun u s1 ⟨x, H1, I1, rx, a, dx, fs, ex, ea, l, q⟩ => ?_) ht
  subst ex
  obtain rfl : u = Value.ref a := rx
  refine getmeth_ok I1 ea c hm l ?_
  refine PySem.W.callWith_KW0 (first := [.ref a]) (h₀ := X.base) I.ok.mod.kin hm.kp hall ?_ hpl
  refine thn (hkw.run pos pins s1 σ H1 _ I1 q) fun ws s2 ⟨zs, H2, I2, rz, l2, q2⟩ => ⟨I2.kIn, ?_⟩
  rw [hks]
  exact run_fnN (us := [.ref a]) (vs := [.ref a]) F hr hb hx I2 (.cons rfl .nil) rz rfl l2 q2
end
def topS (i : Nat) : Stmt := PySem.Challenge.pw_grainyard_k10_whole_first_numbers.main.body.getD i (.Pass ⟨0, 0, 0, 0⟩)
abbrev s_whole_root : Stmt := topS 6
theorem sc_whole_root : FnScope ["number", "guess"] ["number"] (defScope s_whole_root) := ⟨rfl, rfl, rfl, by decide +kernel, rfl, by decide +kernel, by decide +kernel⟩
abbrev s_sign : Stmt := topS 7
theorem sc_sign : FnScope ["pair", "root", "worth", "a", "b"] ["pair", "root"] (defScope s_sign) := ⟨rfl, rfl, rfl, by decide +kernel, rfl, by decide +kernel, by decide +kernel⟩
abbrev s_is_length : Stmt := topS 8
theorem sc_is_length : FnScope ["pair", "root"] ["pair", "root"] (defScope s_is_length) := ⟨rfl, rfl, rfl, by decide +kernel, rfl, by decide +kernel, by decide +kernel⟩
abbrev s_added : Stmt := topS 9
theorem sc_added : FnScope ["pairs", "a", "b"] ["pairs"] (defScope s_added) := ⟨rfl, rfl, rfl, by decide +kernel, rfl, by decide +kernel, by decide +kernel⟩
abbrev s_scaled : Stmt := topS 10
theorem sc_scaled : FnScope ["pair", "number", "a", "b"] ["pair", "number"] (defScope s_scaled) := ⟨rfl, rfl, rfl, by decide +kernel, rfl, by decide +kernel, by decide +kernel⟩
abbrev s_floor_of : Stmt := topS 11
theorem sc_floor_of : FnScope ["pair", "root", "whole", "a", "b"] ["pair", "root"] (defScope s_floor_of) := ⟨rfl, rfl, rfl, by decide +kernel, rfl, by decide +kernel, by decide +kernel⟩
abbrev s_endless_fractions : Stmt := topS 13
theorem sc_endless_fractions : GScope ["root", "whole", "m", "t", "k", "last", "before"] ["root"] (defScope s_endless_fractions) := ⟨rfl, rfl, rfl, by decide +kernel, rfl, by decide +kernel, by decide +kernel⟩
abbrev s_number_of_length : Stmt := topS 14
theorem sc_number_of_length : FnScope ["length", "root", "second", "a", "b", "at", "first", "p", "q"] ["length", "root"] (defScope s_number_of_length) := ⟨rfl, rfl, rfl, by decide +kernel, rfl, by decide +kernel, by decide +kernel⟩
abbrev s_first_number : Stmt := topS 15
theorem sc_first_number : FnScope ["pairs", "root", "at", "pair"] ["pairs", "root"] (defScope s_first_number) := ⟨rfl, rfl, rfl, by decide +kernel, rfl, by decide +kernel, by decide +kernel⟩
abbrev s_source : Stmt := topS 17
theorem sc_source : FnScope ["_law_script", "_law_mix", "_law_cell"] ["_law_script"] (defScope s_source) := ⟨rfl, rfl, rfl, by decide +kernel, rfl, by decide +kernel, by decide +kernel⟩
abbrev s_pull : Stmt := topS 18
theorem sc_pull : FnScope ["_law_bag", "_law_size", "_law_mix", "_law_cell", "_law_found"] ["_law_bag", "_law_size"] (defScope s_pull) := ⟨rfl, rfl, rfl, by decide +kernel, rfl, by decide +kernel, by decide +kernel⟩
abbrev s_of : Stmt := topS 19
theorem sc_of : FnScope ["_law_bag", "_law_some"] ["_law_bag", "_law_some"] (defScope s_of) := ⟨rfl, rfl, rfl, by decide +kernel, rfl, by decide +kernel, by decide +kernel⟩
abbrev s_roots : Stmt := topS 20
theorem sc_roots : FnScope ["_law_d"] [] (defScope s_roots) := ⟨rfl, rfl, rfl, by decide +kernel, rfl, by decide +kernel, by decide +kernel⟩
abbrev s_a_root : Stmt := topS 21
theorem sc_a_root : FnScope ["_law_bag"] ["_law_bag"] (defScope s_a_root) := ⟨rfl, rfl, rfl, by decide +kernel, rfl, by decide +kernel, by decide +kernel⟩
abbrev s_any_pair : Stmt := topS 22
theorem sc_any_pair : FnScope ["_law_bag", "_law_size"] ["_law_bag"] (defScope s_any_pair) := ⟨rfl, rfl, rfl, by decide +kernel, rfl, by decide +kernel, by decide +kernel⟩
abbrev s_lsign : Stmt := topS 23
theorem sc_lsign : FnScope ["_law_pair", "_law_root_z", "_law_value"] ["_law_pair", "_law_root_z"] (defScope s_lsign) := ⟨rfl, rfl, rfl, by decide +kernel, rfl, by decide +kernel, by decide +kernel⟩
abbrev s_a_length : Stmt := topS 24
theorem sc_a_length : FnScope ["_law_bag", "_law_root_z", "_law_pair"] ["_law_bag", "_law_root_z"] (defScope s_a_length) := ⟨rfl, rfl, rfl, by decide +kernel, rfl, by decide +kernel, by decide +kernel⟩
abbrev s_lscaled : Stmt := topS 25
theorem sc_lscaled : FnScope ["_law_pair", "_law_number"] ["_law_pair", "_law_number"] (defScope s_lscaled) := ⟨rfl, rfl, rfl, by decide +kernel, rfl, by decide +kernel, by decide +kernel⟩
abbrev s_lfractions : Stmt := topS 26
theorem sc_lfractions : FnScope ["_law_root_z", "_law_count", "_law_whole", "_law_turn", "_law_m", "_law_t", "_law_k", "_law_last", "_law_before", "_law_found", "_law_fresh"] ["_law_root_z", "_law_count"] (defScope s_lfractions) := ⟨rfl, rfl, rfl, by decide +kernel, rfl, by decide +kernel, by decide +kernel⟩
abbrev s_tile_pair : Stmt := topS 27
theorem sc_tile_pair : FnScope ["_law_root_z", "_law_number", "_law_found", "_law_at", "_law_p", "_law_q"] ["_law_root_z", "_law_number"] (defScope s_tile_pair) := ⟨rfl, rfl, rfl, by decide +kernel, rfl, by decide +kernel, by decide +kernel⟩
abbrev s_tiny : Stmt := topS 28
theorem sc_tiny : FnScope ["_law_bag", "_law_root_z"] ["_law_bag", "_law_root_z"] (defScope s_tiny) := ⟨rfl, rfl, rfl, by decide +kernel, rfl, by decide +kernel, by decide +kernel⟩
abbrev s_coordinates : Stmt := topS 29
theorem sc_coordinates : FnScope ["_law_pair", "_law_root_z", "_law_number", "_law_rows", "_law_one", "_law_other"] ["_law_pair", "_law_root_z", "_law_number"] (defScope s_coordinates) := ⟨rfl, rfl, rfl, by decide +kernel, rfl, by decide +kernel, by decide +kernel⟩
abbrev s_bad_pair : Stmt := topS 30
theorem sc_bad_pair : FnScope ["_law_bag", "_law_root_z", "_law_pair"] ["_law_bag", "_law_root_z"] (defScope s_bad_pair) := ⟨rfl, rfl, rfl, by decide +kernel, rfl, by decide +kernel, by decide +kernel⟩
abbrev s_field_of : Stmt := topS 31
theorem sc_field_of : FnScope ["_law_e"] ["_law_e"] (defScope s_field_of) := ⟨rfl, rfl, rfl, by decide +kernel, rfl, by decide +kernel, by decide +kernel⟩
abbrev s_try : Stmt := topS 32
theorem sc_try : FnScope ["_law_ask", "_law_e"] ["_law_ask"] (defScope s_try) := ⟨rfl, rfl, rfl, by decide +kernel, rfl, by decide +kernel, by decide +kernel⟩
abbrev s_law : Stmt := topS 33
theorem sc_law : FnScope ["_law_script", "_law_bag", "_law_turn", "_law_root_z", "_law_pairs_z", "_law_handed", "_law_found", "_law_lower", "_law_wrong", "_law_at", "_law_bad", "_law_k", "_law_pair"] ["_law_script"] (defScope s_law) := ⟨rfl, rfl, rfl, by decide +kernel, rfl, by decide +kernel, by decide +kernel⟩
abbrev i_BadLength : Stmt := inClass (topS 3) 0
theorem sc_iBadLength : NScope ["self", "at", "__class__"] ["self", "at"] ["__class__"] (defScope i_BadLength) := nscope_by (by decide +kernel)
abbrev i_NothingLeft : Stmt := inClass (topS 4) 0
theorem sc_iNothingLeft : NScope ["self", "__class__"] ["self"] ["__class__"] (defScope i_NothingLeft) := nscope_by (by decide +kernel)
set_option genInjectivity false in
set_option genSizeOf false in
structure Txt (K : PySem.W.Frag) (mg : Str → Option Value) where
  f_whole_root : Addr
  d_whole_root : FuncData
  F_whole_root : Fun K "whole_root" "whole_root" s_whole_root f_whole_root d_whole_root
  g_whole_root : mg "whole_root" = some (.ref f_whole_root)
  b_whole_root : Binds K d_whole_root ["number"] []
  f_sign : Addr
  d_sign : FuncData
  F_sign : Fun K "sign" "sign" s_sign f_sign d_sign
  g_sign : mg "sign" = some (.ref f_sign)
  b_sign : Binds K d_sign ["pair", "root"] []
  f_is_length : Addr
  d_is_length : FuncData
  F_is_length : Fun K "is_length" "is_length" s_is_length f_is_length d_is_length
  g_is_length : mg "is_length" = some (.ref f_is_length)
  b_is_length : Binds K d_is_length ["pair", "root"] []
  f_added : Addr
  d_added : FuncData
  F_added : Fun K "added" "added" s_added f_added d_added
  g_added : mg "added" = some (.ref f_added)
  f_scaled : Addr
  d_scaled : FuncData
  F_scaled : Fun K "scaled" "scaled" s_scaled f_scaled d_scaled
  g_scaled : mg "scaled" = some (.ref f_scaled)
  b_scaled : Binds K d_scaled ["pair", "number"] []
  f_floor_of : Addr
  d_floor_of : FuncData
  F_floor_of : Fun K "floor_of" "floor_of" s_floor_of f_floor_of d_floor_of
  g_floor_of : mg "floor_of" = some (.ref f_floor_of)
  b_floor_of : Binds K d_floor_of ["pair", "root"] []
  f_endless_fractions : Addr
  d_endless_fractions : FuncData
  F_endless_fractions : Fun K "endless_fractions" "endless_fractions" s_endless_fractions f_endless_fractions d_endless_fractions
  g_endless_fractions : mg "endless_fractions" = some (.ref f_endless_fractions)
  b_endless_fractions : Binds K d_endless_fractions ["root"] []
  f_number_of_length : Addr
  d_number_of_length : FuncData
  F_number_of_length : Fun K "number_of_length" "number_of_length" s_number_of_length f_number_of_length d_number_of_length
  g_number_of_length : mg "number_of_length" = some (.ref f_number_of_length)
  b_number_of_length : Binds K d_number_of_length ["length", "root"] []
  f_first_number : Addr
  d_first_number : FuncData
  F_first_number : Fun K "first_number" "first_number" s_first_number f_first_number d_first_number
  g_first_number : mg "first_number" = some (.ref f_first_number)
  b_first_number : Binds K d_first_number ["pairs", "root"] []
  f_source : Addr
  d_source : FuncData
  F_source : Fun K "_law_source" "_law_source" s_source f_source d_source
  g_source : mg "_law_source" = some (.ref f_source)
  b_source : Binds K d_source ["_law_script"] []
  f_pull : Addr
  d_pull : FuncData
  F_pull : Fun K "_law_pull" "_law_pull" s_pull f_pull d_pull
  g_pull : mg "_law_pull" = some (.ref f_pull)
  b_pull : Binds K d_pull ["_law_bag", "_law_size"] []
  f_of : Addr
  d_of : FuncData
  F_of : Fun K "_law_of" "_law_of" s_of f_of d_of
  g_of : mg "_law_of" = some (.ref f_of)
  b_of : Binds K d_of ["_law_bag", "_law_some"] []
  f_roots : Addr
  d_roots : FuncData
  F_roots : Fun K "_law_roots" "_law_roots" s_roots f_roots d_roots
  g_roots : mg "_law_roots" = some (.ref f_roots)
  b_roots : Binds K d_roots [] []
  f_a_root : Addr
  d_a_root : FuncData
  F_a_root : Fun K "_law_a_root" "_law_a_root" s_a_root f_a_root d_a_root
  g_a_root : mg "_law_a_root" = some (.ref f_a_root)
  b_a_root : Binds K d_a_root ["_law_bag"] []
  f_any_pair : Addr
  d_any_pair : FuncData
  F_any_pair : Fun K "_law_any_pair" "_law_any_pair" s_any_pair f_any_pair d_any_pair
  g_any_pair : mg "_law_any_pair" = some (.ref f_any_pair)
  b_any_pair : Binds K d_any_pair ["_law_bag"] []
  f_lsign : Addr
  d_lsign : FuncData
  F_lsign : Fun K "_law_sign" "_law_sign" s_lsign f_lsign d_lsign
  g_lsign : mg "_law_sign" = some (.ref f_lsign)
  b_lsign : Binds K d_lsign ["_law_pair", "_law_root_z"] []
  f_a_length : Addr
  d_a_length : FuncData
  F_a_length : Fun K "_law_a_length" "_law_a_length" s_a_length f_a_length d_a_length
  g_a_length : mg "_law_a_length" = some (.ref f_a_length)
  b_a_length : Binds K d_a_length ["_law_bag", "_law_root_z"] []
  f_lscaled : Addr
  d_lscaled : FuncData
  F_lscaled : Fun K "_law_scaled" "_law_scaled" s_lscaled f_lscaled d_lscaled
  g_lscaled : mg "_law_scaled" = some (.ref f_lscaled)
  b_lscaled : Binds K d_lscaled ["_law_pair", "_law_number"] []
  f_lfractions : Addr
  d_lfractions : FuncData
  F_lfractions : Fun K "_law_fractions" "_law_fractions" s_lfractions f_lfractions d_lfractions
  g_lfractions : mg "_law_fractions" = some (.ref f_lfractions)
  b_lfractions : Binds K d_lfractions ["_law_root_z", "_law_count"] []
  f_tile_pair : Addr
  d_tile_pair : FuncData
  F_tile_pair : Fun K "_law_tile_pair" "_law_tile_pair" s_tile_pair f_tile_pair d_tile_pair
  g_tile_pair : mg "_law_tile_pair" = some (.ref f_tile_pair)
  b_tile_pair : Binds K d_tile_pair ["_law_root_z", "_law_number"] []
  f_tiny : Addr
  d_tiny : FuncData
  F_tiny : Fun K "_law_tiny" "_law_tiny" s_tiny f_tiny d_tiny
  g_tiny : mg "_law_tiny" = some (.ref f_tiny)
  b_tiny : Binds K d_tiny ["_law_bag", "_law_root_z"] []
  f_coordinates : Addr
  d_coordinates : FuncData
  F_coordinates : Fun K "_law_coordinates" "_law_coordinates" s_coordinates f_coordinates d_coordinates
  g_coordinates : mg "_law_coordinates" = some (.ref f_coordinates)
  b_coordinates : Binds K d_coordinates ["_law_pair", "_law_root_z", "_law_number"] []
  f_bad_pair : Addr
  d_bad_pair : FuncData
  F_bad_pair : Fun K "_law_bad_pair" "_law_bad_pair" s_bad_pair f_bad_pair d_bad_pair
  g_bad_pair : mg "_law_bad_pair" = some (.ref f_bad_pair)
  b_bad_pair : Binds K d_bad_pair ["_law_bag", "_law_root_z"] []
  f_field_of : Addr
  d_field_of : FuncData
  F_field_of : Fun K "_law_field_of" "_law_field_of" s_field_of f_field_of d_field_of
  g_field_of : mg "_law_field_of" = some (.ref f_field_of)
  b_field_of : Binds K d_field_of ["_law_e"] []
  f_try : Addr
  d_try : FuncData
  F_try : Fun K "_law_try" "_law_try" s_try f_try d_try
  g_try : mg "_law_try" = some (.ref f_try)
  b_try : Binds K d_try ["_law_ask"] []
  n_ValueError : mg "ValueError" = none
  n_LookupError : mg "LookupError" = none
  n_IndexError : mg "IndexError" = none
  n_enumerate : mg "enumerate" = none
  n_max : mg "max" = none
  n_range : mg "range" = none
  n_sum : mg "sum" = none
  n_list : mg "list" = none
  n_int : mg "int" = none
  n_abs : mg "abs" = none
  n_len : mg "len" = none
  n_all : mg "all" = none
  n_isinstance : mg "isinstance" = none
  n_tuple : mg "tuple" = none
  n_min : mg "min" = none
  kb_first_number_root_pairs : KBn K d_first_number ["pairs", "root"] 0 ["root", "pairs"] (fun us ws : List Value => [ws.getD 1 .none, ws.getD 0 .none]) (fun us ws : List V => [ws.getD 1 .non, ws.getD 0 .non])
  r_GrainError : Addr
  g_GrainError : mg "GrainError" = some (.ref r_GrainError)
  c_GrainError : ∃ cd : ClassData, PySem.W.clsIn K r_GrainError = some cd ∧ cd.name = "GrainError"
  t_GrainError : PySem.W.typeIn K (.ref r_GrainError) = some (.type "type")
  sb_GrainError : PySem.W.subIn K (.ref r_GrainError) (.type "BaseException") = some true
  r_GrainMissing : Addr
  g_GrainMissing : mg "GrainMissing" = some (.ref r_GrainMissing)
  c_GrainMissing : ∃ cd : ClassData, PySem.W.clsIn K r_GrainMissing = some cd ∧ cd.name = "GrainMissing"
  t_GrainMissing : PySem.W.typeIn K (.ref r_GrainMissing) = some (.type "type")
  sb_GrainMissing : PySem.W.subIn K (.ref r_GrainMissing) (.type "BaseException") = some true
  e_BadLength : Er PySem.Challenge.pw_grainyard_k10_whole_first_numbers K mg "ValueError" "ValueError.__new__" "ValueError.__init__" [.type "ValueError", .type "Exception", .type "BaseException", .type "object"] [.ref r_GrainError] i_BadLength "BadLength" "BadLength.__init__"
  x_BadLength_word : PySem.W.findIn K (.ref e_BadLength.C) "word" = some none
  x_BadLength_at : PySem.W.findIn K (.ref e_BadLength.C) "at" = some none
  e_NothingLeft : Er PySem.Challenge.pw_grainyard_k10_whole_first_numbers K mg "IndexError" "IndexError.__new__" "IndexError.__init__" [.type "IndexError", .type "LookupError", .type "Exception", .type "BaseException", .type "object"] [] i_NothingLeft "NothingLeft" "NothingLeft.__init__"
  x_NothingLeft_word : PySem.W.findIn K (.ref e_NothingLeft.C) "word" = some none
  hn : PySem.W.specialIn K (.builtin "object.__class__") "__get__" = some (some (.builtin "getset_descriptor.__get__"))
  ht : PySem.W.takesIn K (.builtin "object.__class__") = some true
theorem vals_getD : ∀ {zs : List V} {ws : List Value} (_ : Vals zs ws) (i : Nat), RelV (zs.getD i .non) (ws.getD i .none) := by
  intro zs ws h
  induction h with
  | nil => exact fun _ => rfl
  | cons r t ih =>
    intro i
    cases i with
    | zero => exact r
    | succ i => exact ih i
theorem kbn_first_number_root_pairs {K : PySem.W.Frag} {f : Addr} {fd : FuncData} (F : Fun K "first_number" "first_number" s_first_number f fd) : KBn K fd ["pairs", "root"] 0 ["root", "pairs"] (fun us ws : List Value => [ws.getD 1 .none, ws.getD 0 .none]) (fun us ws : List V => [ws.getD 1 .non, ws.getD 0 .non]) := by
  obtain ⟨o1, o2, v1, v2, v3, a1, v4, v5, s1, rfl, r1, r2⟩ := F.ex
  refine ⟨fun s us ws _ l1 l2 => ?_, fun r1 r2 => .cons (vals_getD r2 1) (.cons (vals_getD r2 0) (.nil))⟩
  match us, ws, l1, l2 with
  | [], [_, _], _, _ => exact .of_eq rfl
section
variable {base : Heap} {K : PySem.W.Frag} {mg : Str → Option Value} {w : World}
theorem ini_BadLength (T : Txt K mg) : FnOk PySem.Challenge.pw_grainyard_k10_whole_first_numbers w K mg base CX0 1 T.e_BadLength.f ((NFI i_BadLength "BadLength.__init__" T.e_BadLength.cc T.e_BadLength.c).fd T.e_BadLength.doc T.e_BadLength.pm T.e_BadLength.ctv) ["self", "at"] (spIni T.e_BadLength.C 1 fun ws => [("at", ws.getD 0 .non), ("word", .str "BadLength")]) := ok_ini1 erb_VE T.e_BadLength sc_iBadLength rfl T.x_BadLength_word T.x_BadLength_at
theorem bi_BadLength (T : Txt K mg) : Binds K ((NFI i_BadLength "BadLength.__init__" T.e_BadLength.cc T.e_BadLength.c).fd T.e_BadLength.doc T.e_BadLength.pm T.e_BadLength.ctv) ["self", "at"] [] := .all fun us hl => match us, hl with | [_, _], _ => rfl
theorem ini_NothingLeft (T : Txt K mg) : FnOk PySem.Challenge.pw_grainyard_k10_whole_first_numbers w K mg base CX0 1 T.e_NothingLeft.f ((NFI i_NothingLeft "NothingLeft.__init__" T.e_NothingLeft.cc T.e_NothingLeft.c).fd T.e_NothingLeft.doc T.e_NothingLeft.pm T.e_NothingLeft.ctv) ["self"] (spIni T.e_NothingLeft.C 0 fun _ => [("word", .str "NothingLeft")]) := ok_ini0 erb_IE T.e_NothingLeft sc_iNothingLeft rfl T.x_NothingLeft_word
theorem bi_NothingLeft (T : Txt K mg) : Binds K ((NFI i_NothingLeft "NothingLeft.__init__" T.e_NothingLeft.cc T.e_NothingLeft.c).fd T.e_NothingLeft.doc T.e_NothingLeft.pm T.e_NothingLeft.ctv) ["self"] [] := .all fun us hl => match us, hl with | [_], _ => rfl
end
/-! ### heaps, and the bag that the draws change -/
def Keep (b : Addr) (H H' : Hp) : Prop := ∀ a o, a ≠ b → H a = some o → H' a = some o
theorem Keep.refl {b : Addr} (H : Hp) : Keep b H H := fun _ _ _ e => e
theorem Keep.trans {b : Addr} {H H1 H2 : Hp} (x : Keep b H H1) (y : Keep b H1 H2) : Keep b H H2 := fun a o n e => y a o n (x a o n e)
theorem keep_put {b : Addr} {H : Hp} {o : HO} : Keep b H (upd H b o) := fun a u n e => (upd_ne n).trans e
theorem keep_new {b p : Addr} {H : Hp} {o : HO} (hp : H p = none) : Keep b H (upd H p o) := fun a u _ e => (upd_ne (ne_of_none e hp)).trans e
theorem same_new {p : Addr} {H : Hp} {o : HO} (hp : H p = none) : Same H (upd H p o) := fun a u e => (upd_ne (ne_of_none e hp)).trans e
theorem keep_of {b : Addr} {H H' : Hp} (s : Same H H') : Keep b H H' := fun a o _ e => s a o e
theorem Same.keep {b : Addr} {H H1 H2 : Hp} (s : Same H H1) (k : Keep b H1 H2) (hb : H b = none) : Same H H2 := fun a o e => k a o (ne_of_none e hb) (s a o e)
structure BagAt (H : Hp) (b s : Addr) (ns : List Int) (i j m c : Int) : Prop where
  hb : H b = some (.lst [.ref s, .int i, .int j, .int m, .int c])
  hs : H s = some (.lst (ns.map V.int))
  i0 : 0 ≤ i
  i1 : i ≤ (ns.length : Int)
  m0 : 0 ≤ m
  m1 : m < 2147483399
def Bag (H : Hp) (b sb : Addr) : Prop := ∃ (ns : List Int) (i j m c : Int), BagAt H b sb ns i j m c
theorem BagAt.ne {H : Hp} {b s : Addr} {ns : List Int} {i j m c : Int} (B : BagAt H b s ns i j m c) : s ≠ b := ne_of B.hs B.hb (by
  intro e
  injection e with e
  cases ns with
  | nil => simp at e
  | cons x r => simp at e)
theorem BagAt.put {H : Hp} {b s : Addr} {ns : List Int} {i j m c : Int} (B : BagAt H b s ns i j m c) {i' j' m' c' : Int} (h0 : 0 ≤ i') (h1 : i' ≤ (ns.length : Int)) (h2 : 0 ≤ m') (h3 : m' < 2147483399) :
    BagAt (upd H b (.lst [.ref s, .int i', .int j', .int m', .int c'])) b s ns i' j' m' c' := ⟨upd_same, (upd_ne B.ne).trans B.hs, h0, h1, h2, h3⟩
theorem BagAt.same {H H' : Hp} {b s : Addr} {ns : List Int} {i j m c : Int} (B : BagAt H b s ns i j m c) (e : Same H H') : BagAt H' b s ns i j m c := ⟨e _ _ B.hb, e _ _ B.hs, B.i0, B.i1, B.m0, B.m1⟩
theorem Bag.same {H H' : Hp} {b sb : Addr} (B : Bag H b sb) (e : Same H H') : Bag H' b sb := by
  obtain ⟨ns, i, j, m, c, B⟩ := B
  exact ⟨ns, i, j, m, c, B.same e⟩
theorem Bag.new {H : Hp} {b sb p : Addr} {o : HO} (B : Bag H b sb) (hp : H p = none) : Bag (upd H p o) b sb := B.same (same_new hp)
theorem Bag.ne {H : Hp} {b sb p : Addr} (B : Bag H b sb) (hp : H p = none) : p ≠ b := by
  obtain ⟨ns, i, j, m, c, B⟩ := B
  exact (ne_of_none B.hb hp).symm
theorem Bag.ne2 {H : Hp} {b sb p : Addr} (B : Bag H b sb) (hp : H p = none) : p ≠ sb := by
  obtain ⟨ns, i, j, m, c, B⟩ := B
  exact (ne_of_none B.hs hp).symm
theorem Bag.tup {H : Hp} {b sb p : Addr} {xs : List V} (B : Bag H b sb) (hp : H p = some (.tup xs)) : p ≠ b := by
  obtain ⟨ns, i, j, m, c, B⟩ := B
  exact ne_of hp B.hb (by intro z; cases z)
theorem Bag.put {H : Hp} {b sb l : Addr} {o : HO} (B : Bag H b sb) (h1 : l ≠ b) (h2 : l ≠ sb) : Bag (upd H l o) b sb := by
  obtain ⟨ns, i, j, m, c, B⟩ := B
  exact ⟨ns, i, j, m, c, (upd_ne h1.symm).trans B.hb, (upd_ne h2.symm).trans B.hs, B.i0, B.i1, B.m0, B.m1⟩
theorem Keep.list {K : PySem.W.Frag} {H H' : Hp} {b p : Addr} {xs : List V} (k : Keep b H H') (hp : p ≠ b) (h : H p = some (.lst xs)) : SqL K H' p xs := SqL.of (k _ _ hp h)
theorem at_some {α : Type} {xs : List α} {i : Int} (h0 : 0 ≤ i) (h1 : i < (xs.length : Int)) : ∃ v, xs[i.toNat]? = some v ∧ atI xs i = some v := by
  obtain ⟨n, rfl⟩ := Int.eq_ofNat_of_zero_le h0
  have hl : n < xs.length := by omega
  exact ⟨xs[n], by simp [hl], atI_nat (by simp [hl])⟩
theorem at_ex {ns : List Int} {i : Int} (h0 : 0 ≤ i) (h1 : i < (ns.length : Int)) : ∃ z, atI (ns.map V.int) i = some (.int z) := by
  obtain ⟨n, rfl⟩ := Int.eq_ofNat_of_zero_le h0
  have hl : n < ns.length := by omega
  exact ⟨ns[n], atI_nat (by simp [hl])⟩
/-! ### f(k = v, ..): keywords alone -/
section
variable {X : Cx}
theorem pe_kwOnly {CX : CXT} {k : Nat} {f : Addr} {fd : FuncData} {ps ks : List Str} {sp : Sp} {E : XK} {x : Str} {p pos : Pos} {kws : List Keyword} {tk : TA} {g : List Value → List Value → List Value} {gV : List V → List V → List V}
    (F : FnOk X.prog X.w X.K X.mg X.base CX k f fd ps sp) (hr : Room k X.A) (hg : Gl X x) (hm : X.mg x = some (.ref f))
    (hk : PySem.W.keepIn X.K (.ref f) = true) (hb : KBn X.K fd ps 0 ks g gV) (hx : Passes CX X E) (hkw : PK X kws tk)
    (hall : (backToKw pos (keywordEach kws X.env)).all (·.1.isSome) = true := by rfl)
    (hks : (backToKw pos (keywordEach kws X.env)).filterMap (·.1) = ks := by rfl)
    (hdb : (x == ("__debug__" : Str)) = false := by decide)
    (hpl : ((backTo pos (starEach [] X.env)).any (·.1) || (backToKw pos (keywordEach kws X.env)).any (·.1.isNone)) = false := by rfl) :
    PE X (.Call (.Name x p) [] kws pos) (fun σ H Q => tk σ H fun zs H2 => zs.length = ks.length ∧ sp (gV [] zs) H2 Q E) := by
  refine ⟨fun pins s σ H Q I h => wpAny_Call_Name_kw (ld_glob I hg hm ?_ hdb)⟩
  refine PySem.W.callWith_KW0 (h₀ := X.base) I.ok.mod.kin hk hall ?_ hpl
  refine thn (hkw.run pos pins s σ H _ I h) fun ws s2 ⟨zs, H2, I2, rz, l2, q2⟩ => ⟨I2.kIn, ?_⟩
  rw [hks]
  exact run_fnN (us := []) (vs := []) F hr hb hx I2 .nil rz rfl l2 q2
end
/-! ### the law's own draws -/
section
variable {base : Heap} {K : PySem.W.Frag} {mg : Str → Option Value} {P : Program} {w : World}
def spPull : Sp := fun vs H Q _ => ∃ (b sb : Addr) (n : Int), vs = [.ref b, .int n] ∧ Bag H b sb ∧ 0 < n ∧ n.natAbs < 2 ^ 100 ∧ ∀ z H', 0 ≤ z → z < n → Bag H' b sb → Keep b H H' → Q (.int z) H'
theorem ok_pull (T : Txt K mg) : FnOk P w K mg base CX0 1 T.f_pull T.d_pull ["_law_bag", "_law_size"] spPull := by
  refine T.F_pull.ok sc_pull (fun vs H Q E h => ?_) (fun cdv A outer s H vs Q E hr h => ?_)
  · obtain ⟨b, sb, n, rfl, _⟩ := h
    rfl
  · obtain ⟨b, s1, n, rfl, ⟨ns, i, j, m, c, B⟩, h0, h1, q⟩ := h
    refine ⟨_, (pss_cons (ps_asg (pe_op op_add (pe_ix ix_list (pv 0) pe_int (fun _ _ => rfl)) pe_int) (pg_sub (pv 0) pe_int set_list))
      (Evl.pss_cut (ps_if (PW.pt (pw_and (pt_cmpR op_eq (pe_ix ix_list (pv 0) pe_int (fun _ _ => rfl)) pe_int (nomark _)) (pw_and1 (pt_cmpR op_lt (pe_ix ix_list (pv 0) pe_int (fun _ _ => rfl)) (pe_callB call_len_seq (by rfl) T.n_len (by decide +kernel) (pa_cons (pe_ix ix_list (pv 0) pe_int (fun _ _ => rfl)) pa_nil)) (nomark _))))) (pss_cons (ps_set (i := 3) sc_pull.nd rfl (Or.inl rfl) (pe_ix ix_list (pe_ix ix_list (pv 0) pe_int (fun _ _ => rfl)) (pe_ix ix_list (pv 0) pe_int (fun _ _ => rfl)) (fun _ _ => rfl)))
      (pss_cons (ps_asg (pe_op op_add (pe_ix ix_list (pv 0) pe_int (fun _ _ => rfl)) pe_int) (pg_sub (pv 0) pe_int set_list))
      (pss_one (ps_if (pt_cmpR op_ge (pv 3) (pe_op op_pow pe_int pe_int) (nomark _)) (pss_one (ps_asg (pv 3) (pg_sub (pv 0) pe_int set_list))) (pss_cons (ps_set (i := 2) sc_pull.nd rfl (Or.inl rfl) (pe_op op_add (pe_op op_mul (pe_ix ix_list (pv 0) pe_int (fun _ _ => rfl)) pe_int) (pe_op op_mul (pe_op op_mod (pv 3) pe_int) pe_int)))
      (pss_one (ps_asg (pe_op op_mod (pe_op op_add (pv 2) pe_int) pe_int) (pg_sub (pv 0) pe_int set_list)))))))) pss_nil)
      (pss_cons (ps_if (pt_cmpR op_gt (pe_ix ix_list (pv 0) pe_int (fun _ _ => rfl)) pe_int (nomark _)) (pss_cons (ps_set (i := 4) sc_pull.nd rfl (Or.inl rfl) (pe_op op_mod (pe_ix ix_list (pv 0) pe_int (fun _ _ => rfl)) (pv 1)))
      (pss_cons (ps_asg (pe_op op_fdivW (pe_ix ix_list (pv 0) pe_int (fun _ _ => rfl)) (pv 1)) (pg_sub (pv 0) pe_int set_list))
      (pss_one (ps_ret (pv 4))))) pss_nil)
      (pss_cons (ps_set (i := 2) sc_pull.nd rfl (Or.inl rfl) (pe_op op_add (pe_op op_mul (pe_op op_mul (pe_ix ix_list (pv 0) pe_int (fun _ _ => rfl)) (pe_ix ix_list (pv 0) pe_int (fun _ _ => rfl))) pe_int) (pe_op op_mul (pe_ix ix_list (pv 0) pe_int (fun _ _ => rfl)) pe_int)))
      (pss_cons (ps_asg (pe_op op_mod (pe_op op_add (pv 2) (pe_op op_mul pe_int (pe_ix ix_list (pv 0) pe_int (fun _ _ => rfl)))) pe_int) (pg_sub (pv 0) pe_int set_list))
      (pss_one (ps_ret (pe_op op_mod (pe_op op_fdiv (pe_ix ix_list (pv 0) pe_int (fun _ _ => rfl)) pe_int) (pv 1))))))))), ?_⟩
    -- the count of the draws
    have B1 := B.put (j' := j) (c' := c + 1) B.i0 B.i1 B.m0 B.m1
    refine ⟨.ref b, rfl, b, _, 4, .int c, rfl, rfl, SqL.of B.hb, atI_nat (j := 4) rfl, c, 1, rfl, rfl, .ref b, rfl, b, _, 4, 4, rfl, rfl, B.hb, rfl, ?_⟩
    refine ⟨fun σ H' => ∃ y2 y3 y4, σ = [some (.ref b), some (.int n), y2, y3, y4] ∧ Bag H' b s1 ∧ Keep b H H', ?_, ?_⟩
    · -- the next cell of the script
      refine ⟨.ref b, rfl, b, _, 2, .int j, rfl, rfl, SqL.of B1.hb, atI_nat (j := 2) rfl, rfl, _, rfl, ite2 (fun e => ?_) (fun e => ?_)⟩
      · refine ⟨.ref b, rfl, b, _, 1, .int i, rfl, rfl, SqL.of B1.hb, atI_nat (j := 1) rfl, .ref b, rfl, b, _, 0, .ref s1, rfl, rfl, SqL.of B1.hb, atI_nat (j := 0) rfl, s1, _, rfl, .inl (SqL.of B1.hs), i, _, rfl, rfl, _, rfl, ite2 (fun e2 => ?_) (fun e2 => ?_)⟩
        · have e3 : i < (ns.length : Int) := by
            have := of_decide_eq_true e2
            rw [List.length_map] at this
            exact this
          obtain ⟨z, hz⟩ := at_ex B.i0 e3
          have B2 := B1.put (j' := j) (c' := c + 1) (show 0 ≤ i + 1 by have := B.i0; omega) (show i + 1 ≤ (ns.length : Int) by omega) B.m0 B.m1
          refine ⟨.ref b, rfl, b, _, 0, .ref s1, rfl, rfl, SqL.of B1.hb, atI_nat (j := 0) rfl, .ref b, rfl, b, _, 1, .int i, rfl, rfl, SqL.of B1.hb, atI_nat (j := 1) rfl, s1, _, i, _, rfl, rfl, SqL.of B1.hs, hz, ?_⟩
          refine ⟨.ref b, rfl, b, _, 1, .int i, rfl, rfl, SqL.of B1.hb, atI_nat (j := 1) rfl, i, 1, rfl, rfl, .ref b, rfl, b, _, 1, 1, rfl, rfl, B1.hb, rfl, ?_⟩
          refine ⟨_, rfl, 10, 18, rfl, rfl, ⟨by decide, by decide, by decide⟩, z, _, rfl, rfl, _, rfl, ite2 (fun e4 => ?_) (fun e4 => ?_)⟩
          · have B3 := B2.put (j' := z) (c' := c + 1) (show 0 ≤ i + 1 by have := B.i0; omega) (show i + 1 ≤ (ns.length : Int) by omega) B.m0 B.m1
            refine ⟨_, rfl, .ref b, rfl, b, _, 2, 2, rfl, rfl, B2.hb, rfl, ?_⟩
            exact ⟨_, _, _, rfl, ⟨ns, _, _, _, _, B3⟩, keep_put.trans (keep_put.trans keep_put)⟩
          · refine ⟨.ref b, rfl, b, _, 3, .int m, rfl, rfl, SqL.of B2.hb, atI_nat (j := 3) rfl, m, 40014, rfl, rfl, .inr ⟨by decide, by decide⟩, _, rfl, z, 2147483399, rfl, rfl, (by show (0 : Int) < 2147483399; decide), _, 69069, rfl, rfl, .inr ⟨by decide, by decide⟩, _, _, rfl, rfl, ?_⟩
            refine ⟨_, rfl, _, 11, rfl, rfl, _, 2147483399, rfl, rfl, (by show (0 : Int) < 2147483399; decide), .ref b, rfl, b, _, 3, 3, rfl, rfl, B2.hb, rfl, ?_⟩
            have B3 := B2.put (j' := j) (m' := (m * 40014 + z % 2147483399 * 69069 + 11) % 2147483399) (c' := c + 1) (show 0 ≤ i + 1 by have := B.i0; omega) (show i + 1 ≤ (ns.length : Int) by omega) (by omega) (by omega)
            exact ⟨_, _, _, rfl, ⟨ns, _, _, _, _, B3⟩, keep_put.trans (keep_put.trans keep_put)⟩
        · exact ⟨_, _, _, rfl, ⟨ns, _, _, _, _, B1⟩, keep_put⟩
      · exact ⟨_, _, _, rfl, ⟨ns, _, _, _, _, B1⟩, keep_put⟩
    · rintro σ H' ⟨y2, y3, y4, rfl, ⟨ns2, i2, j2, m2, c2, B2⟩, k2⟩
      refine ⟨.ref b, rfl, b, _, 2, .int j2, rfl, rfl, SqL.of B2.hb, atI_nat (j := 2) rfl, j2, 0, rfl, rfl, _, rfl, ite2 (fun e => ?_) (fun e => ?_)⟩
      · have B3 := B2.put (j' := j2 / n) (c' := c2) B2.i0 B2.i1 B2.m0 B2.m1
        refine ⟨.ref b, rfl, b, _, 2, .int j2, rfl, rfl, SqL.of B2.hb, atI_nat (j := 2) rfl, .int n, rfl, j2, n, rfl, rfl, h0, ?_⟩
        refine ⟨.ref b, rfl, b, _, 2, .int j2, rfl, rfl, SqL.of B2.hb, atI_nat (j := 2) rfl, .int n, rfl, j2, n, rfl, rfl, wide_div h0 h1 (by decide) (by decide), .ref b, rfl, b, _, 2, 2, rfl, rfl, B2.hb, rfl, ?_⟩
        exact ⟨_, rfl, q _ _ (Int.emod_nonneg _ (by omega)) (Int.emod_lt_of_pos _ h0) ⟨ns2, _, _, _, _, B3⟩ (k2.trans keep_put)⟩
      · have hm : -(2 ^ 64) < m2 ∧ m2 < 2 ^ 64 := ⟨by have := B2.m0; omega, by have := B2.m1; omega⟩
        refine ⟨.ref b, rfl, b, _, 3, .int m2, rfl, rfl, SqL.of B2.hb, atI_nat (j := 3) rfl, .ref b, rfl, b, _, 3, .int m2, rfl, rfl, SqL.of B2.hb, atI_nat (j := 3) rfl, m2, m2, rfl, rfl, .inl hm, _, 7, rfl, rfl, .inr ⟨by decide, by decide⟩,
          .ref b, rfl, b, _, 3, .int m2, rfl, rfl, SqL.of B2.hb, atI_nat (j := 3) rfl, m2, 40692, rfl, rfl, .inr ⟨by decide, by decide⟩, _, _, rfl, rfl, ?_⟩
        refine ⟨_, rfl, .ref b, rfl, b, _, 4, .int c2, rfl, rfl, SqL.of B2.hb, atI_nat (j := 4) rfl, 1013904223, c2, rfl, rfl, .inl ⟨by decide, by decide⟩, _, _, rfl, rfl, _, 2147483399, rfl, rfl, (by show (0 : Int) < 2147483399; decide), .ref b, rfl, b, _, 3, 3, rfl, rfl, B2.hb, rfl, ?_⟩
        have B3 := B2.put (j' := j2) (m' := (m2 * m2 * 7 + m2 * 40692 + 1013904223 * c2) % 2147483399) (c' := c2) B2.i0 B2.i1 (Int.emod_nonneg _ (by decide)) (Int.emod_lt_of_pos _ (by decide))
        refine ⟨.ref b, rfl, b, _, 3, _, rfl, rfl, SqL.of B3.hb, atI_nat (j := 3) rfl, _, 37, rfl, rfl, ⟨by decide, by decide⟩, .int n, rfl, _, n, rfl, rfl, h0, ?_⟩
        exact q _ _ (Int.emod_nonneg _ (by omega)) (Int.emod_lt_of_pos _ h0) ⟨ns2, _, _, _, _, B3⟩ (k2.trans keep_put)
def spOf : Sp := fun vs H Q _ => ∃ (b sb l : Addr) (xs : List V), vs = [.ref b, .ref l] ∧ Bag H b sb ∧ H l = some (.lst xs) ∧ l ≠ b ∧ 0 < xs.length ∧ xs.length ≤ 1000 ∧ ∀ (i : Nat) (v : V) (H' : Hp), xs[i]? = some v → Bag H' b sb → Keep b H H' → Q v H'
theorem ok_of (T : Txt K mg) : FnOk P w K mg base CX0 2 T.f_of T.d_of ["_law_bag", "_law_some"] spOf := by
  refine T.F_of.ok sc_of (fun vs H Q E h => ?_) (fun cdv A outer s H vs Q E hr h => ?_)
  · obtain ⟨b, sb, l, xs, rfl, _⟩ := h
    rfl
  · obtain ⟨b, sb, l, xs, rfl, B, hl, nl, h0, h1, q⟩ := h
    refine ⟨_, (pss_one (ps_ret (pe_ix ix_list (pv 1) (pe_call (ok_pull T) (hr.mono (by decide)) (by rfl) T.g_pull T.F_pull.kp T.b_pull .nil pass0 (pa_cons (pv 0) (pa_cons (pe_callB call_len_seq (by rfl) T.n_len (by decide +kernel) (pa_cons (pv 1) pa_nil)) pa_nil))) (fun _ _ => rfl)))), ?_⟩
    have hn : ((xs.length : Int)).natAbs < 2 ^ 100 := Nat.lt_of_le_of_lt (show (xs.length : Int).natAbs ≤ 1000 by omega) (by decide)
    refine ⟨.ref l, rfl, .ref b, rfl, .ref l, rfl, l, xs, rfl, .inl (SqL.of hl), b, sb, _, rfl, B, (by show (0 : Int) < (xs.length : Int); omega), hn, fun z H' z0 z1 B' k' => ?_⟩
    obtain ⟨v, e1, e2⟩ := at_some z0 z1
    exact ⟨l, xs, z, v, rfl, rfl, k'.list nl hl, e2, q _ _ _ e1 B' k'⟩
end
section
variable {base : Heap} {K : PySem.W.Frag} {mg : Str → Option Value} {P : Program} {w : World}
def okR (x : Int) : Bool := !inV (.int x) [.int 4, .int 9, .int 16, .int 25, .int 36, .int 49, .int 64, .int 81]
def rootsTo : Nat → List Int
  | 0 => []
  | n + 1 => if okR (2 + (n : Int)) = true then rootsTo n ++ [2 + (n : Int)] else rootsTo n
theorem rootsTo_len : ∀ n, (rootsTo n).length ≤ n
  | 0 => Nat.le_refl _
  | n + 1 => by
    have := rootsTo_len n
    unfold rootsTo
    split
    · rw [List.length_append]
      simp
      omega
    · omega
def IsRoot (d : Int) : Prop := 2 ≤ d ∧ d ≤ 99 ∧ ∃ k : Int, 0 ≤ k ∧ k * k < d ∧ d < (k + 1) * (k + 1)
def kOf (d : Int) : Int := if d < 4 then 1 else if d < 9 then 2 else if d < 16 then 3 else if d < 25 then 4 else if d < 36 then 5 else if d < 49 then 6 else if d < 64 then 7 else if d < 81 then 8 else 9
theorem roots_are {d : Int} (h : d ∈ rootsTo 98) : IsRoot d := by
  have z : ∀ d ∈ rootsTo 98, 2 ≤ d ∧ d ≤ 99 ∧ 0 ≤ kOf d ∧ kOf d * kOf d < d ∧ d < (kOf d + 1) * (kOf d + 1) := by decide +kernel
  obtain ⟨a, b, c⟩ := z d h
  exact ⟨a, b, kOf d, c⟩
theorem isRoot_by {d : Int} (h : 2 ≤ d ∧ d ≤ 99 ∧ 0 ≤ kOf d ∧ kOf d * kOf d < d ∧ d < (kOf d + 1) * (kOf d + 1)) : IsRoot d := ⟨h.1, h.2.1, kOf d, h.2.2⟩
def spRoots : Sp := fun vs H Q _ => vs = [] ∧ ∀ p H', H p = none → Same H H' → H' p = some (.lst ((rootsTo 98).map V.int)) → Q (.ref p) H'
theorem ok_roots (T : Txt K mg) : FnOk P w K mg base CX0 1 T.f_roots T.d_roots [] spRoots := by
  refine T.F_roots.ok sc_roots (fun vs H Q E h => ?_) (fun cdv A outer s H vs Q E hr h => ?_)
  · obtain ⟨rfl, _⟩ := h
    rfl
  · obtain ⟨rfl, q⟩ := h
    refine ⟨_, (pss_one (ps_ret (pe_lc (own := [("_law_d", 0)]) (g := (gName 0)) (tt := tTest (tOp (rIn K true) _ _)) (by rfl) sc_roots.nd (pi_range2 (by rfl) T.n_range (pa_cons pe_int (pa_cons pe_int pa_nil))) (blkOk_by (own := [("_law_d", 0)]) (N := ["_law_d"]) (sc := defScope s_roots) (by decide +kernel)) (fun _ _ _ _ _ => (pg_name (i := 0) sc_roots.nd rfl (Or.inl rfl))) (fun _ _ _ _ _ => (pts_one (pt_cmpR op_notIn_seq (pv 0) (pe_tup (pa_cons pe_int (pa_cons pe_int (pa_cons pe_int (pa_cons pe_int (pa_cons pe_int (pa_cons pe_int (pa_cons pe_int (pa_cons pe_int pa_nil))))))))) (by rfl)))) (fun _ _ _ _ _ => (pv 0))))), ?_⟩
    refine ⟨2, 100, rfl, ⟨by decide, by decide, by decide, by decide⟩, fun D hD => ?_⟩
    refine lc_range (lo := 2) (n := 98) (fun i H' => Same H H' ∧ H' D = some (.lst ((rootsTo i).map V.int))) ⟨same_new hD, upd_same⟩ ?_ ?_
    · rintro i H' hi ⟨sm, hd⟩
      refine ⟨rfl, _, rfl, (by show 8 ≤ sizeLine; decide), fun t ht => ?_⟩
      refine ⟨t, _, rfl, .inr (SqT.of upd_same), rfl, rfl, _, rfl, ?_⟩
      have hd2 : (upd H' t (.tup [.int 4, .int 9, .int 16, .int 25, .int 36, .int 49, .int 64, .int 81])) D = some (.lst ((rootsTo i).map V.int)) := (upd_ne (ne_of_none hd ht)).trans hd
      refine ite2 (fun e => ?_) (fun e => ?_)
      · refine ⟨_, rfl, _, hd2, ?_, ?_, ?_⟩
        · rw [List.length_map]
          have := rootsTo_len i
          exact small1000 (by omega)
        · exact fun a o z => (upd_ne (ne_of_none z hD)).trans ((sm.trans (same_new ht)) a o z)
        · rw [upd_same]
          have e' : okR (2 + (i : Int)) = true := e
          rw [show rootsTo (i + 1) = rootsTo i ++ [2 + (i : Int)] by
            show (if okR (2 + (i : Int)) = true then rootsTo i ++ [2 + (i : Int)] else rootsTo i) = _
            rw [if_pos e'], List.map_append]
          rfl
      · refine ⟨sm.trans (same_new ht), ?_⟩
        have e' : ¬ okR (2 + (i : Int)) = true := e
        rw [show rootsTo (i + 1) = rootsTo i by
          show (if okR (2 + (i : Int)) = true then rootsTo i ++ [2 + (i : Int)] else rootsTo i) = _
          rw [if_neg e']]
        exact hd2
    · rintro H' ⟨sm, hd⟩
      exact q D H' hD sm hd
end
section
variable {base : Heap} {K : PySem.W.Frag} {mg : Str → Option Value} {P : Program} {w : World}
def spARoot : Sp := fun vs H Q _ => ∃ b sb : Addr, vs = [.ref b] ∧ Bag H b sb ∧ ∀ d H', IsRoot d → Bag H' b sb → Keep b H H' → Q (.int d) H'
theorem root_in {i : Nat} {v : V} (h : ((rootsTo 98).map V.int)[i]? = some v) : ∃ d, v = .int d ∧ IsRoot d := by
  rw [List.getElem?_map] at h
  cases e : (rootsTo 98)[i]? with
  | none =>
    rw [e] at h
    cases h
  | some d =>
    rw [e] at h
    exact ⟨d, (Option.some.inj h).symm, roots_are (List.mem_of_getElem? e)⟩
theorem ok_a_root (T : Txt K mg) : FnOk P w K mg base CX0 3 T.f_a_root T.d_a_root ["_law_bag"] spARoot := by
  refine T.F_a_root.ok sc_a_root (fun vs H Q E h => ?_) (fun cdv A outer s H vs Q E hr h => ?_)
  · obtain ⟨b, sb, rfl, _⟩ := h
    rfl
  · obtain ⟨b, sb, rfl, B, q⟩ := h
    refine ⟨_, (pss_one (ps_ret (pe_call (ok_of T) (hr.mono (by decide)) (by rfl) T.g_of T.F_of.kp T.b_of .nil pass0 (pa_cons (pv 0) (pa_cons (pe_lst (pa_cons pe_int (pa_cons pe_int (pa_cons pe_int (pa_cons pe_int (pa_cons (pe_call (ok_of T) (hr.mono (by decide)) (by rfl) T.g_of T.F_of.kp T.b_of .nil pass0 (pa_cons (pv 0) (pa_cons (pe_call0 (ok_roots T) (hr.mono (by decide)) (by rfl) T.g_roots T.F_roots.kp T.b_roots .nil pass0) pa_nil))) (pa_cons (pe_call (ok_of T) (hr.mono (by decide)) (by rfl) T.g_of T.F_of.kp T.b_of .nil pass0 (pa_cons (pv 0) (pa_cons (pe_call0 (ok_roots T) (hr.mono (by decide)) (by rfl) T.g_roots T.F_roots.kp T.b_roots .nil pass0) pa_nil))) pa_nil))))))) pa_nil))))), ?_⟩
    have hz : ((rootsTo 98).map V.int).length = 90 := by decide +kernel
    refine ⟨.ref b, rfl, .ref b, rfl, rfl, fun p H1 hp s1 h1 => ?_⟩
    refine ⟨b, sb, p, _, rfl, B.same s1, h1, B.ne hp, by omega, by omega, fun i v H2 hv B2 k2 => ?_⟩
    obtain ⟨r1, rfl, i1⟩ := root_in hv
    refine ⟨.ref b, rfl, rfl, fun p' H3 hp' s3 h3 => ?_⟩
    refine ⟨b, sb, p', _, rfl, B2.same s3, h3, B2.ne hp', by omega, by omega, fun i' v' H4 hv' B4 k4 => ?_⟩
    obtain ⟨r2, rfl, i2⟩ := root_in hv'
    refine ⟨(by show 6 ≤ sizeLine; decide), fun l hl => ?_⟩
    refine ⟨b, sb, l, _, rfl, B4.new hl, upd_same, B4.ne hl, by simp, by simp, fun i v H5 hv B5 k5 => ?_⟩
    have kk : Keep b H H5 := (keep_of s1).trans (k2.trans ((keep_of s3).trans (k4.trans ((keep_new hl).trans k5))))
    match i, hv with
    | 0, hv => cases hv; exact q 2 H5 (isRoot_by (by decide)) B5 kk
    | 1, hv => cases hv; exact q 3 H5 (isRoot_by (by decide)) B5 kk
    | 2, hv => cases hv; exact q 5 H5 (isRoot_by (by decide)) B5 kk
    | 3, hv => cases hv; exact q 99 H5 (isRoot_by (by decide)) B5 kk
    | 4, hv => cases hv; exact q r1 H5 i1 B5 kk
    | 5, hv => cases hv; exact q r2 H5 i2 B5 kk
    | n + 6, hv => simp at hv
end
section
variable {base : Heap} {K : PySem.W.Frag} {mg : Str → Option Value} {P : Program} {w : World}
def spSource (K : PySem.W.Frag) : Sp := fun vs H Q _ => ∃ (a : Addr) (ns : List Int), vs = [.ref a] ∧ SqL K H a (ns.map V.int) ∧ ns.length ≤ 63 ∧ ∀ b sb H', H b = none → Same H H' → Bag H' b sb → Q (.ref b) H'
theorem ok_source (T : Txt K mg) : FnOk P w K mg base CX0 1 T.f_source T.d_source ["_law_script"] (spSource K) := by
  refine T.F_source.ok sc_source (fun vs H Q E h => ?_) (fun cdv A outer s H vs Q E hr h => ?_)
  · obtain ⟨a, ns, rfl, _⟩ := h
    rfl
  · obtain ⟨a, ns, rfl, hS, hlen, q⟩ := h
    refine ⟨_, (pss_cons (ps_set (i := 1) sc_source.nd rfl (Or.inl rfl) pe_int)
      (pss_cons (ps_for PassesOwn.never rfl (pi_list (pe_slice sl_list (pv 0) po_none (po_some pe_int))) (pg_name (i := 2) sc_source.nd rfl (Or.inl rfl)) (pss_one (ps_set (i := 1) sc_source.nd rfl (Or.inl rfl) (pe_op op_mod (pe_op op_add (pe_op op_add (pe_op op_mul (pv 1) pe_int) (pe_op op_mod (pv 2) pe_int)) pe_int) pe_int))))
      (pss_one (ps_ret (pe_lst (pa_cons (pe_callTy call_list_of (by rfl) T.n_list (by decide +kernel) (pa_cons (pe_slice sl_list (pv 0) po_none (po_some pe_int)) pa_nil)) (pa_cons pe_int (pa_cons pe_int (pa_cons (pv 1) (pa_cons pe_int pa_nil)))))))))), ?_⟩
    have hcut : cutV (ns.map V.int) none (some 63) = ns.map V.int := by
      unfold cutV
      rw [HT.sIx_none, show HT.sIx (ns.map V.int).length (ns.map V.int).length (some 63) = min 63 (ns.map V.int).length from HT.sIx_nat _ _ 63]
      rw [List.drop_zero, List.length_map, Nat.sub_zero, Nat.min_eq_right hlen]
      exact List.take_of_length_le (by rw [List.length_map]; exact Nat.le_refl _)
    refine ⟨.ref a, rfl, 63, rfl, a, _, rfl, hS, fun p hp => ?_⟩
    rw [hcut]
    refine ⟨p, rfl, ⟨_, SqL.of upd_same⟩, for_list (K := K) (a := p) (xs := ns.map V.int) (fun i σ H2 => ∃ (m : Int) (y : Option V), σ = [some (.ref a), some (.int m), y] ∧ 0 ≤ m ∧ m < 2147483399 ∧ H2 = upd H p (.lst (ns.map V.int)))
      ⟨3812, none, rfl, by decide, by decide, rfl⟩ (fun i σ H2 _ ⟨_, _, _, _, _, e⟩ => by rw [e]; exact SqL.of upd_same) ?_ ?_⟩
    · rintro i x σ H2 hx ⟨m, y, rfl, m0, m1, rfl⟩
      obtain ⟨z, rfl⟩ : ∃ z, x = V.int z := by
        rw [List.getElem?_map] at hx
        cases e : ns[i]? with
        | none =>
          rw [e] at hx
          cases hx
        | some z =>
          rw [e] at hx
          exact ⟨z, (Option.some.inj hx).symm⟩
      refine ⟨_, rfl, m, 40692, rfl, rfl, .inr ⟨by decide, by decide⟩, _, rfl, z, 2147483399, rfl, rfl, (by show (0 : Int) < 2147483399; decide), _, _, rfl, rfl, _, 17, rfl, rfl, _, 2147483399, rfl, rfl, (by show (0 : Int) < 2147483399; decide), ?_⟩
      exact ⟨_, _, rfl, Int.emod_nonneg _ (by decide), Int.emod_lt_of_pos _ (by decide), rfl⟩
    · rintro σ H2 ⟨m, y, rfl, m0, m1, rfl⟩
      have hS2 : SqL K (upd H p (.lst (ns.map V.int))) a (ns.map V.int) := (same_new hp).seq hS
      refine ⟨.ref a, rfl, 63, rfl, a, _, rfl, hS2, fun p2 hp2 => ?_⟩
      rw [hcut]
      refine ⟨p2, _, rfl, .inl (SqL.of upd_same), fun l hl => ?_⟩
      refine ⟨_, rfl, (by show 5 ≤ sizeLine; decide), fun b hb => ?_⟩
      have sm : Same H (upd (upd (upd (upd H p (.lst (ns.map V.int))) p2 (.lst (ns.map V.int))) l (.lst (ns.map V.int))) b (.lst [.ref l, .int 0, .int 0, .int m, .int 0])) := (same_new hp).trans ((same_new hp2).trans ((same_new hl).trans (same_new hb)))
      exact q b l _ (((same_new hp).trans ((same_new hp2).trans (same_new hl))).free hb) sm ⟨ns, 0, 0, m, 0, upd_same, same_new hb _ _ upd_same, Int.le_refl _, by omega, m0, m1⟩
end
/-! ### the field of a caught error -/
/-- the error of the class cls with its dict at d: its word, its other field -/
structure ErrIs (K : PySem.W.Frag) (H : Hp) (cls : Value) (d : Option Addr) (w : Str) (fs : List (Str × V)) : Prop where
  ex : ∃ C dd : Addr, cls = .ref C ∧ d = some dd ∧ XfC K C ∧ H dd = some (.xd fs) ∧ ∀ f v, fs.lookup f = some v → PySem.W.findIn K (.ref C) f = some none
  wd : fs.lookup ("word" : Str) = some (.str w)
theorem ErrIs.same {K : PySem.W.Frag} {H H' : Hp} {cls : Value} {d : Option Addr} {w : Str} {fs : List (Str × V)} (h : ErrIs K H cls d w fs) (s : Same H H') : ErrIs K H' cls d w fs := by
  obtain ⟨⟨C, dd, e1, e2, x, hd, no⟩, wd⟩ := h
  exact ⟨⟨C, dd, e1, e2, x, s _ _ hd, no⟩, wd⟩
/-- a field is read -/
theorem ErrIs.read {K : PySem.W.Frag} {H : Hp} {a : Addr} {cls : Value} {d : Option Addr} {w : Str} {fs : List (Str × V)} (h : ErrIs K H cls d w fs) {f : Str} {v : V} {R : V → Prop} (hl : fs.lookup f = some v) (q : R v) :
    (V.ref a) = .ref a ∧ ∃ (C dd : Addr) (fs : List (Str × V)) (v : V), cls = .ref C ∧ d = some dd ∧ XfC K C ∧ PySem.W.findIn K (.ref C) f = some none ∧ H dd = some (.xd fs) ∧ fs.lookup f = some v ∧ R v := by
  obtain ⟨⟨C, dd, e1, e2, x, hd, no⟩, wd⟩ := h
  exact ⟨rfl, C, dd, fs, v, e1, e2, x, no _ _ hl, hd, hl, q⟩
def fieldOf (w : Str) : Option Str :=
  if inV (.str w) [.str "BadRoot", .str "BadCount", .str "NotLinked"] = true then some "number"
  else if inV (.str w) [.str "BadLength", .str "BadRow", .str "BadStep", .str "BadText", .str "BadDeed"] = true then some "at"
  else if inV (.str w) [.str "BadName", .str "Taken"] = true then some "name"
  else if inV (.str w) [.str "TooGreat", .str "Full"] = true then some "most"
  else if decide (V.str w = .str "NoSquares") = true then some "reason" else none
theorem fo0 {w : Str}  (e : inV (.str w) [.str "BadRoot", .str "BadCount", .str "NotLinked"] = true) : fieldOf w = some ("number" : Str) := by unfold fieldOf; rw [if_pos e]
theorem fo1 {w : Str} (b0 : ¬ (inV (.str w) [.str "BadRoot", .str "BadCount", .str "NotLinked"] = true)) (e : inV (.str w) [.str "BadLength", .str "BadRow", .str "BadStep", .str "BadText", .str "BadDeed"] = true) : fieldOf w = some ("at" : Str) := by unfold fieldOf; rw [if_neg b0, if_pos e]
theorem fo2 {w : Str} (b0 : ¬ (inV (.str w) [.str "BadRoot", .str "BadCount", .str "NotLinked"] = true)) (b1 : ¬ (inV (.str w) [.str "BadLength", .str "BadRow", .str "BadStep", .str "BadText", .str "BadDeed"] = true)) (e : inV (.str w) [.str "BadName", .str "Taken"] = true) : fieldOf w = some ("name" : Str) := by unfold fieldOf; rw [if_neg b0, if_neg b1, if_pos e]
theorem fo3 {w : Str} (b0 : ¬ (inV (.str w) [.str "BadRoot", .str "BadCount", .str "NotLinked"] = true)) (b1 : ¬ (inV (.str w) [.str "BadLength", .str "BadRow", .str "BadStep", .str "BadText", .str "BadDeed"] = true)) (b2 : ¬ (inV (.str w) [.str "BadName", .str "Taken"] = true)) (e : inV (.str w) [.str "TooGreat", .str "Full"] = true) : fieldOf w = some ("most" : Str) := by unfold fieldOf; rw [if_neg b0, if_neg b1, if_neg b2, if_pos e]
theorem fo4 {w : Str} (b0 : ¬ (inV (.str w) [.str "BadRoot", .str "BadCount", .str "NotLinked"] = true)) (b1 : ¬ (inV (.str w) [.str "BadLength", .str "BadRow", .str "BadStep", .str "BadText", .str "BadDeed"] = true)) (b2 : ¬ (inV (.str w) [.str "BadName", .str "Taken"] = true)) (b3 : ¬ (inV (.str w) [.str "TooGreat", .str "Full"] = true)) (e : decide (V.str w = .str "NoSquares") = true) : fieldOf w = some ("reason" : Str) := by unfold fieldOf; rw [if_neg b0, if_neg b1, if_neg b2, if_neg b3, if_pos e]
theorem fo5 {w : Str} (b0 : ¬ (inV (.str w) [.str "BadRoot", .str "BadCount", .str "NotLinked"] = true)) (b1 : ¬ (inV (.str w) [.str "BadLength", .str "BadRow", .str "BadStep", .str "BadText", .str "BadDeed"] = true)) (b2 : ¬ (inV (.str w) [.str "BadName", .str "Taken"] = true)) (b3 : ¬ (inV (.str w) [.str "TooGreat", .str "Full"] = true)) (b4 : ¬ (decide (V.str w = .str "NoSquares") = true)) : fieldOf w = none := by unfold fieldOf; rw [if_neg b0, if_neg b1, if_neg b2, if_neg b3, if_neg b4]
def fieldVal (w : Str) (fs : List (Str × V)) : Option V := match fieldOf w with
  | some f => fs.lookup f
  | none => some .non
section
variable {base : Heap} {K : PySem.W.Frag} {mg : Str → Option Value} {P : Program} {w : World}
def spFld (K : PySem.W.Frag) : Addr → Value → Option Addr → Sp := fun a cls d vs H Q _ => ∃ (wd : Str) (fs : List (Str × V)) (v : V), vs = [.ref a] ∧ ErrIs K H cls d wd fs ∧ fieldVal wd fs = some v ∧ ∀ H', Same H H' → Q v H'
theorem ok_field_of (T : Txt K mg) : FnP P w K mg base 1 T.f_field_of T.d_field_of ["_law_e"] (spFld K) := by
  refine fn_ofP T.F_field_of sc_field_of (fun a cls d vs H Q E h => ?_) (fun cdv A outer s H vs Q E p cls d zc dat hr h => ?_)
  · obtain ⟨wd, fs, v, rfl, _⟩ := h
    rfl
  · obtain ⟨wd, fs, v, rfl, E0, hv, q⟩ := h
    refine ⟨_, (pss_cons (ps_if (pt_cmpR op_in_seq (pe_xfG (a := p.1) (oe := p.2) (cls := cls) (d := d) List.mem_cons_self zc dat (pv 0)) (pe_tup (pa_cons pe_str (pa_cons pe_str (pa_cons pe_str pa_nil)))) (by rfl)) (pss_one (ps_ret (pe_xfG (a := p.1) (oe := p.2) (cls := cls) (d := d) List.mem_cons_self zc dat (pv 0)))) pss_nil)
      (pss_cons (ps_if (pt_cmpR op_in_seq (pe_xfG (a := p.1) (oe := p.2) (cls := cls) (d := d) List.mem_cons_self zc dat (pv 0)) (pe_tup (pa_cons pe_str (pa_cons pe_str (pa_cons pe_str (pa_cons pe_str (pa_cons pe_str pa_nil)))))) (by rfl)) (pss_one (ps_ret (pe_xfG (a := p.1) (oe := p.2) (cls := cls) (d := d) List.mem_cons_self zc dat (pv 0)))) pss_nil)
      (pss_cons (ps_if (pt_cmpR op_in_seq (pe_xfG (a := p.1) (oe := p.2) (cls := cls) (d := d) List.mem_cons_self zc dat (pv 0)) (pe_tup (pa_cons pe_str (pa_cons pe_str pa_nil))) (by rfl)) (pss_one (ps_ret (pe_xfG (a := p.1) (oe := p.2) (cls := cls) (d := d) List.mem_cons_self zc dat (pv 0)))) pss_nil)
      (pss_cons (ps_if (pt_cmpR op_in_seq (pe_xfG (a := p.1) (oe := p.2) (cls := cls) (d := d) List.mem_cons_self zc dat (pv 0)) (pe_tup (pa_cons pe_str (pa_cons pe_str pa_nil))) (by rfl)) (pss_one (ps_ret (pe_xfG (a := p.1) (oe := p.2) (cls := cls) (d := d) List.mem_cons_self zc dat (pv 0)))) pss_nil)
      (pss_one (ps_ret (pe_ifExp (pt_cmpR op_eq (pe_xfG (a := p.1) (oe := p.2) (cls := cls) (d := d) List.mem_cons_self zc dat (pv 0)) pe_str (nomark _)) (pe_xfG (a := p.1) (oe := p.2) (cls := cls) (d := d) List.mem_cons_self zc dat (pv 0)) pe_non))))))), ?_⟩
    have fv : ∀ {f : Str}, fieldOf wd = some f → fs.lookup f = some v := fun {f} e => by
      unfold fieldVal at hv
      rw [e] at hv
      exact hv
    refine ⟨_, rfl, E0.read E0.wd ?_⟩
    refine ⟨by show 3 ≤ sizeLine; decide, fun t0 n0 => ?_⟩
    have S1 := same_new (o := .tup [.str "BadRoot", .str "BadCount", .str "NotLinked"]) n0
    have E1 := E0.same S1
    refine ⟨t0, _, rfl, .inr (SqT.of upd_same), rfl, rfl, _, rfl, ite2 (fun e => ?_) (fun b0 => ?_)⟩
    · exact ⟨_, rfl, E1.read (fv (fo0  e)) (q _ S1)⟩
    refine ⟨_, rfl, E1.read E1.wd ?_⟩
    refine ⟨by show 5 ≤ sizeLine; decide, fun t1 n1 => ?_⟩
    have S2 := S1.trans (same_new (o := .tup [.str "BadLength", .str "BadRow", .str "BadStep", .str "BadText", .str "BadDeed"]) n1)
    have E2 := E0.same S2
    refine ⟨t1, _, rfl, .inr (SqT.of upd_same), rfl, rfl, _, rfl, ite2 (fun e => ?_) (fun b1 => ?_)⟩
    · exact ⟨_, rfl, E2.read (fv (fo1 b0 e)) (q _ S2)⟩
    refine ⟨_, rfl, E2.read E2.wd ?_⟩
    refine ⟨by show 2 ≤ sizeLine; decide, fun t2 n2 => ?_⟩
    have S3 := S2.trans (same_new (o := .tup [.str "BadName", .str "Taken"]) n2)
    have E3 := E0.same S3
    refine ⟨t2, _, rfl, .inr (SqT.of upd_same), rfl, rfl, _, rfl, ite2 (fun e => ?_) (fun b2 => ?_)⟩
    · exact ⟨_, rfl, E3.read (fv (fo2 b0 b1 e)) (q _ S3)⟩
    refine ⟨_, rfl, E3.read E3.wd ?_⟩
    refine ⟨by show 2 ≤ sizeLine; decide, fun t3 n3 => ?_⟩
    have S4 := S3.trans (same_new (o := .tup [.str "TooGreat", .str "Full"]) n3)
    have E4 := E0.same S4
    refine ⟨t3, _, rfl, .inr (SqT.of upd_same), rfl, rfl, _, rfl, ite2 (fun e => ?_) (fun b3 => ?_)⟩
    · exact ⟨_, rfl, E4.read (fv (fo3 b0 b1 b2 e)) (q _ S4)⟩
    refine ⟨_, rfl, E4.read E4.wd ?_⟩
    refine ⟨rfl, _, rfl, ite2 (fun e => ?_) (fun b4 => ?_)⟩
    · exact ⟨_, rfl, E4.read (fv (fo4 b0 b1 b2 b3 e)) (q _ S4)⟩
    · have e : fieldOf wd = none := fo5 b0 b1 b2 b3 b4
      have ev : v = .non := by
        unfold fieldVal at hv
        rw [e] at hv
        exact (Option.some.inj hv).symm
      rw [ev] at q
      exact q _ S4
end
/-! ### the def that asks, and tells what was raised -/
section
variable {K : PySem.W.Frag} {mg : Str → Option Value}
/-- what is told of an answer, of an error of the first, of the second, of the third kind -/
def Told (Q : VK) (w : Str) (v : V) (H : Hp) : Prop := ∀ H' p, Same H H' → H' p = some (.tup [.str w, v]) → Q (.ref p) H'
def Raised (K : PySem.W.Frag) (G : Addr) (Q : VK) : XK := fun cls d H => PySem.W.exmOne K cls (.ref G) = some true ∧ ∃ (w : Str) (fs : List (Str × V)) (v : V), ErrIs K H cls d w fs ∧ fieldVal w fs = some v ∧ Told Q w v H
def TTry (K : PySem.W.Frag) (G : Addr) : (XK → Hp → VK → Prop) → Hp → VK → Prop := fun tl H Q => tl (Raised K G Q) H fun v H1 => [V.str "told", v].length ≤ sizeLine ∧ ∀ p, H1 p = none → Q (.ref p) (upd H1 p (.tup [.str "told", v]))
end
section
variable {base : Heap} {K : PySem.W.Frag} {mg : Str → Option Value} {w : World}
theorem try_gives {X : Cx} (T : Txt K mg) (hP : X.K = K) (hm : X.mg = mg) {k : Nat} (hr : Room (k + 3) X.A) {cdg : Value} {q : Str} :
    LamX.GivesTo X ["_law_ask", "_law_e"] "_law_try" (defScope s_try) T.f_try cdg (defBody s_try) "_law_ask" q (TTry K T.r_GrainError) := by
  subst hP
  subst hm
  intro f c' s H Q tl act hc h
  have hr2 : Room (k + 2) (X.A.deeper (envOfC "_law_try" (defScope s_try) s.heap.objs.size T.f_try cdg)) := hr.deeper _
  refine ⟨_, pss_one (ps_tryAs (X := (cxOf CX0 X.prog X.w X.K X.mg X.base ["_law_ask", "_law_e"] "_law_try" (defScope s_try) T.f_try cdg X.A X.stack s H E0).nox) (i := 1)
      (tb := fun W D σ H => ∃ Ech : XK, (∀ cls d σ' H', Ech cls d H' → W cls d σ' H') ∧ σ[0]? = some (some (.ref f)) ∧ H c' = some (LamX.CodeO c' q) ∧ tl Ech H fun v H1 => [V.str "told", v].length ≤ sizeLine ∧ ∀ p, H1 p = none → D.rt (.ref p) (upd H1 p (.tup [.str "told", v])))
      rfl rfl sc_try.nd rfl rfl (fun W pn xe tk _ => ?_)
      (.cons (c := .ref T.r_GrainError) (ts := fun a cls d => tRet (tTup (tCons (tXfA X.K a cls d "word" (tVar 1)) (tCons (fun σ H Q => tCons (tVar 1) tNil σ H fun vs H1 => spFld X.K a cls d vs H1 Q E0) tNil)))) ⟨by rfl, by decide, .inl T.g_GrainError⟩ (fun a oe cls d pn zc dat => pss_one (ps_ret (pe_tup (pa_cons (pe_xfG (a := a) (oe := oe) (cls := cls) (d := d) List.mem_cons_self zc dat (pv 1)) (pa_cons (pe_callP (a := a) (oe := oe) (cls := cls) (d := d) List.mem_cons_self zc dat (ok_field_of T) ?_ (by rfl) T.g_field_of T.F_field_of.kp T.b_field_of (pa_cons (pv 1) pa_nil)) pa_nil)))))
      (.cons (c := .ref T.r_GrainMissing) (ts := fun a cls d => tRet (tTup (tCons (tXfA X.K a cls d "word" (tVar 1)) (tCons (tIf (tTest (tOp rEq (tXfA X.K a cls d "word" (tVar 1)) (tC (.str "NoSheet")))) (tXfA X.K a cls d "sheet" (tVar 1)) (tXfA X.K a cls d "name" (tVar 1))) tNil)))) ⟨by rfl, by decide, .inl T.g_GrainMissing⟩ (fun a oe cls d pn zc dat => pss_one (ps_ret (pe_tup (pa_cons (pe_xfG (a := a) (oe := oe) (cls := cls) (d := d) List.mem_cons_self zc dat (pv 1)) (pa_cons (pe_ifExp (pt_cmpR op_eq (pe_xfG (a := a) (oe := oe) (cls := cls) (d := d) List.mem_cons_self zc dat (pv 1)) pe_str (nomark _)) (pe_xfG (a := a) (oe := oe) (cls := cls) (d := d) List.mem_cons_self zc dat (pv 1)) (pe_xfG (a := a) (oe := oe) (cls := cls) (d := d) List.mem_cons_self zc dat (pv 1))) pa_nil)))))
      (.cons (c := .ref T.e_NothingLeft.C) (ts := fun a cls d => tRet (tTup (tCons (tXfA X.K a cls d "word" (tVar 1)) (tCons (tC .non) tNil)))) ⟨by rfl, by decide, .inl T.e_NothingLeft.g⟩ (fun a oe cls d pn zc dat => pss_one (ps_ret (pe_tup (pa_cons (pe_xfG (a := a) (oe := oe) (cls := cls) (d := d) List.mem_cons_self zc dat (pv 1)) (pa_cons pe_non pa_nil))))) .nil)))), ?_⟩
  · constructor
    intro pins s' σ H' D I h'
    obtain ⟨Ech, hW, h1, h2, h3⟩ := h'
    have asked := fun p1 p2 => act W pn xe Ech p1 p2 tk hW
    exact (pss_one (ps_ret (pe_tup (pa_cons pe_str (pa_cons (asked _ _) pa_nil))))).run pins s' σ H' D I ⟨h1, h2, h3⟩
  · exact ⟨by have := hr.dp; show X.A.depth + 1 + 3 * 1 + 5 < _; omega, by have := hr.un; show X.A.units + 3 + 16 * 1 + 200 < _; omega⟩
  · refine ⟨Raised X.K T.r_GrainError Q, fun cls d σ' H' hR => ?_, rfl, hc, h⟩
    obtain ⟨em, wd, fs, v, er, fv, q1⟩ := hR
    refine ⟨true, em, fun _ a na hl => ?_, fun z => nomatch z⟩
    have at1 : (σ'.set 1 (some (V.ref a)))[1]? = some (some (V.ref a)) := by
      rw [List.getElem?_set_self hl]
    refine ⟨_, at1, er.read er.wd ?_⟩
    refine ⟨_, at1, wd, fs, v, rfl, er, fv, fun H2 s2 => ⟨by show 2 ≤ sizeLine; decide, fun p hp => q1 _ p (s2.trans (same_new hp)) upd_same⟩⟩
end
/-! ### calls of a def with a star parameter -/
section
variable {X : Cx}
theorem pe_callR {CX : CXT} {k : Nat} {f : Addr} {sp : Sp} {E : XK} {x : Str} {p pos : Pos} {e : Expr} {es : List Expr} {t : TA}
    (F : FnR X.prog X.w X.K X.mg X.base CX k f sp) (hr : Room k X.A) (hg : Gl X x) (hm : X.mg x = some (.ref f)) (hk : PySem.W.keepIn X.K (.ref f) = true) (hx : Passes CX X E) (ha : PA X (e :: es) t)
    (hdb : (x == ("__debug__" : Str)) = false := by decide) (he : starEach (e :: es) X.env = (false, eval e X.env) :: starEach es X.env := by rfl)
    (hpl : (backTo pos (starEach es X.env)).any (·.1) = false := by rfl) :
    PE X (.Call (.Name x p) (e :: es) [] pos) (fun σ H Q => t σ H fun vs H1 => sp vs H1 Q E) :=
  ⟨fun pins s σ H Q I h => wpAny_Call_Name_kw (ld_glob I hg hm (PySem.W.callWith_K (h₀ := X.base) I.ok.mod.kin hk
    (thn (ha.run pos pins s σ H _ I h) fun us s1 ⟨vs, H1, I1, r, q⟩ => ⟨I1.kIn, wpAny_call (run_fnR F hr hx I1 r q)⟩) he hpl) hdb)⟩
theorem pe_callR0 {CX : CXT} {k : Nat} {f : Addr} {sp : Sp} {E : XK} {x : Str} {p pos : Pos}
    (F : FnR X.prog X.w X.K X.mg X.base CX k f sp) (hr : Room k X.A) (hg : Gl X x) (hm : X.mg x = some (.ref f)) (hk : PySem.W.keepIn X.K (.ref f) = true) (hx : Passes CX X E)
    (hdb : (x == ("__debug__" : Str)) = false := by decide) : PE X (.Call (.Name x p) [] [] pos) (fun _ H Q => sp [] H Q E) :=
  ⟨fun pins s σ H Q I h => wpAny_Call_Name_kw (ld_glob I hg hm (PySem.W.callWith_K0 I.kIn hk (wpAny_call (run_fnR (us := []) F hr hx I .nil h))) hdb)⟩
end
/-! ### lists of ints that comprehensions make -/
def Pt (H : Hp) (D : Addr) (ns : List Int) (i : Nat) (H' : Hp) : Prop := Same H H' ∧ H' D = some (.lst ((ns.take i).map V.int))
theorem pt_step {H H' : Hp} {D : Addr} {ns : List Int} {i : Nat} {z : Int} (h : Pt H D ns i H') (hD : H D = none) (hz : ns[i]? = some z) : Pt H D ns (i + 1) (upd H' D (.lst ((ns.take i).map V.int ++ [.int z]))) := by
  refine ⟨fun a o e => (upd_ne (ne_of_none e hD)).trans (h.1 a o e), ?_⟩
  rw [upd_same, List.take_add_one, hz, List.map_append]
  rfl
theorem pt_size {ns : List Int} {i : Nat} (h : ns.length ≤ 1000) : ((ns.take i).map V.int).length < sizeLine := by
  rw [List.length_map, List.length_take]
  exact small1000 (by omega)
theorem pt_end {H H' : Hp} {D : Addr} {ns : List Int} {i : Nat} (h : Pt H D ns i H') (hi : ns.length ≤ i) : Same H H' ∧ H' D = some (.lst (ns.map V.int)) := by
  have := h.2
  rw [List.take_of_length_le hi] at this
  exact ⟨h.1, this⟩
/-! ### pairs -/
def PairAt (K : PySem.W.Frag) (H : Hp) (v : V) (x y : Int) : Prop := ∃ t : Addr, v = .ref t ∧ SqT K H t [.int x, .int y]
theorem PairAt.same {K : PySem.W.Frag} {H H' : Hp} {v : V} {x y : Int} (h : PairAt K H v x y) (s : Same H H') : PairAt K H' v x y := by
  obtain ⟨t, e, h⟩ := h
  exact ⟨t, e, Evl.ex_t (show Evl.Ex H H' from s) h⟩
inductive PairsAt (K : PySem.W.Frag) (H : Hp) : List V → List (Int × Int) → Prop
  | nil : PairsAt K H [] []
  | cons {v : V} {vs : List V} {x y : Int} {ps : List (Int × Int)} : PairAt K H v x y → PairsAt K H vs ps → PairsAt K H (v :: vs) ((x, y) :: ps)
theorem PairsAt.get {K : PySem.W.Frag} {H : Hp} : ∀ {vs : List V} {ps : List (Int × Int)}, PairsAt K H vs ps → ∀ {i : Nat} {v : V}, vs[i]? = some v → ∃ x y, ps[i]? = some (x, y) ∧ PairAt K H v x y := by
  intro vs ps h
  induction h with
  | nil =>
    intro i v h
    simp at h
  | cons p t ih =>
    intro i v h
    cases i with
    | zero =>
      cases h
      exact ⟨_, _, rfl, p⟩
    | succ i => exact ih (i := i) (by simpa using h)
theorem PairsAt.same {K : PySem.W.Frag} {H H' : Hp} (s : Same H H') : ∀ {vs : List V} {ps : List (Int × Int)}, PairsAt K H vs ps → PairsAt K H' vs ps := by
  intro vs ps h
  induction h with
  | nil => exact .nil
  | cons p t ih => exact .cons (p.same s) ih
theorem PairsAt.len {K : PySem.W.Frag} {H : Hp} : ∀ {vs : List V} {ps : List (Int × Int)}, PairsAt K H vs ps → vs.length = ps.length
  | _, _, .nil => rfl
  | _, _, .cons p t => congrArg Nat.succ t.len
def s1 (ps : List (Int × Int)) : Int := (ps.map (·.1)).sum
def s2 (ps : List (Int × Int)) : Int := (ps.map (·.2)).sum
/-- a new pair -/
def NewPair (H : Hp) (x y : Int) (Q : VK) : Prop := ∀ p H', H p = none → Same H H' → H' p = some (.tup [.int x, .int y]) → Q (.ref p) H'
/-! ### added -/
section
variable {base : Heap} {K : PySem.W.Frag} {mg : Str → Option Value} {P : Program} {w : World}
def spAdded (K : PySem.W.Frag) : Sp := fun vs H Q _ => ∃ ps : List (Int × Int), PairsAt K H vs ps ∧ ps.length ≤ 1000 ∧ NewPair H (s1 ps) (s2 ps) Q
def spAddedB (K : PySem.W.Frag) : Sp := fun vs H Q _ => ∃ (t : Addr) (xs : List V) (ps : List (Int × Int)), vs = [.ref t] ∧ H t = some (.tup xs) ∧ PairsAt K H xs ps ∧ ps.length ≤ 1000 ∧ NewPair H (s1 ps) (s2 ps) Q
theorem ok_added (T : Txt K mg) : FnR P w K mg base CX0 1 T.f_added (spAdded K) := by
  obtain ⟨o1, o2, v1, v2, v3, a1, v4, v5, sl1, e1, r1, r2⟩ := T.F_added.ex
  have r1' := r1
  rw [e1] at r1'
  refine FnR.imp (StX.fn_star (ps := []) (pv := "pairs") (sp := spAddedB K) (N := ["pairs", "a", "b"]) r1' r2 sc_added StX.cxUp_none ?_ ?_) ?_
  · intro us rest hu
    match us, rest, hu with
    | [], [], _ => rfl
    | [], _ :: _, _ => rfl
  · intro A outer s H vs Q E hr h
    obtain ⟨t, xs, ps, rfl, ht, hp, hn, q⟩ := h
    refine ⟨_, PSs.nox (pss_one (ps_ret (pe_tup (pa_cons (pe_callB (cr_sum rfl) (by rfl) T.n_sum (by decide +kernel) (pa_cons (pe_lc (own := [("a", 1), ("b", 2)]) (g := (gTup K 2 (gCons (gName 1) (gCons (gName 2) gNil)))) (tt := tYes) (by rfl) sc_added.nd (pi_tup (pv 0)) (blkOk_by (own := [("a", 1), ("b", 2)]) (N := ["pairs", "a", "b"]) (sc := defScope s_added) (by decide +kernel)) (fun _ _ _ _ _ => (pg_tup (by rfl) (pgs_cons (pg_name (i := 1) sc_added.nd rfl (Or.inl rfl)) (pgs_cons (pg_name (i := 2) sc_added.nd rfl (Or.inl rfl)) pgs_nil)))) (fun _ _ _ _ _ => pts_nil) (fun _ _ _ _ _ => (pv 1))) pa_nil)) (pa_cons (pe_callB (cr_sum rfl) (by rfl) T.n_sum (by decide +kernel) (pa_cons (pe_lc (own := [("a", 1), ("b", 2)]) (g := (gTup K 2 (gCons (gName 1) (gCons (gName 2) gNil)))) (tt := tYes) (by rfl) sc_added.nd (pi_tup (pv 0)) (blkOk_by (own := [("a", 1), ("b", 2)]) (N := ["pairs", "a", "b"]) (sc := defScope s_added) (by decide +kernel)) (fun _ _ _ _ _ => (pg_tup (by rfl) (pgs_cons (pg_name (i := 1) sc_added.nd rfl (Or.inl rfl)) (pgs_cons (pg_name (i := 2) sc_added.nd rfl (Or.inl rfl)) pgs_nil)))) (fun _ _ _ _ _ => pts_nil) (fun _ _ _ _ _ => (pv 2))) pa_nil)) pa_nil))))), ?_⟩
    have hl := hp.len
    refine ⟨_, rfl, t, rfl, ⟨_, SqT.of ht⟩, fun D hD => lc_tup (K := K) (a := t) (xs := xs) (Pt H D (ps.map (·.1))) ⟨same_new hD, upd_same⟩ (fun i H' _ h => SqT.of (h.1 _ _ ht)) (fun i x H' hx hP => ?_) (fun H1 hP => ?_)⟩
    · obtain ⟨c, e, hc, u, rfl, hu⟩ := hp.get hx
      refine ⟨u, _, rfl, Evl.ex_t (show Evl.Ex H H' from hP.1) hu, rfl, .int c, [.int e], rfl, .int e, [], rfl, rfl, rfl, ⟨_, rfl, _, hP.2, pt_size (by rw [List.length_map]; exact hn), pt_step hP hD ?_⟩⟩
      rw [List.getElem?_map, hc]
      rfl
    obtain ⟨e1, f1⟩ := pt_end hP (by rw [List.length_map]; omega)
    refine ⟨D, _, rfl, SqL.of f1, ?_⟩
    refine ⟨_, rfl, t, rfl, ⟨_, SqT.of (e1 _ _ ht)⟩, fun D2 hD2 => lc_tup (K := K) (a := t) (xs := xs) (Pt H1 D2 (ps.map (·.2))) ⟨same_new hD2, upd_same⟩ (fun i H' _ h => SqT.of (h.1 _ _ (e1 _ _ ht))) (fun i x H' hx hP => ?_) (fun H2 hP => ?_)⟩
    · obtain ⟨c, e, hc, u, rfl, hu⟩ := hp.get hx
      refine ⟨u, _, rfl, Evl.ex_t (show Evl.Ex H H' from e1.trans hP.1) hu, rfl, .int c, [.int e], rfl, .int e, [], rfl, rfl, rfl, ⟨_, rfl, _, hP.2, pt_size (by rw [List.length_map]; exact hn), pt_step hP hD2 ?_⟩⟩
      rw [List.getElem?_map, hc]
      rfl
    obtain ⟨e2, f2⟩ := pt_end hP (by rw [List.length_map]; omega)
    exact ⟨D2, _, rfl, SqL.of f2, by show 2 ≤ sizeLine; decide, fun p hp => q p _ ((e1.trans e2).free hp) ((e1.trans e2).trans (same_new hp)) upd_same⟩
  · rintro vs H Q E ⟨ps, hp, hl, q⟩
    refine ⟨[], vs, rfl, rfl, Nat.le_of_lt (small1000 (by rw [hp.len]; exact hl)), fun p hpn => ⟨p, vs, ps, rfl, upd_same, hp.same (same_new hpn), hl, fun p' H' hp' sm h' => ?_⟩⟩
    exact q p' H' ((same_new hpn).free hp') ((same_new hpn).trans sm) h'
end
/-! ### scaled -/
section
variable {base : Heap} {K : PySem.W.Frag} {mg : Str → Option Value} {P : Program} {w : World}
def spScaled (K : PySem.W.Frag) : Sp := fun vs H Q _ => ∃ (v : V) (x y n : Int), vs = [v, .int n] ∧ PairAt K H v x y ∧ x.natAbs < 2 ^ 9000 ∧ y.natAbs < 2 ^ 9000 ∧ n.natAbs < 2 ^ 9000 ∧ NewPair H (x * n) (y * n) Q
theorem ok_scaled (T : Txt K mg) : FnOk P w K mg base CX0 1 T.f_scaled T.d_scaled ["pair", "number"] (spScaled K) := by
  refine T.F_scaled.ok sc_scaled (fun vs H Q E h => ?_) (fun cdv A outer s H vs Q E hr h => ?_)
  · obtain ⟨v, x, y, n, rfl, _⟩ := h
    rfl
  · obtain ⟨v, x, y, n, rfl, ⟨t, rfl, ht⟩, x1, y1, n1, q⟩ := h
    refine ⟨_, (pss_cons (ps_asg (pv 0) (pg_tup (by rfl) (pgs_cons (pg_name (i := 2) sc_scaled.nd rfl (Or.inl rfl)) (pgs_cons (pg_name (i := 3) sc_scaled.nd rfl (Or.inl rfl)) pgs_nil))))
      (pss_one (ps_ret (pe_tup (pa_cons (pe_op op_mulW (pv 2) (pv 1)) (pa_cons (pe_op op_mulW (pv 3) (pv 1)) pa_nil)))))), ?_⟩
    refine ⟨_, rfl, t, _, rfl, ht, rfl, .int x, [.int y], rfl, .int y, [], rfl, rfl, ?_⟩
    exact ⟨_, rfl, _, rfl, x, n, rfl, rfl, wide_mul x1 n1 (by decide) (by decide) (by decide), _, rfl, _, rfl, y, n, rfl, rfl, wide_mul y1 n1 (by decide) (by decide) (by decide), by show 2 ≤ sizeLine; decide, fun p hp => q p _ hp (same_new hp) upd_same⟩
end
/-! ### bounds -/
def Bd (n : Nat) (xs : List Int) : Prop := ∀ x ∈ xs, x.natAbs < 2 ^ n
theorem bd_w {n m : Nat} {x : Int} (h : x.natAbs < 2 ^ n) (l : n ≤ m) : x.natAbs < 2 ^ m := Nat.lt_of_lt_of_le h (Nat.pow_le_pow_right (by decide) l)
theorem bd_a {n : Nat} {x y : Int} (h1 : x.natAbs < 2 ^ n) (h2 : y.natAbs < 2 ^ n) : (x + y).natAbs < 2 ^ (n + 1) := by
  rw [Nat.pow_succ]
  omega
/-! ### whole_root, floor_of -/
theorem bits_up {n : Int} (h : 0 ≤ n) : n < 2 ^ (Builtin.Int.intBits n) := by
  obtain ⟨m, rfl⟩ := Int.eq_ofNat_of_zero_le h
  have h1 : (m : Int).natAbs = m := rfl
  have h2 : m < 2 ^ (Builtin.Int.intBits (m : Int)) := by
    unfold Builtin.Int.intBits
    rw [h1]
    split
    · rename_i z
      have z' : m = 0 := by
        first
          | exact z
          | (have := z; simp at this; omega)
      subst z'
      decide
    · exact Nat.lt_log2_self
  have h3 : ((m : Nat) : Int) < ((2 ^ (Builtin.Int.intBits (m : Int)) : Nat) : Int) := by exact_mod_cast h2
  rw [Int.natCast_pow] at h3
  exact h3
theorem bits_le {n : Int} {k : Nat} (hk : 0 < k) (h : n.natAbs < 2 ^ k) : Builtin.Int.intBits n ≤ k := by
  have := PySem.Flt.log2_lt_of hk h
  unfold Builtin.Int.intBits
  split
  · omega
  · omega
theorem guess_up {n : Int} {k : Nat} (h : 0 ≤ n) (hk : Builtin.Int.intBits n ≤ 2 * k) : n < (1 * 2 ^ k + 1) * (1 * 2 ^ k + 1) := by
  have h1 := bits_up h
  have h2 : (2 : Int) ^ (Builtin.Int.intBits n) ≤ 2 ^ (2 * k) := by
    have : 2 ^ (Builtin.Int.intBits n) ≤ 2 ^ (2 * k) := Nat.pow_le_pow_right (by decide) hk
    exact_mod_cast this
  have h3 : (2 : Int) ^ (2 * k) = 2 ^ k * 2 ^ k := by
    rw [Nat.two_mul, Int.pow_add]
  have h4 : (0 : Int) ≤ 2 ^ k := by
    have : 0 ≤ (2 ^ k : Nat) := Nat.zero_le _
    exact_mod_cast this
  rw [h3] at h2
  generalize (2 : Int) ^ k = x at h2 h4 ⊢
  grind
section
variable {base : Heap} {K : PySem.W.Frag} {mg : Str → Option Value} {P : Program} {w : World}
def spWhole : Sp := fun vs H Q _ => ∃ n : Int, vs = [.int n] ∧ 0 ≤ n ∧ n.natAbs < 2 ^ 8000 ∧ ∀ g : Int, 0 ≤ g → g * g ≤ n → n < (g + 1) * (g + 1) → Q (.int g) H
def WRoot (n : Int) (H : Hp) (m : Nat) (σ : L2.St) (H' : Hp) : Prop := ∃ g : Int, σ = [some (.int n), some (.int g)] ∧ H' = H ∧ 0 ≤ g ∧ g.natAbs < 2 ^ 4002 ∧ n < (g + 1) * (g + 1) ∧ m = g.toNat
theorem ok_whole_root (T : Txt K mg) : FnOk P w K mg base CX0 1 T.f_whole_root T.d_whole_root ["number"] spWhole := by
  refine T.F_whole_root.ok sc_whole_root (fun vs H Q E h => ?_) (fun cdv A outer s H vs Q E hr h => ?_)
  · obtain ⟨n, rfl, _⟩ := h
    rfl
  · obtain ⟨n, rfl, n0, n1, q⟩ := h
    refine ⟨_, (pss_cons (ps_set (i := 1) sc_whole_root.nd rfl (Or.inl rfl) (pe_op op_shl pe_int (pe_op op_fdiv (pe_op op_add (pe_bits (pv 0)) pe_int) pe_int)))
      (pss_cons (ps_while PassesOwn.never (pt_cmpR op_gt (pe_op op_mulW (pv 1) (pv 1)) (pv 0) (nomark _)) (pss_one (ps_set (i := 1) sc_whole_root.nd rfl (Or.inl rfl) (pe_op op_fdiv (pe_op op_add (pv 1) (pe_op op_fdivW (pv 0) (pv 1))) pe_int))))
      (pss_one (ps_ret (pv 1))))), ?_⟩
    have hb := bits_le (by decide) n1
    have e1 : (((Builtin.Int.intBits n : Nat) : Int) + 1) / 2 = (((Builtin.Int.intBits n + 1) / 2 : Nat) : Int) := by omega
    have e2 : ((((Builtin.Int.intBits n : Nat) : Int) + 1) / 2).toNat = (Builtin.Int.intBits n + 1) / 2 := by rw [e1]; rfl
    refine ⟨_, rfl, n, rfl, _, 1, rfl, rfl, _, 2, rfl, rfl, ⟨by decide, by decide⟩, 1, _, rfl, rfl, ⟨by omega, by omega, by decide⟩, ?_⟩
    dsimp only
    rw [e2]
    refine ⟨WRoot n H, ⟨_, (1 * 2 ^ ((Builtin.Int.intBits n + 1) / 2)), rfl, rfl, ?_, ?_, guess_up n0 (by omega), rfl⟩, ?_⟩
    · have : 0 ≤ (2 ^ ((Builtin.Int.intBits n + 1) / 2) : Nat) := Nat.zero_le _
      have z : (0 : Int) ≤ 2 ^ ((Builtin.Int.intBits n + 1) / 2) := by exact_mod_cast this
      omega
    · rw [Int.one_mul, Int.natAbs_pow]
      exact Nat.pow_lt_pow_right (by decide) (by omega)
    · rintro m σ H' ⟨g, rfl, rfl, g0, g1, g2, rfl⟩
      refine ⟨_, rfl, _, rfl, g, g, rfl, rfl, wide_mul g1 g1 (by decide) (by decide) (by decide), _, rfl, _, n, rfl, rfl, _, rfl, ite2 (fun e => ?_) (fun e => ?_)⟩
      · have e' : n < g * g := of_decide_eq_true e
        have gp : 0 < g := by
          rcases Int.lt_or_le 0 g with z | z
          · exact z
          · have : g = 0 := by omega
            rw [this] at e'
            omega
        refine ⟨fun σ' H'' => ∃ m', m' < g.toNat ∧ WRoot n H' m' σ' H'', fun _ _ z => z, ?_⟩
        have d1 := newton_dn gp e'
        have d2 := newton_nn gp n0
        refine ⟨_, rfl, _, rfl, _, rfl, n, g, rfl, rfl, wide_div gp g1 (by decide) (by decide), g, _, rfl, rfl, _, 2, rfl, rfl, ⟨by decide, by decide⟩, ?_⟩
        exact ⟨_, by omega, (g + n / g) / 2, rfl, rfl, d2, Nat.lt_of_le_of_lt (by omega) g1, newton_up gp n0, rfl⟩
      · have e' : ¬ n < g * g := fun z => e (decide_eq_true z)
        exact ⟨_, rfl, q g g0 (by omega) g2⟩
def spFloor (K : PySem.W.Frag) : Sp := fun vs H Q _ => ∃ (t : Addr) (d a b : Int), vs = [.ref t, .int d] ∧ SqT K H t [.int a, .int b] ∧ 0 ≤ d ∧ d.natAbs < 2 ^ 64 ∧ b.natAbs < 2 ^ 1000 ∧
  ∀ g : Int, 0 ≤ g → g * g ≤ d * b * b → d * b * b < (g + 1) * (g + 1) → Q (.int (if b < 0 then a - g - 1 else a + g)) H
theorem ok_floor_of (T : Txt K mg) : FnOk P w K mg base CX0 2 T.f_floor_of T.d_floor_of ["pair", "root"] (spFloor K) := by
  refine T.F_floor_of.ok sc_floor_of (fun vs H Q E h => ?_) (fun cdv A outer s H vs Q E hr h => ?_)
  · obtain ⟨t, d, a, b, rfl, _⟩ := h
    rfl
  · obtain ⟨t, d, a, b, rfl, hT, d0, d1, b1, q⟩ := h
    refine ⟨_, (pss_cons (ps_asg (pv 0) (pg_tup (by rfl) (pgs_cons (pg_name (i := 3) sc_floor_of.nd rfl (Or.inl rfl)) (pgs_cons (pg_name (i := 4) sc_floor_of.nd rfl (Or.inl rfl)) pgs_nil))))
      (pss_cons (ps_set (i := 2) sc_floor_of.nd rfl (Or.inl rfl) (pe_call (ok_whole_root T) (hr.mono (by decide)) (by rfl) T.g_whole_root T.F_whole_root.kp T.b_whole_root .nil pass0 (pa_cons (pe_op op_mulW (pe_op op_mulW (pv 1) (pv 4)) (pv 4)) pa_nil)))
      (pss_cons (ps_if (pt_cmpR op_lt (pv 4) pe_int (nomark _)) (pss_one (ps_ret (pe_op op_sub (pe_op op_sub (pv 3) (pv 2)) pe_int))) pss_nil)
      (pss_one (ps_ret (pe_op op_add (pv 3) (pv 2))))))), ?_⟩
    have m1 : (d * b).natAbs < 2 ^ (64 + 1000) := wide_lt d1 b1
    have m2 : (d * b * b).natAbs < 2 ^ (64 + 1000 + 1000) := wide_lt m1 b1
    have nn : 0 ≤ d * b * b := by
      have := sq_nn b
      have z := Int.mul_nonneg d0 this
      rw [← Int.mul_assoc] at z
      exact z
    refine ⟨_, rfl, t, _, rfl, hT, rfl, .int a, [.int b], rfl, .int b, [], rfl, rfl, ?_⟩
    refine ⟨_, rfl, _, rfl, d, b, rfl, rfl, wide_mul d1 b1 (by decide) (by decide) (by decide), _, rfl, _, b, rfl, rfl, wide_mul m1 b1 (by decide) (by decide) (by decide), _, rfl, nn, Nat.lt_trans m2 (Nat.pow_lt_pow_right (by decide) (by decide)), fun g g0 g1 g2 => ?_⟩
    have Q1 := q g g0 g1 g2
    refine ⟨_, rfl, b, 0, rfl, rfl, _, rfl, ite2 (fun e => ?_) (fun e => ?_)⟩
    · rw [if_pos (of_decide_eq_true e)] at Q1
      exact ⟨_, rfl, _, rfl, a, g, rfl, rfl, _, 1, rfl, rfl, Q1⟩
    · rw [if_neg (fun z => e (decide_eq_true z))] at Q1
      exact ⟨_, rfl, _, rfl, a, g, rfl, rfl, Q1⟩
end
/-! ### a generator's frame when it is woken: the heap below it counts as the heap of its call -/
def cutH (h : Heap) (n : Nat) : Heap := { h with objs := h.objs.extract 0 n }
theorem cut_low {h : Heap} {n b : Nat} (hb : b < n) : (cutH h n).get? b = h.get? b := by
  have e : (h.objs.extract 0 n)[b]? = h.objs[b]? := by
    rw [Array.getElem?_extract]
    by_cases z : b < h.objs.size
    · rw [if_pos (by omega), Nat.zero_add]
    · rw [if_neg (by omega)]
      simp only [Array.getElem?_eq_none (show h.objs.size ≤ b by omega)]
  unfold Heap.get? cutH
  rw [e]
theorem cut_size {h : Heap} {n : Nat} (hn : n ≤ h.objs.size) : (cutH h n).objs.size = n := by
  show (h.objs.extract 0 n).size = n
  rw [Array.size_extract]
  omega
theorem cut_at {h : Heap} {n b : Nat} {o : Obj} (hn : n ≤ h.objs.size) (e : (cutH h n).get? b = some o) : b < n ∧ h.get? b = some o := by
  have l := Heap.lt_size e
  rw [cut_size hn] at l
  exact ⟨l, (cut_low l).symm.trans e⟩
/-- a tuple of two whole numbers -/
def PairIn (h : Heap) (x : Addr) (p q : Int) : Prop := ∃ its : List Value, Vals [.int p, .int q] its ∧ IsTup h x its.toArray
/-- what a generator knows of the heap when it is woken: its own pairs, and of all that is younger than its frame that it stays -/
def wokenH (L : Nat) (h : Heap) (T : List (Addr × Int × Int)) : Hp := fun b =>
  match h.get? b with
  | none => none
  | some o => match T.find? (fun p => p.1 == b) with
    | some p => some (.frz o (.tup [.int p.2.1, .int p.2.2]))
    | none => if L < b then some (.ext fun h' => h'.get? b = some o) else none
structure GEnv (env : Env) : Prop where
  kind : env.scope.kind = .function
  glob : env.globals = mainGlobals
  blt : env.builtins = builtinsNs
  frame : env.frame = some env.locals
  cells : env.cells = []
  loc : ∀ x k, env.kindOf x = some k → k ≠ .cell ∧ k ≠ .free
def gcx (P : Program) (w : World) (K : PySem.W.Frag) (mg : Str → Option Value) (base : Heap) (N : List Str) (env : Env) (A : Around) (outer : List Env) (s : Shared) (T : List (Addr × Int × Int)) : Cx where
  prog := P
  w := w
  K := K
  mg := mg
  base := base
  A := A.deeper env
  N := N
  s_0 := { s with heap := cutH s.heap env.locals }
  H_0 := fun b => if b < env.locals then wokenH env.locals s.heap T b else none
  env := env
  outer := outer
  stack := env :: outer
  ex := []
  fn := fun _ => true
  calm := true
  pn := []
  xe := fun _ _ => False
/-- what the generator's locals are, as they stand in its frame -/
def LocIs (env : Env) (N : List Str) (h : Heap) (σ : L2.St) : Prop := σ.length = N.length ∧ ∃ m, h.Ns env.locals m ∧ ∀ (i : Nat) (x : Str) (v : V), N[i]? = some x → σ[i]? = some (some v) → Vis env.scope x → ∃ u, RelV v u ∧ env.kindOf x = some .local ∧ m x = some u
/-- what is wanted of the state in which it is woken -/
structure WakeOk (K : PySem.W.Frag) (mg : Str → Option Value) (base : Heap) (env : Env) (outer : List Env) (T : List (Addr × Int × Int)) (s : Shared) : Prop where
  bare : AllBare s.gens
  bs : ∀ b o, base.get? b = some o → s.heap.get? b = some o
  bz : base.objs.size ≤ env.locals
  funs : s.heap.FunFrames base outer
  low : ∀ b ∈ frs outer, b < env.locals
  pairs : ∀ p ∈ T, p.1 ∉ frs outer ∧ base.get? p.1 = none ∧ PairIn s.heap p.1 p.2.1 p.2.2
section
variable {P : Program} {w : World} {K : PySem.W.Frag} {mg : Str → Option Value} {base : Heap} {N : List Str} {env : Env} {A : Around} {outer : List Env} {s : Shared} {T : List (Addr × Int × Int)} {σ : L2.St}
theorem pair_inj {h : Heap} {x : Addr} {p q p' q' : Int} (a : PairIn h x p q) (b : PairIn h x p' q') : p = p' ∧ q = q' := by
  obtain ⟨its, r, o, ho, _, n, hd⟩ := a
  obtain ⟨its', r', o', ho', _, n', hd'⟩ := b
  rw [ho] at ho'
  cases ho'
  rw [hd] at hd'
  injection hd' with e _
  have e2 : its = its' := by simpa using e
  subst e2
  cases r with
  | cons r1 t1 => cases t1 with
    | cons r2 t2 =>
      cases t2
      cases r' with
      | cons r1' t1' => cases t1' with
        | cons r2' t2' =>
          obtain ⟨_, rfl⟩ := r1
          obtain ⟨_, rfl⟩ := r2
          obtain ⟨_, e1⟩ := r1'
          obtain ⟨_, e2⟩ := r2'
          cases e1
          cases e2
          exact ⟨rfl, rfl⟩
theorem woken_pair {L : Nat} {h : Heap} {p : Addr × Int × Int} (hp : p ∈ T) (hT : ∀ p ∈ T, PairIn h p.1 p.2.1 p.2.2) : ∃ o, h.get? p.1 = some o ∧ wokenH L h T p.1 = some (.frz o (.tup [.int p.2.1, .int p.2.2])) := by
  obtain ⟨its, _, o, ho, _⟩ := hT p hp
  refine ⟨o, ho, ?_⟩
  unfold wokenH
  rw [ho]
  dsimp only
  cases hf : T.find? (fun q => q.1 == p.1) with
  | none =>
    have := List.find?_eq_none.mp hf p hp
    simp at this
  | some q =>
    have hb : q.1 = p.1 := by simpa using List.find?_some hf
    have hq := hT q (List.mem_of_find?_eq_some hf)
    rw [hb] at hq
    obtain ⟨e1, e2⟩ := pair_inj hq (hT p hp)
    dsimp only
    rw [e1, e2]
theorem woken_ok (hT : ∀ p ∈ T, PairIn s.heap p.1 p.2.1 p.2.2) (L : Nat) : HOk P w (wokenH L s.heap T) s.heap := by
  intro b u e
  unfold wokenH at e
  cases ho : s.heap.get? b with
  | none => rw [ho] at e; cases e
  | some o =>
    rw [ho] at e
    dsimp only at e
    cases hf : T.find? (fun p => p.1 == b) with
    | some p =>
      rw [hf] at e
      cases e
      have hb : p.1 = b := by simpa using List.find?_some hf
      obtain ⟨its, r, it⟩ := hT p (List.mem_of_find?_eq_some hf)
      rw [hb] at it
      exact ⟨ho, by show 2 ≤ sizeLine; decide, its, r, it⟩
    | none =>
      rw [hf] at e
      dsimp only at e
      split at e
      · cases e
        exact ⟨ho, ⟨o, ho⟩, fun h1 h2 q k => k _ q⟩
      · cases e
theorem pair_noL {L : Nat} {h : Heap} {m : Str → Option Value} {x : Addr} {p q : Int} (hn : h.Ns L m) (hp : PairIn h x p q) : x ≠ L := by
  rintro rfl
  obtain ⟨o, es, ep, ho, hd, _⟩ := hn
  obtain ⟨its, _, o', ho', _, n, hd'⟩ := hp
  rw [ho] at ho'
  cases ho'
  rw [hd] at hd'
  cases hd'
/-- it is woken: its frame's invariant, over the heap as it stands -/
theorem awake (E : GEnv env) (M : Mod K mg base) (hd : A.handled = none) (fr : A.frames = some outer) (W : WakeOk K mg base env outer T s) (hl : LocIs env N s.heap σ) : Inv (gcx P w K mg base N env A outer s T) [] σ (wokenH env.locals s.heap T) s := by
  obtain ⟨len, m, hn, look⟩ := hl
  have lt : env.locals ≤ s.heap.objs.size := Nat.le_of_lt hn.lt
  have noc : ∀ x c, env.cells.lookup x = some c → False := fun x c e => by
    rw [E.cells] at e
    cases e
  have low : ∀ {b o}, (cutH s.heap env.locals).get? b = some o → b < env.locals ∧ s.heap.get? b = some o := fun e => cut_at lt e
  have atL : wokenH env.locals s.heap T env.locals = none := by
    unfold wokenH
    obtain ⟨o, es, ep, ho, hd', _⟩ := id hn
    rw [ho]
    dsimp only
    cases hf : T.find? (fun p => p.1 == env.locals) with
    | some p =>
      have hb : p.1 = env.locals := by simpa using List.find?_some hf
      exact absurd hb (pair_noL hn (W.pairs p (List.mem_of_find?_eq_some hf)).2.2)
    | none =>
      dsimp only
      rw [if_neg (Nat.lt_irrefl _)]
  have atF : ∀ b ∈ frs outer, wokenH env.locals s.heap T b = none := fun b hb => by
    unfold wokenH
    cases ho : s.heap.get? b with
    | none => rfl
    | some o =>
      dsimp only
      cases hf : T.find? (fun p => p.1 == b) with
      | some p =>
        have hb' : p.1 = b := by simpa using List.find?_some hf
        exact absurd (hb' ▸ hb) (W.pairs p (List.mem_of_find?_eq_some hf)).1
      | none =>
        dsimp only
        rw [if_neg (Nat.not_lt.mpr (Nat.le_of_lt (W.low b hb)))]
  have funs : (cutH s.heap env.locals).FunFrames base outer := by
    have all : ∀ l : List Env, (∀ b ∈ frs l, b < env.locals) → s.heap.FunFrames base l → (cutH s.heap env.locals).FunFrames base l := by
      intro l
      induction l with
      | nil => exact fun _ _ => trivial
      | cons e r ih =>
        rintro hlow ⟨hk, ⟨L, o, hf, hb, ho, hdat⟩, hr⟩
        have cons : frs (e :: r) = L :: frs r := by
          show List.filterMap _ _ = _
          rw [List.filterMap_cons, hf]
          rfl
        rw [cons] at hlow
        exact ⟨hk, ⟨L, o, hf, hb, (cut_low (hlow L List.mem_cons_self)).trans ho, hdat⟩, ih (fun b hb => hlow b (List.mem_cons_of_mem _ hb)) hr⟩
    exact all outer W.low W.funs
  have bsl : ∀ b o, base.get? b = some o → b < env.locals := fun b o e => Nat.lt_of_lt_of_le (Heap.lt_size e) W.bz
  have bsn : ∀ b o, base.get? b = some o → wokenH env.locals s.heap T b = none := fun b o e => by
    unfold wokenH
    rw [W.bs b o e]
    dsimp only
    cases hf : T.find? (fun p => p.1 == b) with
    | some p =>
      have hb : p.1 = b := by simpa using List.find?_some hf
      have z := (W.pairs p (List.mem_of_find?_eq_some hf)).2.1
      rw [hb, e] at z
      cases z
    | none =>
      dsimp only
      rw [if_neg (Nat.not_lt.mpr (Nat.le_of_lt (bsl b o e)))]
  have h0 : ∀ b, b < env.locals → (gcx P w K mg base N env A outer s T).H_0 b = wokenH env.locals s.heap T b := fun b hb => if_pos hb
  have h0s : ∀ {b u}, (gcx P w K mg base N env A outer s T).H_0 b = some u → wokenH env.locals s.heap T b = some u := fun {b u} e => by
    by_cases hb : b < env.locals
    · exact (h0 b hb).symm.trans e
    · rw [show (gcx P w K mg base N env A outer s T).H_0 b = none from if_neg hb] at e
      cases e
  have okX : (gcx P w K mg base N env A outer s T).Ok := by
    refine ⟨M, E.kind, E.glob, E.blt, Nat.le_of_eq (cut_size lt), fun x y c e => (noc x c e).elim, fun x hx => ?_, fun x c _ e => (noc x c e).elim, fun _ => hd, Around.frames_deeper fr, .inr ⟨rfl, E.frame⟩, fun b z => (nomatch z), fun b o e => ⟨(cut_low (bsl b o e)).trans (W.bs b o e), (h0 b (bsl b o e)).trans (bsn b o e)⟩, ?_, fun b _ _ z => (nomatch z), fun b z => (nomatch z), funs, fun b hb => (h0 b (W.low b hb)).trans (atF b hb)⟩
    · rcases hx with hx | hx
      · exact absurd rfl (E.loc x _ hx).1
      · exact absurd rfl (E.loc x _ hx).2
    · show base.objs.size ≤ (cutH s.heap env.locals).objs.size
      rw [cut_size lt]
      exact W.bz
  refine ⟨okX, rfl, W.bare, ⟨fun b o e _ _ _ => (low e).2, fun b o e _ _ _ => ⟨o.slots, (low e).2⟩, fun b o e z _ => (h0 b (low e).1).symm.trans z, fun b o e _ => ⟨o, (low e).2⟩, fun b xs e => h0s e, fun b o u e => h0s e, fun b ps e => ⟨#[], by rw [h0s e]; simp⟩⟩,
    ⟨m, hn, fun i x v e1 e2 e3 => ?_⟩, fun x c e => (noc x c e).elim, atL, fun x c e => (noc x c e).elim, fun p hp => by simp [gcx] at hp, woken_ok (fun p hp => (W.pairs p hp).2.2) _, len⟩
  obtain ⟨u, r, k, e⟩ := look i x v e1 e2 e3
  exact ⟨u, r, .inl ⟨k, e⟩⟩
/-- what a run between two yields leaves as it was -/
structure Stays (L : Addr) (fs : List Addr) (h h' : Heap) : Prop where
  keep : ∀ b o, h.get? b = some o → b ≠ L → b ∉ fs → h'.get? b = some o
  slot : ∀ b o, h.get? b = some o → b ≠ L → b ∈ fs → ∃ sl, h'.get? b = some { o with slots := sl }
theorem stays_of {pins : List (Addr × Obj)} {σ' : L2.St} {H' : Hp} {s' : Shared} (lt : env.locals ≤ s.heap.objs.size) (hT : ∀ p ∈ T, PairIn s.heap p.1 p.2.1 p.2.2) (I : Inv (gcx P w K mg base N env A outer s T) pins σ' H' s') (sm : Same (wokenH env.locals s.heap T) H') : Stays env.locals (frs outer) s.heap s'.heap := by
  have known : ∀ b o, s.heap.get? b = some o → b ∉ frs outer → b ≠ env.locals → (b < env.locals ∧ wokenH env.locals s.heap T b = none) ∨ s'.heap.get? b = some o := fun b o e _ ne => by
    cases hw : wokenH env.locals s.heap T b with
    | some u =>
      have z := I.hok b u (sm _ _ hw)
      unfold wokenH at hw
      rw [e] at hw
      dsimp only at hw
      cases hf : T.find? (fun p => p.1 == b) with
      | some p =>
        rw [hf] at hw
        cases hw
        exact .inr z.1
      | none =>
        rw [hf] at hw
        dsimp only at hw
        split at hw
        · cases hw
          exact .inr z.1
        · cases hw
    | none =>
      refine .inl ⟨?_, rfl⟩
      unfold wokenH at hw
      rw [e] at hw
      dsimp only at hw
      cases hf : T.find? (fun p => p.1 == b) with
      | some p => rw [hf] at hw; cases hw
      | none =>
        rw [hf] at hw
        dsimp only at hw
        split at hw
        · cases hw
        · rename_i q
          have q : ¬ env.locals < b := q
          have : (b : Nat) ≠ env.locals := ne
          exact Nat.lt_of_le_of_ne (Nat.not_lt.mp q) this
  refine ⟨fun b o e ne nf => ?_, fun b o e ne hf => ?_⟩
  · rcases known b o e nf ne with ⟨l, z⟩ | z
    · exact I.base.keep b o ((cut_low l).trans e) ((if_pos l).trans z) nf (fun q => nomatch q)
    · exact z
  · have hs := I.ok.funs.mem hf
    obtain ⟨_, o', ho', _⟩ := hs
    have l := (cut_at lt ho').1
    exact I.base.slot b o ((cut_low l).trans e) (I.ok.frf b hf) hf (fun q => nomatch q)
/-- a pair that was made in such a run stands where nothing stood -/
theorem made_new {pins : List (Addr × Obj)} {σ' : L2.St} {H1 H' : Hp} {s' : Shared} {x : Addr} {p q : Int} (lt : env.locals ≤ s.heap.objs.size) (I : Inv (gcx P w K mg base N env A outer s T) pins σ' H' s') (sm : Same (wokenH env.locals s.heap T) H1) (n : H1 x = none) (e : H' x = some (.tup [.int p, .int q])) : s.heap.get? x = none ∧ PairIn s'.heap x p q := by
  refine ⟨?_, (I.hok x _ e).2⟩
  cases ho : s.heap.get? x with
  | none => rfl
  | some o =>
    exfalso
    have hw : wokenH env.locals s.heap T x = none := by
      cases z : wokenH env.locals s.heap T x with
      | none => rfl
      | some u =>
        rw [sm _ _ z] at n
        cases n
    have nl : x ≠ env.locals := fun z => by
      rw [z] at e
      have z2 := I.free
      rw [show (gcx P w K mg base N env A outer s T).env.locals = env.locals from rfl, e] at z2
      cases z2
    have lx : x < env.locals := by
      have hw' := hw
      unfold wokenH at hw'
      rw [ho] at hw'
      dsimp only at hw'
      cases hf : T.find? (fun p => p.1 == x) with
      | some p => rw [hf] at hw'; cases hw'
      | none =>
        rw [hf] at hw'
        dsimp only at hw'
        split at hw'
        · cases hw'
        · rename_i q
          have q : ¬ env.locals < x := q
          have nl' : (x : Nat) ≠ env.locals := nl
          exact Nat.lt_of_le_of_ne (Nat.not_lt.mp q) nl'
    have z := I.base.free x o ((cut_low lx).trans ho) ((if_pos lx).trans hw) (fun q => nomatch q)
    rw [e] at z
    cases z
theorem WakeOk.new (W : WakeOk K mg base env outer T s) {x : Addr} (n : s.heap.get? x = none) : x ∉ frs outer ∧ base.get? x = none := by
  refine ⟨fun hx => ?_, ?_⟩
  · obtain ⟨_, o, ho, _⟩ := W.funs.mem hx
    rw [n] at ho
    cases ho
  · cases hb : base.get? x with
    | none => rfl
    | some o =>
      rw [W.bs x o hb] at n
      cases n
theorem after_run {pins : List (Addr × Obj)} {σ' : L2.St} {H' : Hp} {s' : Shared} {T' : List (Addr × Int × Int)} (E : GEnv env) (W : WakeOk K mg base env outer T s) (I : Inv (gcx P w K mg base N env A outer s T) pins σ' H' s')
    (hp : ∀ p ∈ T', p.1 ∉ frs outer ∧ base.get? p.1 = none ∧ PairIn s'.heap p.1 p.2.1 p.2.2) : WakeOk K mg base env outer T' s' ∧ LocIs env N s'.heap σ' := by
  refine ⟨⟨I.bare, I.bk, W.bz, I.funs, W.low, hp⟩, I.len, ?_⟩
  obtain ⟨m, hn, look⟩ := I.loc
  refine ⟨m, hn, fun i x v e1 e2 e3 => ?_⟩
  obtain ⟨u, r, z⟩ := look i x v e1 e2 e3
  refine ⟨u, r, ?_⟩
  rcases z with z | ⟨z, _⟩
  · exact z
  · rcases z with z | z
    · exact absurd rfl (E.loc x _ z).1
    · exact absurd rfl (E.loc x _ z).2
end
/-! ### the continued fraction of a root: its numbers, its fractions -/
/-- m, t, k ahead of the i-th turn -/
def cfS (r w : Int) : Nat → Int × Int × Int
  | 0 => (0, 1, w)
  | i + 1 => ((cfS r w i).2.1 * (cfS r w i).2.2 - (cfS r w i).1, (r - ((cfS r w i).2.1 * (cfS r w i).2.2 - (cfS r w i).1) * ((cfS r w i).2.1 * (cfS r w i).2.2 - (cfS r w i).1)) / (cfS r w i).2.1,
      (w + ((cfS r w i).2.1 * (cfS r w i).2.2 - (cfS r w i).1)) / ((r - ((cfS r w i).2.1 * (cfS r w i).2.2 - (cfS r w i).1) * ((cfS r w i).2.1 * (cfS r w i).2.2 - (cfS r w i).1)) / (cfS r w i).2.1))
/-- the last two fractions ahead of the i-th turn -/
def cfR (r w : Int) : Nat → (Int × Int) × (Int × Int)
  | 0 => ((1, 0), (0, 1))
  | i + 1 => (((cfR r w i).1.1 * (cfS r w i).2.2 + (cfR r w i).2.1, (cfR r w i).1.2 * (cfS r w i).2.2 + (cfR r w i).2.2), (cfR r w i).1)
/-- the i-th fraction -/
def cfF (r w : Int) (i : Nat) : Int × Int := (cfR r w (i + 1)).1
theorem cfR_two (r w : Int) (i : Nat) : cfR r w (i + 2) = (cfF r w (i + 1), cfF r w i) := rfl
def isW (r w : Int) : Prop := 0 ≤ w ∧ w * w < r ∧ r < (w + 1) * (w + 1)
/-- what holds of m, t from the first turn on -/
def cfGood (r w m t : Int) : Bool := decide (1 ≤ m ∧ m ≤ w ∧ 1 ≤ t ∧ w - m < t ∧ t ≤ w + m ∧ (r - m * m) % t = 0 ∧ 1 ≤ (r - m * m) / t ∧ t < (r - m * m) / t + 2 * m)
def cfNext (r w m t : Int) : Bool :=
  let m' := t * ((w + m) / t) - m
  cfGood r w m' ((r - m' * m') / t)
def cfAll : Bool := (List.range 98).all fun r0 => (List.range 10).all fun w => !decide ((w * w : Int) < (r0 + 2 : Int) ∧ (r0 + 2 : Int) < ((w : Int) + 1) * (w + 1)) ||
  (cfGood (r0 + 2) w w (r0 + 2 - w * w) && (List.range 10).all fun m => (List.range 20).all fun t => !cfGood (r0 + 2) w m t || cfNext (r0 + 2) w m t)
theorem cf_all : cfAll = true := by decide +kernel
theorem cf_root {r w : Int} (h2 : 2 ≤ r) (h99 : r ≤ 99) (hw : isW r w) : cfGood r w w (r - w * w) = true ∧ ∀ m t, cfGood r w m t = true → cfNext r w m t = true := by
  obtain ⟨w0, w1, w2⟩ := hw
  have w9 : w ≤ 9 := by
    rcases Int.lt_or_le 9 w with z | z
    · have := Int.mul_le_mul (show (10 : Int) ≤ w by omega) (show (10 : Int) ≤ w by omega) (by decide) (by omega)
      omega
    · exact z
  have A := cf_all
  unfold cfAll at A
  have A1 := List.all_eq_true.mp A (r - 2).toNat (List.mem_range.mpr (by omega))
  have A2 := List.all_eq_true.mp A1 w.toNat (List.mem_range.mpr (by omega))
  have er : (((r - 2).toNat : Nat) : Int) + 2 = r := by omega
  have ew : ((w.toNat : Nat) : Int) = w := by omega
  rw [er, ew] at A2
  rw [show decide (w * w < r ∧ r < (w + 1) * (w + 1)) = true from decide_eq_true ⟨w1, w2⟩, Bool.not_true, Bool.false_or, Bool.and_eq_true] at A2
  refine ⟨A2.1, fun m t g => ?_⟩
  obtain ⟨m1, m2, t1, t2, t3, _⟩ := of_decide_eq_true g
  have B1 := List.all_eq_true.mp A2.2 m.toNat (List.mem_range.mpr (by omega))
  have B2 := List.all_eq_true.mp B1 t.toNat (List.mem_range.mpr (by omega))
  have em : ((m.toNat : Nat) : Int) = m := by omega
  have et : ((t.toNat : Nat) : Int) = t := by omega
  rw [em, et, g, Bool.not_true, Bool.false_or] at B2
  exact B2
section
variable {r w : Int}
theorem cf_good (h2 : 2 ≤ r) (h99 : r ≤ 99) (hw : isW r w) : ∀ i, cfGood r w (cfS r w (i + 1)).1 (cfS r w (i + 1)).2.1 = true ∧ (cfS r w (i + 1)).2.2 = (w + (cfS r w (i + 1)).1) / (cfS r w (i + 1)).2.1
  | 0 => by
    refine ⟨?_, rfl⟩
    have g := (cf_root h2 h99 hw).1
    have e1 : (cfS r w 1).1 = w := by
      show 1 * w - 0 = w
      omega
    have e2 : (cfS r w 1).2.1 = r - w * w := by
      show (r - (1 * w - 0) * (1 * w - 0)) / 1 = _
      rw [Int.ediv_one, Int.one_mul, Int.sub_zero]
    rw [e1, e2]
    exact g
  | i + 1 => by
    refine ⟨?_, rfl⟩
    obtain ⟨g, e⟩ := cf_good h2 h99 hw i
    have n := (cf_root h2 h99 hw).2 _ _ g
    unfold cfNext at n
    rw [← e] at n
    exact n
/-- of every turn -/
theorem cf_num (h2 : 2 ≤ r) (h99 : r ≤ 99) (hw : isW r w) (i : Nat) : 0 ≤ (cfS r w i).1 ∧ (cfS r w i).1 ≤ 9 ∧ 1 ≤ (cfS r w i).2.1 ∧ (cfS r w i).2.1 ≤ 99 ∧ 1 ≤ (cfS r w i).2.2 ∧ (cfS r w i).2.2 ≤ 18 := by
  obtain ⟨w0, w1, w2⟩ := id hw
  have w9 : w ≤ 9 := by
    rcases Int.lt_or_le 9 w with z | z
    · have := Int.mul_le_mul (show (10 : Int) ≤ w by omega) (show (10 : Int) ≤ w by omega) (by decide) (by omega)
      omega
    · exact z
  have wp : 1 ≤ w := by
    rcases Int.lt_or_le w 1 with z | z
    · have : w = 0 := by omega
      subst this
      omega
    · exact z
  cases i with
  | zero => exact ⟨show (0 : Int) ≤ 0 by decide, show (0 : Int) ≤ 9 by decide, show (1 : Int) ≤ 1 by decide, show (1 : Int) ≤ 99 by decide, wp, show w ≤ 18 by omega⟩
  | succ i =>
    obtain ⟨g, e⟩ := cf_good h2 h99 hw i
    obtain ⟨m1, m2, t1, t2, t3, _⟩ := of_decide_eq_true g
    rw [e]
    generalize (cfS r w (i + 1)).1 = m at *
    generalize (cfS r w (i + 1)).2.1 = t at *
    have k1 : 1 ≤ (w + m) / t := by
      have := Int.ediv_le_ediv (show 0 < t by omega) t3
      rw [Int.ediv_self (by omega)] at this
      exact this
    have k2 : (w + m) / t ≤ w + m := Int.ediv_le_self _ (by omega)
    exact ⟨by omega, by omega, t1, by omega, k1, by omega⟩
/-- how great they become -/
theorem cf_bound (h2 : 2 ≤ r) (h99 : r ≤ 99) (hw : isW r w) : ∀ i, (0 ≤ (cfR r w i).1.1 ∧ 0 ≤ (cfR r w i).1.2 ∧ 0 ≤ (cfR r w i).2.1 ∧ 0 ≤ (cfR r w i).2.2) ∧ ((cfR r w i).1.1 < 2 ^ (5 * i + 1) ∧ (cfR r w i).1.2 < 2 ^ (5 * i + 1) ∧ (cfR r w i).2.1 < 2 ^ (5 * i + 1) ∧ (cfR r w i).2.2 < 2 ^ (5 * i + 1))
  | 0 => ⟨⟨show (0 : Int) ≤ 1 by decide, show (0 : Int) ≤ 0 by decide, show (0 : Int) ≤ 0 by decide, show (0 : Int) ≤ 1 by decide⟩, show (1 : Int) < 2 ^ 1 by decide, show (0 : Int) < 2 ^ 1 by decide, show (0 : Int) < 2 ^ 1 by decide, show (1 : Int) < 2 ^ 1 by decide⟩
  | i + 1 => by
    obtain ⟨⟨a, b, c, d⟩, a', b', c', d'⟩ := cf_bound h2 h99 hw i
    obtain ⟨_, _, _, _, k1, k2⟩ := cf_num h2 h99 hw i
    have e : (2 : Int) ^ (5 * (i + 1) + 1) = 2 ^ (5 * i + 1) * 32 := by
      rw [show 5 * (i + 1) + 1 = (5 * i + 1) + 5 by omega, Int.pow_add]
      rfl
    show (0 ≤ (cfR r w i).1.1 * (cfS r w i).2.2 + (cfR r w i).2.1 ∧ 0 ≤ (cfR r w i).1.2 * (cfS r w i).2.2 + (cfR r w i).2.2 ∧ 0 ≤ (cfR r w i).1.1 ∧ 0 ≤ (cfR r w i).1.2) ∧ ((cfR r w i).1.1 * (cfS r w i).2.2 + (cfR r w i).2.1 < _ ∧ (cfR r w i).1.2 * (cfS r w i).2.2 + (cfR r w i).2.2 < _ ∧ (cfR r w i).1.1 < _ ∧ (cfR r w i).1.2 < _)
    rw [e]
    generalize (2 : Int) ^ (5 * i + 1) = B at *
    generalize (cfS r w i).2.2 = k at *
    generalize (cfR r w i).1.1 = x at *
    generalize (cfR r w i).1.2 = y at *
    have u1 : x * k ≤ x * 18 := Int.mul_le_mul_of_nonneg_left k2 a
    have u2 : y * k ≤ y * 18 := Int.mul_le_mul_of_nonneg_left k2 b
    have l1 : 0 ≤ x * k := Int.mul_nonneg a (by omega)
    have l2 : 0 ≤ y * k := Int.mul_nonneg b (by omega)
    exact ⟨⟨by omega, by omega, a, b⟩, by omega, by omega, by omega, by omega⟩
end
/-! ### a generator that is walked within another one's turns: endless_fractions -/
/-- what whoever walks a generator may do while it sleeps -/
structure Between (base : Heap) (outer : List Env) (L : Addr) (s s' : Shared) : Prop where
  bare : AllBare s'.gens
  frame : ∀ o, s.heap.get? L = some o → s'.heap.get? L = some o
  pairs : ∀ x p q, PairIn s.heap x p q → PairIn s'.heap x p q
  bs : ∀ b o, base.get? b = some o → s'.heap.get? b = some o
  funs : s'.heap.FunFrames base outer
theorem Stays.refl {L : Addr} {fs : List Addr} {h : Heap} : Stays L fs h h := ⟨fun _ _ e _ _ => e, fun _ o e _ _ => ⟨o.slots, e⟩⟩
theorem Stays.trans {L : Addr} {fs : List Addr} {h h1 h2 : Heap} (a : Stays L fs h h1) (b : Stays L fs h1 h2) : Stays L fs h h2 := ⟨fun x o e n f => b.keep x o (a.keep x o e n f) n f, fun x o e n f => by
  obtain ⟨sl, e1⟩ := a.slot x o e n f
  obtain ⟨sl', e2⟩ := b.slot x _ e1 n f
  exact ⟨sl', e2⟩⟩
theorem Stays.pair {L : Addr} {fs : List Addr} {h h' : Heap} {x : Addr} {p q : Int} (a : Stays L fs h h') (n : x ≠ L) (e : PairIn h x p q) : PairIn h' x p q := by
  obtain ⟨its, r, o, ho, hc, m, hd⟩ := e
  by_cases f : x ∈ fs
  · obtain ⟨sl, e⟩ := a.slot x o ho n f
    exact ⟨its, r, _, e, hc, m, hd⟩
  · exact ⟨its, r, o, a.keep x o ho n f, hc, m, hd⟩
/-- the i-th of its items is handed out, n more may be asked for -/
def YPair (base : Heap) (outer : List Env) (L : Addr) (F : Nat → Int × Int) (N : Nat) : Protocol := fun n s₀ v s1 kap =>
  s1.os = s₀.os ∧ AllBare s1.gens ∧ Stays L (frs outer) s₀.heap s1.heap ∧ (∃ m, s1.heap.Ns L m) ∧ (∃ x, v = .ref x ∧ s₀.heap.get? x = none ∧ PairIn s1.heap x (F (N - n)).1 (F (N - n)).2) ∧ ∀ s', Between base outer L s1 s' → n = 0 ∨ kap (.send .none) s'
/-- it never ends -/
def RNever : GenEnd := fun _ _ _ _ => False
section
variable {base : Heap} {K : PySem.W.Frag} {mg : Str → Option Value} {P : Program} {w : World}
abbrev envE (L f : Addr) (cd : Value) : Env := envOfC "endless_fractions" (defScope s_endless_fractions) L f cd
theorem genv_e (L f : Addr) (cd : Value) : GEnv (envE L f cd) where
  kind := rfl
  glob := rfl
  blt := rfl
  frame := rfl
  cells := by kernel_rfl
  loc := fun x k e => (show ∀ y ∈ (defScope s_endless_fractions).names, y.2 ≠ .cell ∧ y.2 ≠ .free by decide +kernel) (x, k) (PySem.mem_of_lookup e)
def nthS (l : List Stmt) (i : Nat) : Stmt := l.getD i (.Pass ⟨0, 0, 0, 0⟩)
def wTest : Stmt → Expr
  | .While t _ _ _ => t
  | _ => .Name "" ⟨0, 0, 0, 0⟩
def wBody : Stmt → List Stmt
  | .While _ b _ _ => b
  | _ => []
def wPos : Stmt → Pos
  | .While _ _ _ p => p
  | _ => ⟨0, 0, 0, 0⟩
abbrev wE : Stmt := nthS (defBody s_endless_fractions) 3
abbrev tstE : Expr := wTest wE
abbrev bodE : List Stmt := wBody wE
theorem body_e : defBody s_endless_fractions = [nthS (defBody s_endless_fractions) 0, nthS (defBody s_endless_fractions) 1, nthS (defBody s_endless_fractions) 2, .While tstE bodE [] (wPos wE)] := rfl
def yExp : Stmt → Expr
  | .Expr (.Yield (some e) _) _ => e
  | _ => .Name "" ⟨0, 0, 0, 0⟩
def yPos : Stmt → Pos × Pos
  | .Expr (.Yield _ p) q => (p, q)
  | _ => (⟨0, 0, 0, 0⟩, ⟨0, 0, 0, 0⟩)
abbrev yE : Expr := yExp (nthS bodE 1)
theorem bod_e : bodE = [nthS bodE 0, .Expr (.Yield (some yE) (yPos (nthS bodE 1)).1) (yPos (nthS bodE 1)).2, nthS bodE 2, nthS bodE 3, nthS bodE 4] := rfl
abbrev nmE : List Str := ["root", "whole", "m", "t", "k", "last", "before"]
/-- the locals: root, whole, m, t, k, last, before -/
def sigE (r w m t k : Int) (lx bx : Addr) : L2.St := [some (.int r), some (.int w), some (.int m), some (.int t), some (.int k), some (.ref lx), some (.ref bx)]
theorem seg_cons_at {M : Model} {A : Around} {R : GenEnd} {Y : Protocol} {n : Nat} {s₀ s : Shared} {c : Code} {fs : List Frame} {env : Env} {KK : Flow → Sem PySem.Fin} {J : Value → Sem PySem.Fin} {g : Bool → Bool} {lv : List Value → List Value} {sts rest : List Stmt} {st : Stmt} (e : sts = st :: rest)
    (h : Seg M A R Y n s₀ c ((exec st env).wrap (fun f => match f with | .next => (execs rest env).wrap KK J g lv | f => KK f) J g lv) fs s) : Seg M A R Y n s₀ c ((execs sts env).wrap KK J g lv) fs s := by
  rw [e]
  exact seg_execs_cons h
theorem two5000 {x : Int} {i : Nat} (h0 : 0 ≤ x) (h : x < 2 ^ (5 * i + 1)) (hi : i ≤ 1000) : x.natAbs < 2 ^ 9000 := by
  have e : x.natAbs < 2 ^ (5 * i + 1) := by
    have : ((x.natAbs : Nat) : Int) < ((2 ^ (5 * i + 1) : Nat) : Int) := by
      rw [Int.natAbs_of_nonneg h0, Int.natCast_pow]
      exact h
    exact_mod_cast this
  exact Nat.lt_of_lt_of_le e (Nat.pow_le_pow_right (by decide) (by omega))
section
variable {A : Around} {outer : List Env} {L f : Addr} {cd : Value} {r v : Int} {N : Nat} {fs : List Frame}
abbrev SegE (P : Program) (w : World) (base : Heap) (A : Around) (outer : List Env) (L f : Addr) (cd : Value) (r v : Int) (N n : Nat) (fs : List Frame) (s₀ s : Shared) : Prop :=
  Seg (model P w) A RNever (YPair base outer L (cfF r v) N) n s₀ (.whileLoop tstE bodE [] (envE L f cd)) ((model P w).den (.whileLoop tstE bodE [] (envE L f cd))) fs s
/-- one turn: a fraction is made and handed out -/
theorem turn_one (T : Txt K mg) (M : Mod K mg base) (hr : Room 4 (A.deeper (envE L f cd))) (hd : A.handled = none) (fr : A.frames = some outer) (r2 : 2 ≤ r) (r99 : r ≤ 99) (hw : isW r v) (small : N ≤ 1000)
    (ov : A.over (.whileLoop tstE bodE [] (envE L f cd)) fs = A.deeper (envE L f cd)) (sp : splitAtGen fs = none) (gd : fs.any Frame.guarded = false) (n i : Nat) (hi : i + n = N)
    (next : ∀ (s₀ s : Shared) (lx bx : Addr), WakeOk K mg base (envE L f cd) outer [(lx, (cfR r v (i + 1)).1), (bx, (cfR r v (i + 1)).2)] s → LocIs (envE L f cd) nmE s.heap (sigE r v (cfS r v (i + 1)).1 (cfS r v (i + 1)).2.1 (cfS r v (i + 1)).2.2 lx bx) → s.os = s₀.os → Stays L (frs outer) s₀.heap s.heap → n = 0 ∨ SegE P w base A outer L f cd r v N n fs s₀ s)
    (s₀ s : Shared) (lx bx : Addr) (W : WakeOk K mg base (envE L f cd) outer [(lx, (cfR r v i).1), (bx, (cfR r v i).2)] s) (hl : LocIs (envE L f cd) nmE s.heap (sigE r v (cfS r v i).1 (cfS r v i).2.1 (cfS r v i).2.2 lx bx)) (os : s.os = s₀.os) (st : Stays L (frs outer) s₀.heap s.heap) :
    SegE P w base A outer L f cd r v N (n + 1) fs s₀ s := by
  have E := genv_e L f cd
  have hi1000 : i ≤ 1000 := by omega
  obtain ⟨⟨b1, b2, b3, b4⟩, c1, c2, c3, c4⟩ := cf_bound r2 r99 hw i
  obtain ⟨m1, m2, t1, t2, k1, k2⟩ := cf_num r2 r99 hw i
  obtain ⟨m1', m2', t1', t2', k1', k2'⟩ := cf_num r2 r99 hw (i + 1)
  obtain ⟨v0, v1, v2⟩ := id hw
  have v9 : v ≤ 9 := by
    rcases Int.lt_or_le 9 v with z | z
    · have := Int.mul_le_mul (show (10 : Int) ≤ v by omega) (show (10 : Int) ≤ v by omega) (by decide) (by omega)
      omega
    · exact z
  have I := awake (P := P) (w := w) (A := A) E M hd fr W hl
  have lt : L ≤ s.heap.objs.size := by
    obtain ⟨_, m, hn, _⟩ := hl
    exact Nat.le_of_lt hn.lt
  obtain ⟨ol, hol, wl⟩ := woken_pair (L := L) (p := (lx, (cfR r v i).1)) (List.mem_cons_self) (fun p hp => (W.pairs p hp).2.2)
  obtain ⟨ob, hob, wb⟩ := woken_pair (L := L) (p := (bx, (cfR r v i).2)) (List.mem_cons_of_mem _ List.mem_cons_self) (fun p hp => (W.pairs p hp).2.2)
  have lp := (W.pairs (lx, (cfR r v i).1) List.mem_cons_self).2.2
  have ln := (W.pairs (lx, (cfR r v i).1) List.mem_cons_self)
  generalize hT : [(lx, (cfR r v i).1), (bx, (cfR r v i).2)] = TT at *
  have hTT : ∀ p ∈ TT, PairIn s.heap p.1 p.2.1 p.2.2 := fun p hp => (W.pairs p hp).2.2
  refine seg_whileLoop ?_
  rw [ov]
  refine wpAny_mono ((show PT (gcx P w K mg base nmE (envE L f cd) A outer s TT) tstE _ from (pt_val pe_bl)).run [] s _ _ (fun b H' => b = true ∧ H' = wokenH L s.heap TT) I ⟨true, rfl, rfl, rfl⟩) ?_ fun _ _ z => z.elim
  rintro b s1 ⟨H1, I1, rfl, rfl⟩
  rw [if_pos rfl]
  refine seg_cons_at bod_e (seg_wrap ?_)
  rw [ov]
  refine wpAny_mono ((show PS (gcx P w K mg base nmE (envE L f cd) A outer s TT) (nthS bodE 0) _ from (ps_par (i := 5) (j := 6) (by rfl) sc_endless_fractions.nd rfl rfl (by decide) rfl rfl (pa_cons (pe_callR (ok_added T) (hr.mono (by decide)) (by rfl) T.g_added T.F_added.kp pass0 (pa_cons (pe_call (ok_scaled T) (hr.mono (by decide)) (by rfl) T.g_scaled T.F_scaled.kp T.b_scaled .nil pass0 (pa_cons (pv 5) (pa_cons (pv 4) pa_nil))) (pa_cons (pv 6) pa_nil))) (pa_cons (pv 5) pa_nil)) (by rfl))).run [] s1 _ _ { nx := fun σ' H' => ∃ x H1, σ' = sigE r v (cfS r v i).1 (cfS r v i).2.1 (cfS r v i).2.2 x lx ∧ Same (wokenH L s.heap TT) H1 ∧ H1 x = none ∧ Same (wokenH L s.heap TT) H' ∧ H' x = some (.tup [.int (cfF r v i).1, .int (cfF r v i).2]), rt := fun _ _ => False } I1 ?_) ?_ fun _ _ z => z.elim
  · refine ⟨_, rfl, _, rfl, .ref lx, (cfR r v i).1.1, (cfR r v i).1.2, (cfS r v i).2.2, rfl, ⟨lx, rfl, .inl (.inr ⟨ol, wl⟩)⟩, two5000 b1 c1 hi1000, two5000 b2 c2 hi1000, Nat.lt_of_le_of_lt (show (cfS r v i).2.2.natAbs ≤ 18 by omega) (Nat.lt_of_lt_of_le (show 18 < 2 ^ 5 by decide) (Nat.pow_le_pow_right (by decide) (by decide))), fun p1 G1 n1 e1 h1 => ?_⟩
    refine ⟨_, rfl, [((cfR r v i).1.1 * (cfS r v i).2.2, (cfR r v i).1.2 * (cfS r v i).2.2), (cfR r v i).2], .cons ⟨p1, rfl, SqT.of h1⟩ (.cons ⟨bx, rfl, .inl (.inr ⟨ob, e1 _ _ wb⟩)⟩ .nil), by simp, fun p2 G2 n2 e2 h2 => ?_⟩
    rw [show Gy.s1 [((cfR r v i).1.1 * (cfS r v i).2.2, (cfR r v i).1.2 * (cfS r v i).2.2), (cfR r v i).2] = (cfF r v i).1 by simp [Gy.s1, cfF, cfR], show Gy.s2 [((cfR r v i).1.1 * (cfS r v i).2.2, (cfR r v i).1.2 * (cfS r v i).2.2), (cfR r v i).2] = (cfF r v i).2 by simp [Gy.s2, cfF, cfR]] at h2
    exact ⟨_, rfl, _, _, rfl, p2, G1, rfl, e1, n2, e1.trans e2, h2⟩
  · intro fl s2 hs
    match fl, hs with
    | .ret _, hs => obtain ⟨_, _, _, _, _, q⟩ := hs; exact q.elim
    | .brk, hs => obtain ⟨_, _, _, q⟩ := hs; exact q.elim
    | .cont, hs => obtain ⟨_, _, _, q⟩ := hs; exact q.elim
    | .next, hs =>
      obtain ⟨σ2, H2, I2, x, G1, rfl, e1, nx, e2, hx⟩ := hs
      obtain ⟨fresh, made⟩ := made_new lt I2 e1 nx hx
      have st2 := st.trans (stays_of lt hTT I2 e2)
      dsimp only
      refine seg_execs_cons (seg_Expr_Yield sp rfl gd ?_)
      rw [ov]
      refine wpAny_mono ((show PE (gcx P w K mg base nmE (envE L f cd) A outer s TT) yE _ from (pv 5)).run [] s2 _ _ (fun y H' => y = .ref x ∧ H' = H2) I2 ⟨_, rfl, rfl, rfl⟩) ?_ fun _ _ z => z.elim
      rintro u s3 ⟨y, H3, I3, ry, rfl, rfl⟩
      obtain rfl : u = .ref x := ry
      have st3 := st.trans (stays_of lt hTT I3 e2)
      have made3 : PairIn s3.heap x (cfF r v i).1 (cfF r v i).2 := (I3.hok x _ hx).2
      have n0 : s₀.heap.get? x = none := by
        cases z : s₀.heap.get? x with
        | none => rfl
        | some o =>
          exfalso
          by_cases zL : x = L
          · obtain ⟨_, m, ⟨oL, _, _, hoL, _⟩, _⟩ := id hl
            rw [← zL] at hoL
            have hoL : s.heap.get? x = some oL := hoL
            rw [fresh] at hoL
            cases hoL
          · by_cases zf : x ∈ frs outer
            · obtain ⟨sl, e⟩ := st.slot x o z zL zf
              rw [fresh] at e
              cases e
            · have e := st.keep x o z zL zf
              rw [fresh] at e
              cases e
      intro kap hk
      refine ⟨I3.os.trans os, I3.bare, st3, (let ⟨m, hn, _⟩ := I3.loc; ⟨m, hn⟩), ⟨x, rfl, n0, by rw [show N - n = i by omega]; exact made3⟩, fun s4 B => ?_⟩
      rcases Nat.eq_zero_or_pos n with n0 | npos
      · exact .inl n0
      refine .inr (hk .none s4 ?_)
      obtain ⟨xf, xb⟩ := W.new fresh
      have lxL : lx ≠ L := by
        obtain ⟨_, m, hn, _⟩ := id hl
        exact pair_noL hn lp
      have lp3 : PairIn s3.heap lx (cfR r v i).1.1 (cfR r v i).1.2 := (stays_of lt hTT I3 e2).pair lxL lp
      obtain ⟨W3, hl3⟩ := after_run (T' := [(x, (cfR r v (i + 1)).1), (lx, (cfR r v (i + 1)).2)]) E W I3 (fun p hp => by
        rcases List.mem_cons.mp hp with rfl | hp
        · exact ⟨xf, xb, made3⟩
        · rw [List.mem_singleton.mp hp]
          exact ⟨ln.1, ln.2.1, lp3⟩)
      have W4 : WakeOk K mg base (envE L f cd) outer [(x, (cfR r v (i + 1)).1), (lx, (cfR r v (i + 1)).2)] s4 :=
        ⟨B.bare, B.bs, W3.bz, B.funs, W3.low, fun p hp => ⟨(W3.pairs p hp).1, (W3.pairs p hp).2.1, B.pairs _ _ _ (W3.pairs p hp).2.2⟩⟩
      have hl4 : LocIs (envE L f cd) nmE s4.heap (sigE r v (cfS r v i).1 (cfS r v i).2.1 (cfS r v i).2.2 x lx) := by
        obtain ⟨len, m, hn, look⟩ := hl3
        exact ⟨len, m, hn.at' fun o e => B.frame o e, look⟩
      have lt4 : L ≤ s4.heap.objs.size := by
        obtain ⟨_, m, hn, _⟩ := hl4
        exact Nat.le_of_lt hn.lt
      have I4 := awake (P := P) (w := w) (A := A) E M hd fr W4 hl4
      have h4T : ∀ p ∈ [(x, (cfR r v (i + 1)).1), (lx, (cfR r v (i + 1)).2)], PairIn s4.heap p.1 p.2.1 p.2.2 := fun p hp => (W4.pairs p hp).2.2
      generalize hT4 : [(x, (cfR r v (i + 1)).1), (lx, (cfR r v (i + 1)).2)] = T4 at *
      dsimp only
      refine seg_wrap ?_
      rw [ov]
      refine wpAny_mono ((show PSs (gcx P w K mg base nmE (envE L f cd) A outer s4 T4) [nthS bodE 2, nthS bodE 3, nthS bodE 4] _ from (pss_cons (ps_set (i := 2) sc_endless_fractions.nd rfl (Or.inl rfl) (pe_op op_sub (pe_op op_mul (pv 3) (pv 4)) (pv 2)))
      (pss_cons (ps_set (i := 3) sc_endless_fractions.nd rfl (Or.inl rfl) (pe_op op_fdiv (pe_op op_sub (pv 0) (pe_op op_mul (pv 2) (pv 2))) (pv 3)))
      (pss_one (ps_set (i := 4) sc_endless_fractions.nd rfl (Or.inl rfl) (pe_op op_fdiv (pe_op op_add (pv 1) (pv 2)) (pv 3))))))).run [] s4 _ _ { nx := fun σ' H' => σ' = sigE r v (cfS r v (i + 1)).1 (cfS r v (i + 1)).2.1 (cfS r v (i + 1)).2.2 x lx ∧ H' = wokenH L s4.heap T4, rt := fun _ _ => False } I4 ?_) ?_ fun _ _ z => z.elim
      · have f1 : 0 ≤ (cfS r v i).2.1 * (cfS r v i).2.2 - (cfS r v i).1 ∧ (cfS r v i).2.1 * (cfS r v i).2.2 - (cfS r v i).1 ≤ 9 := ⟨m1', m2'⟩
        have f2 : 1 ≤ (r - ((cfS r v i).2.1 * (cfS r v i).2.2 - (cfS r v i).1) * ((cfS r v i).2.1 * (cfS r v i).2.2 - (cfS r v i).1)) / (cfS r v i).2.1 ∧ (r - ((cfS r v i).2.1 * (cfS r v i).2.2 - (cfS r v i).1) * ((cfS r v i).2.1 * (cfS r v i).2.2 - (cfS r v i).1)) / (cfS r v i).2.1 ≤ 99 := ⟨t1', t2'⟩
        exact ⟨_, rfl, _, rfl, _, _, rfl, rfl, .inl ⟨by omega, by omega⟩, _, rfl, _, _, rfl, rfl, _, rfl, _, rfl, _, rfl, _, _, rfl, rfl, .inl ⟨by omega, by omega⟩, _, _, rfl, rfl, _, rfl, _, _, rfl, rfl, ⟨by omega, by omega⟩, _, rfl, _, rfl, _, _, rfl, rfl, _, rfl, _, _, rfl, rfl, ⟨by omega, by omega⟩, rfl, rfl⟩
      · intro fl s5 hs
        match fl, hs with
        | .ret _, hs => obtain ⟨_, _, _, _, _, q⟩ := hs; exact q.elim
        | .brk, hs => obtain ⟨_, _, _, q⟩ := hs; exact q.elim
        | .cont, hs => obtain ⟨_, _, _, q⟩ := hs; exact q.elim
        | .next, hs =>
          obtain ⟨σ5, H5, I5, rfl, rfl⟩ := hs
          have st5 := stays_of lt4 h4T I5 (fun _ _ e => e)
          obtain ⟨_, m4, hn4, _⟩ := id hl4
          obtain ⟨W5, hl5⟩ := after_run (T' := T4) E W4 I5 (fun p hp => ⟨(W4.pairs p hp).1, (W4.pairs p hp).2.1, st5.pair (pair_noL hn4 (h4T p hp)) (h4T p hp)⟩)
          rw [← hT4] at W5
          refine seg_again rfl ?_
          rcases next s4 s5 x lx W5 hl5 I5.os st5 with z | z
          · omega
          · exact z
theorem turn_e (T : Txt K mg) (M : Mod K mg base) (hr : Room 4 (A.deeper (envE L f cd))) (hd : A.handled = none) (fr : A.frames = some outer) (r2 : 2 ≤ r) (r99 : r ≤ 99) (hw : isW r v) (small : N ≤ 1000)
    (ov : A.over (.whileLoop tstE bodE [] (envE L f cd)) fs = A.deeper (envE L f cd)) (sp : splitAtGen fs = none) (gd : fs.any Frame.guarded = false) :
    ∀ (n i : Nat), i + n = N → ∀ (s₀ s : Shared) (lx bx : Addr), WakeOk K mg base (envE L f cd) outer [(lx, (cfR r v i).1), (bx, (cfR r v i).2)] s → LocIs (envE L f cd) nmE s.heap (sigE r v (cfS r v i).1 (cfS r v i).2.1 (cfS r v i).2.2 lx bx) → s.os = s₀.os → Stays L (frs outer) s₀.heap s.heap → SegE P w base A outer L f cd r v N (n + 1) fs s₀ s
  | 0, i, hi, s₀, s, lx, bx, W, hl, os, st => turn_one T M hr hd fr r2 r99 hw small ov sp gd 0 i hi (fun _ _ _ _ _ _ _ _ => .inl rfl) s₀ s lx bx W hl os st
  | n + 1, i, hi, s₀, s, lx, bx, W, hl, os, st => turn_one T M hr hd fr r2 r99 hw small ov sp gd (n + 1) i hi (fun s₀' s' lx' bx' W' hl' os' st' => .inr (turn_e T M hr hd fr r2 r99 hw small ov sp gd n (i + 1) (by omega) s₀' s' lx' bx' W' hl' os' st')) s₀ s lx bx W hl os st
theorem root_one {g v : Int} (hw : isW r v) (g0 : 0 ≤ g) (g1 : g * g ≤ r) (g2 : r < (g + 1) * (g + 1)) : g = v := by
  obtain ⟨v0, v1, v2⟩ := hw
  rcases Int.lt_trichotomy g v with z | z | z
  · have := Int.mul_le_mul (show g + 1 ≤ v by omega) (show g + 1 ≤ v by omega) (by omega) v0
    omega
  · exact z
  · have := Int.mul_le_mul (show v + 1 ≤ g by omega) (show v + 1 ≤ g by omega) (by omega) g0
    omega
/-- woken for the first time -/
theorem fresh_e (T : Txt K mg) (M : Mod K mg base) (hr : Room 4 (A.deeper (envE L f cd))) (hd : A.handled = none) (fr : A.frames = some outer) (r2 : 2 ≤ r) (r99 : r ≤ 99) (hw : isW r v) (small : N ≤ 1000)
    (s : Shared) (W : WakeOk K mg base (envE L f cd) outer [] s) (hl : LocIs (envE L f cd) nmE s.heap [some (.int r), none, none, none, none, none, none]) :
    Seg (model P w) A RNever (YPair base outer L (cfF r v) N) (N + 1) s (.func (defBody s_endless_fractions) (envE L f cd)) ((model P w).den (.func (defBody s_endless_fractions) (envE L f cd))) [] s := by
  have E := genv_e L f cd
  have I := awake (P := P) (w := w) (A := A) E M hd fr W hl
  have lt : L ≤ s.heap.objs.size := by
    obtain ⟨_, m, hn, _⟩ := hl
    exact Nat.le_of_lt hn.lt
  have hTT : ∀ p ∈ ([] : List (Addr × Int × Int)), PairIn s.heap p.1 p.2.1 p.2.2 := fun p hp => nomatch hp
  have dp : ∀ {fs : List Frame}, A.over (.func (defBody s_endless_fractions) (envE L f cd)) [] = A.deeper (envE L f cd) := GenW.over_func
  have noE : ∀ {X : Cx} {pins D fl s'}, SP X pins D fl s' → D.bk = (fun _ _ => False) → D.ct = (fun _ _ => False) → D.rt = (fun _ _ => False) → fl = .next ∧ ∃ σ' H', Inv X pins σ' H' s' ∧ D.nx σ' H' := fun {X pins D fl s'} h e1 e2 e3 => by
    match fl, h with
    | .ret _, h => obtain ⟨_, _, _, _, _, q⟩ := h; rw [e3] at q; exact q.elim
    | .brk, h => obtain ⟨_, _, _, q⟩ := h; rw [e1] at q; exact q.elim
    | .cont, h => obtain ⟨_, _, _, q⟩ := h; rw [e2] at q; exact q.elim
    | .next, h => exact ⟨rfl, h⟩
  refine seg_func (seg_cons_at body_e (seg_wrap ?_))
  rw [dp (fs := [])]
  refine wpAny_mono ((show PS (gcx P w K mg base nmE (envE L f cd) A outer s []) (nthS (defBody s_endless_fractions) 0) _ from (ps_set (i := 1) sc_endless_fractions.nd rfl (Or.inl rfl) (pe_call (ok_floor_of T) (hr.mono (by decide)) (by rfl) T.g_floor_of T.F_floor_of.kp T.b_floor_of .nil pass0 (pa_cons (pe_tup (pa_cons pe_int (pa_cons pe_int pa_nil))) (pa_cons (pv 0) pa_nil))))).run [] s _ _ { nx := fun σ' H' => σ' = [some (.int r), some (.int v), none, none, none, none, none] ∧ Same (wokenH L s.heap []) H', rt := fun _ _ => False } I ?_) ?_ fun _ _ z => z.elim
  · refine ⟨by show 2 ≤ sizeLine; decide, fun t nt => ⟨_, rfl, t, r, 0, 1, rfl, SqT.of upd_same, by omega, Nat.lt_of_le_of_lt (show r.natAbs ≤ 99 by omega) (by decide), by decide, fun g g0 g1 g2 => ⟨?_, same_new nt⟩⟩⟩
    rw [Int.mul_one, Int.mul_one] at g1 g2
    rw [root_one hw g0 g1 g2, if_neg (by decide), Int.zero_add]
    rfl
  intro fl s1 hs
  obtain ⟨rfl, σ1, H1, I1, rfl, sm1⟩ := noE hs rfl rfl rfl
  dsimp only
  refine seg_execs_cons (seg_wrap ?_)
  rw [dp (fs := [])]
  refine wpAny_mono ((show PS (gcx P w K mg base nmE (envE L f cd) A outer s []) (nthS (defBody s_endless_fractions) 1) _ from (ps_par3 (i := 2) (j := 3) (l := 4) (by rfl) sc_endless_fractions.nd rfl rfl rfl (by decide) (by decide) (by decide) rfl rfl rfl (pa_cons pe_int (pa_cons pe_int (pa_cons (pv 1) pa_nil))) (by rfl))).run [] s1 _ _ { nx := fun σ' H' => σ' = [some (.int r), some (.int v), some (.int 0), some (.int 1), some (.int v), none, none] ∧ H' = H1, rt := fun _ _ => False } I1 ⟨_, rfl, _, _, _, rfl, rfl, rfl⟩) ?_ fun _ _ z => z.elim
  intro fl s2 hs
  obtain ⟨rfl, σ2, H2, I2, rfl, rfl⟩ := noE hs rfl rfl rfl
  dsimp only
  refine seg_execs_cons (seg_wrap ?_)
  rw [dp (fs := [])]
  refine wpAny_mono ((show PS (gcx P w K mg base nmE (envE L f cd) A outer s []) (nthS (defBody s_endless_fractions) 2) _ from (ps_asg (pe_tup (pa_cons (pe_tup (pa_cons pe_int (pa_cons pe_int pa_nil))) (pa_cons (pe_tup (pa_cons pe_int (pa_cons pe_int pa_nil))) pa_nil))) (pg_tup (by rfl) (pgs_cons (pg_name (i := 5) sc_endless_fractions.nd rfl (Or.inl rfl)) (pgs_cons (pg_name (i := 6) sc_endless_fractions.nd rfl (Or.inl rfl)) pgs_nil))))).run [] s2 _ _ { nx := fun σ' H' => ∃ lx bx G, σ' = sigE r v 0 1 v lx bx ∧ Same (wokenH L s.heap []) H' ∧ H2 lx = none ∧ H' lx = some (.tup [.int 1, .int 0]) ∧ Same H2 G ∧ G bx = none ∧ H' bx = some (.tup [.int 0, .int 1]), rt := fun _ _ => False } I2 ?_) ?_ fun _ _ z => z.elim
  · refine ⟨by show 2 ≤ sizeLine; decide, fun lx n1 => ⟨by show 2 ≤ sizeLine; decide, fun bx n2 => ⟨by show 2 ≤ sizeLine; decide, fun t n3 => ?_⟩⟩⟩
    have d1 := same_new (o := .tup [.int 1, .int 0]) n1
    have d2 := same_new (o := .tup [.int 0, .int 1]) n2
    have d3 := same_new (o := .tup [.ref lx, .ref bx]) n3
    exact ⟨t, _, rfl, SqT.of upd_same, rfl, .ref lx, _, rfl, .ref bx, _, rfl, rfl, lx, bx, _, rfl, sm1.trans (d1.trans (d2.trans d3)), n1, (d2.trans d3) _ _ upd_same, d1, n2, d3 _ _ upd_same⟩
  intro fl s3 hs
  obtain ⟨rfl, σ3, H3, I3, lx, bx, G, rfl, sm3, n1, h1, sG, n2, h2⟩ := noE hs rfl rfl rfl
  obtain ⟨fr1, pr1⟩ := made_new lt I3 sm1 n1 h1
  obtain ⟨fr2, pr2⟩ := made_new lt I3 (sm1.trans sG) n2 h2
  obtain ⟨W3, hl3⟩ := after_run (T' := [(lx, (cfR r v 0).1), (bx, (cfR r v 0).2)]) E W I3 (fun p hp => by
    rcases List.mem_cons.mp hp with rfl | hp
    · exact ⟨(W.new fr1).1, (W.new fr1).2, pr1⟩
    · rw [List.mem_singleton.mp hp]
      exact ⟨(W.new fr2).1, (W.new fr2).2, pr2⟩)
  dsimp only
  refine seg_execs_cons (seg_While fun p => ?_)
  exact turn_e T M hr hd fr r2 r99 hw small ((GenW.over_loop rfl rfl).trans GenW.over_func) rfl rfl N 0 (Nat.zero_add _) s s3 lx bx W3 hl3 I3.os (stays_of lt hTT I3 sm3)
end
end
/-! ### the next item of a generator that never ends -/
/-- what a sleeping generator does when it is woken, where n items may still be asked for -/
def GoOn (M : Model) (A : Around) (Y : Protocol) (gs : GenState) : Nat → Resume → Shared → Prop
  | 0 => fun _ _ => False
  | m + 1 => fun r s => gs.Goes M A RNever Y m r s
section
variable {P : Program} {w : World} {A : Around} {E : Value → Shared → Prop} {s : Shared}
/-- the next item of a generator that never ends, as another iterator asks for it -/
theorem nextOf_gen {a : Addr} {g n : Nat} {gs : GenState} {Y : Protocol} {Q : Value → Shared → Prop} (hl : s.heap.NoLimit) (room : A.depth < recursionLimit) (hg : s.heap.IsGen a g) (hgs : s.gens[g]? = some gs) (hgo : gs.Goes (model P w) A.in1 RNever Y n (.send .none) (s.setGen g .running))
    (hY : ∀ v s1 gs', gs'.bare = true → Y (n - 1) (s.setGen g .running) v s1 (GoOn (model P w) A.in1 Y gs' n) → Q v (s1.setGen g gs')) : wpAny (model P w) A (Builtin.SmallTypes.nextOf (.ref a)) Q E s := by
  have ty := hg.typeIs
  unfold Builtin.SmallTypes.nextOf
  refine wpAny_bind (wpAny_callSpecial?_slot (name := Str.ofString "__next__") ty slot_gen_next (wpAny_call_entry slot_gen_next ty entry_gen_next ?_ (args_gen_next _)))
  show wpAny (model P w) A.in1 (Builtin.Generator.genWake (.ref a) (.send .none)) _ _ s
  unfold Builtin.Generator.genWake
  refine wpAny_bind (wpAny_holding ?_)
  refine wpAny_genNumber hg (wpAny_bind ?_)
  refine wpAny_genState hgs ?_
  match gs, hgs, hgo with
  | .running, _, h => exact h.elim
  | .finished, _, h => exact h.elim
  | .fresh _, hgs, h | .suspended .., hgs, h =>
    refine wpAny_bind (wpAny_roomToWake hl room ?_)
    show wpAny _ A.in1 (.resume g (.send .none) [] _) _ _ s
    exact wpAny_resumeQ hgs h (fun _ _ z => z.elim) fun v s1 gs' hb hv => wpAny_pure ⟨v, rfl, wpAny_pure (hY v s1 gs' hb (by cases n <;> exact hv))⟩
end
section
variable {base : Heap} {outer : List Env} {L : Addr}
theorem get_ne {h : Heap} {a b : Addr} {o o' : Obj} (ha : h.get? a = some o) (hb : h.get? b = some o') (d : o.cls ≠ o'.cls) : a ≠ b := by
  rintro rfl
  rw [ha] at hb
  cases hb
  exact d rfl
theorem no_pair_cls {h : Heap} {c : Addr} {o : Obj} (e : h.get? c = some o) (d : o.cls ≠ .type "tuple") : ∀ p q, ¬ PairIn h c p q := fun p q z => by
  obtain ⟨_, _, o', e', hc, _⟩ := z
  rw [e] at e'
  cases e'
  exact d hc
theorem get_neD {h : Heap} {a b : Addr} {o : Obj} {m : Str → Option Value} (ha : h.get? a = some o) (hb : h.Ns b m) (d : ∀ es ep, o.data ≠ .dict es ep) : a ≠ b := by
  rintro rfl
  obtain ⟨o', es, ep, e, hd, _⟩ := hb
  rw [ha] at e
  cases e
  exact d es ep hd
/-- frames that are older than L stand where all that is older stands -/
theorem funs_old {h h' : Heap} (low : ∀ b ∈ frs outer, b < L) (k : ∀ b o, b ∈ frs outer → h.get? b = some o → ∃ sl, h'.get? b = some { o with slots := sl }) (hl : h.FunFrames base outer) : h'.FunFrames base outer := by
  have all : ∀ l : List Env, (∀ b ∈ frs l, b ∈ frs outer) → h.FunFrames base l → h'.FunFrames base l := by
    intro l
    induction l with
    | nil => exact fun _ _ => trivial
    | cons e q ih =>
      rintro sub ⟨hk, ⟨M, o, hf, hb, ho, hd⟩, hr⟩
      have cons : frs (e :: q) = M :: frs q := by
        show List.filterMap _ _ = _
        rw [List.filterMap_cons, hf]
        rfl
      rw [cons] at sub
      obtain ⟨sl, e1⟩ := k M o (sub M List.mem_cons_self) ho
      exact ⟨hk, ⟨M, _, hf, hb, e1, hd⟩, ih (fun b hb => sub b (List.mem_cons_of_mem _ hb)) hr⟩
  exact all outer (fun _ h => h) hl
end
/-! ### enumerate over a generator -/
section
variable {P : Program} {w : World} {A : Around} {E : Value → Shared → Prop} {s : Shared}
/-- the record of an enumerate: what is written into it, one place after the other -/
theorem put_field {e : Addr} {vs : Array Value} {k : Nat} {x : Value} {h0 : Heap} {Q : Unit → Shared → Prop} (z : Shared) (he : z.heap.get? e = some { cls := .type "enumerate", dict := none, data := .fields vs, slots := #[] }) (hk : k < vs.size) (hu : ∀ b o, b ≠ e → h0.get? b = some o → z.heap.get? b = some o) (sz : z.heap.objs.size = h0.objs.size)
    (q : ∀ h, h.get? e = some { cls := .type "enumerate", dict := none, data := .fields (vs.setIfInBounds k x), slots := #[] } → (∀ b o, b ≠ e → h0.get? b = some o → h.get? b = some o) → h.objs.size = h0.objs.size → Q () { z with heap := h }) : wpAny (model P w) A (setField (.ref e) k x) Q E z :=
  wpAny_setField_rec he hk fun h e1 k1 => q h e1 (fun b o n g => k1.extBut b o n (hu b o n g)) (k1.1.trans sz)
theorem enumg_item {e a : Addr} {g n : Nat} {gs : GenState} {Y : Protocol} {c : Int} {was : Value} {Q : Value → Shared → Prop}
    (he : IsEnum s.heap e a c was) (room : A.depth < recursionLimit) (lim : s.heap.NoLimit) (hg : s.heap.IsGen a g) (hgs : s.gens[g]? = some gs) (go : gs.Goes (model P w) A.in1 RNever Y n (.send .none) (s.setGen g .running))
    (fin : ∀ (v : Value) (sb : Shared) (gs' : GenState), gs'.bare = true → Y (n - 1) (s.setGen g .running) v sb (GoOn (model P w) A.in1 Y gs' n) → IsEnum sb.heap e a c was ∧
      ∀ (h' : Heap) (T : Addr), T = sb.heap.objs.size → IsEnumOut h' e a (c + 1) v T → IsPair h' T (.int c sb.toks) v → (∀ b o, b ≠ e → sb.heap.get? b = some o → h'.get? b = some o) → Q (.ref T) { sb.setGen g gs' with heap := h', toks := sb.toks + 1 }) :
    wpAny (model P w) A (Builtin.«enumerate.__next__» ⟨[.ref e], []⟩) (fun f s' => ∃ v, f = .done (.ret v) ∧ Q v s') E s := by
  show wpAny _ _ (field (.ref e) 2 >>= _) _ _ _
  refine wpAny_bind (wpAny_field he rfl (x := .ref a) rfl (wpAny_bind (nextOf_gen lim room hg hgs go fun v sb gs' hb hv => ?_)))
  obtain ⟨e0, out⟩ := fin v sb gs' hb hv
  have el : e < sb.heap.objs.size := Heap.lt_size e0
  have e0 : (sb.setGen g gs').heap.get? e = _ := e0
  show wpAny _ _ (field (.ref e) 3 >>= _) _ _ (sb.setGen g gs')
  refine wpAny_bind (wpAny_field e0 rfl (x := rawInt c) rfl ?_)
  show wpAny _ _ (field (.ref e) 4 >>= _) _ _ (sb.setGen g gs')
  refine wpAny_bind (wpAny_field e0 rfl (x := .none) rfl (wpAny_bind (wpAny_mkInt ?_)))
  refine wpAny_bind (put_field (h0 := sb.heap) { sb.setGen g gs' with toks := sb.toks + 1 } e0 (by simp) (fun _ _ _ g => g) rfl fun h1 e1 u1 z1 => ?_)
  refine wpAny_bind (put_field (h0 := sb.heap) { sb.setGen g gs' with heap := h1, toks := sb.toks + 1 } e1 (by simp) u1 z1 fun h2 e2 u2 z2 => ?_)
  refine wpAny_bind (wpAny_newTuple ?_)
  rw [show (Shared.heap { sb.setGen g gs' with heap := h2, toks := sb.toks + 1 }).objs.size = sb.heap.objs.size from z2]
  have e3 := Heap.get?_push_of_some { cls := .type "tuple", data := .seq #[.int c sb.toks, v] } e2
  have t3 : (h2.push { cls := .type "tuple", data := .seq #[.int c sb.toks, v] }).get? sb.heap.objs.size = some { cls := .type "tuple", data := .seq #[.int c sb.toks, v] } := by
    rw [← z2]
    exact Heap.get?_push_size _ rfl
  have u3 : ∀ b o, b ≠ e → sb.heap.get? b = some o → (h2.push { cls := .type "tuple", data := .seq #[.int c sb.toks, v] }).get? b = some o := fun b o n y => Heap.get?_push_of_some _ (u2 b o n y)
  show wpAny _ _ (Builtin.SmallTypes.ownedTupleIsFree (.ref e) >>= _) _ _ { sb.setGen g gs' with heap := h2.push { cls := .type "tuple", data := .seq #[.int c sb.toks, v] }, toks := sb.toks + 1 }
  generalize h2.push { cls := .type "tuple", data := .seq #[.int c sb.toks, v] } = h3 at e3 t3 u3 ⊢
  unfold Builtin.SmallTypes.ownedTupleIsFree
  refine wpAny_bind (wpAny_bind (wpAny_field e3 rfl (x := .none) rfl (wpAny_pure ?_)))
  rw [if_pos rfl]
  refine wpAny_bind (wpAny_rule (wpAny_bind (wpAny_field e3 rfl (x := was) rfl ?_)))
  refine wpAny_bind (put_field (h0 := h3) { sb.setGen g gs' with heap := h3, toks := sb.toks + 1 } e3 (by simp) (fun _ _ _ y => y) rfl fun h4 e4 u4 z4 => ?_)
  show wpAny _ _ (Builtin.SmallTypes.ownedTupleHandOut (.ref e) (.ref sb.heap.objs.size) >>= _) _ _ { sb.setGen g gs' with heap := h4, toks := sb.toks + 1 }
  unfold Builtin.SmallTypes.ownedTupleHandOut
  refine wpAny_bind (wpAny_bind (put_field (h0 := h3) { sb.setGen g gs' with heap := h4, toks := sb.toks + 1 } e4 (by simp) u4 z4 fun h5 e5 u5 z5 => ?_))
  refine put_field (h0 := h3) { sb.setGen g gs' with heap := h5, toks := sb.toks + 1 } e5 (by simp) u5 z5 fun h6 e6 u6 z6 => ?_
  refine wpAny_bind (wpAny_letGo (wpAny_pure ⟨_, rfl, ?_⟩))
  exact out h6 _ rfl e6 (u6 _ _ (Nat.ne_of_gt el) t3) fun b o n y => u6 b o n (u3 b o n y)
theorem next_enumg {e a : Addr} {c : Int} {was : Value} {Q : Value → Shared → Prop} (he : IsEnum s.heap e a c was) (h : wpAny (model P w) A.in1 (Builtin.«enumerate.__next__» ⟨[.ref e], []⟩) (fun f s' => ∃ v, f = .done (.ret v) ∧ Q v s') (fun _ _ => False) s) :
    wpAny (model P w) A (pyNext (.ref e)) (fun r s' => ∃ v, r = some v ∧ Q v s') E s := by
  have ty : s.TypeIs (.ref e) "enumerate" := ⟨_, he, rfl⟩
  unfold pyNext
  refine wpAny_bind (wpAny_attempt (wpAny_callSpecial?_slot (name := Str.ofString "__next__") ty F.slot_enumerate_next (wpAny_call_entry F.slot_enumerate_next ty F.entry_enumerate_next (wpAny_mono h (fun f s' y => ?_) fun _ _ y => y.elim) (F.args_enumerate_next_1 _))))
  obtain ⟨v, rfl, q⟩ := y
  exact ⟨v, rfl, wpAny_pure ⟨v, rfl, q⟩⟩
/-- enumerate(g): the generator stands for itself -/
theorem meets_enum_g (a : Addr) (g : Nat) : Meets (Builtin.«enumerate.__new__» ⟨[.type "enumerate", .ref a], []⟩) (fun _ R s => s.heap.IsGen a g ∧ R (.ok (.ret (.ref s.heap.objs.size))) { s with heap := s.heap.push { cls := .type "enumerate", data := .fields #[.none, .bool false, .ref a, rawInt 0, .none, .none] } }) :=
  .of_wp fun prog w A R s h => by
    obtain ⟨hp, gn, d, tk, os⟩ := s
    obtain ⟨h1, h⟩ := h
    have hsub := sub_enumerate
    have e1 : Heap.IsGen (Shared.heap ⟨hp, gn, d, tk, os⟩) a g := h1
    wp_walk using wpAny_pyIter_gen e1
    refine wpAny_stack_any fun st => wpAny_pure ?_
    split
    · rename_i c _ _ _ _ _
      cases (c == Value.type "enumerate") <;> (wp_walk using wpAny_pyIter_gen e1; exact ⟨_, rfl, h⟩)
    · wp_walk using wpAny_pyIter_gen e1
      exact ⟨_, rfl, h⟩
theorem call_enum_g {a : Addr} {g : Nat} {Q : Value → Shared → Prop} (h1 : s.heap.IsGen a g) (h : ∀ h' : Heap, IsEnum h' s.heap.objs.size a 0 .none → (∀ b o, s.heap.get? b = some o → h'.get? b = some o) → Q (.ref s.heap.objs.size) { s with heap := h' }) :
    wpAny (model P w) A (call (.type "enumerate") [.ref a]) Q E s := by
  refine callType_new F.called_enumerate (by decide) (F.typeCall_enumerate_1 _) (F.newCall_enumerate_1 _) (fun obj => F.args_object_init_2 obj _) F.entry_enumerate_new (meets_enum_g a g) ⟨h1, ?_⟩
  have he : IsEnum (s.heap.push { cls := .type "enumerate", data := .fields #[.none, .bool false, .ref a, rawInt 0, .none, .none] }) s.heap.objs.size a 0 .none := Heap.get?_push_size _ rfl
  exact ⟨⟨_, he, rfl⟩, h _ he fun b o y => Heap.get?_push_of_some _ y⟩
end
/-! ### a loop over enumerate of the endless generator, whose body calls nothing -/
/-- the first coordinate at a turn, and the one of the turn before -/
def cN (r v a b : Int) (i : Nat) : Int := a * (cfF r v i).2 + b * (cfF r v i).1
def cP (r v a b : Int) : Nat → Int
  | 0 => -1
  | i + 1 => cN r v a b i
/-- what of the asking def stands while it walks -/
structure WalkB (X : Cx) (h0 : Heap) (os0 : OsState) (s : Shared) : Prop where
  os : s.os = os0
  bare : AllBare s.gens
  bs : ∀ c o, X.base.get? c = some o → s.heap.get? c = some o
  funs : s.heap.FunFrames X.base X.stack
  old : ∀ c o, c ∉ frs X.stack → h0.get? c = some o → s.heap.get? c = some o
  oldF : ∀ c o, c ∈ frs X.stack → c ≠ X.env.locals → h0.get? c = some o → ∃ sl, s.heap.get? c = some { o with slots := sl }
  loc : ∃ m, s.heap.Ns X.env.locals m
/-- where its things lie -/
structure ApartE (X : Cx) (h0 : Heap) (L2 e ga : Addr) : Prop where
  hs : X.stack = X.env :: X.outer
  hfr : X.env.frame = some X.env.locals
  hfs : frs X.stack = X.env.locals :: X.fs
  nlf : X.env.locals ∉ X.fs
  low : ∀ c ∈ frs X.stack, c < h0.objs.size
  bz : X.base.objs.size ≤ h0.objs.size
  l2 : h0.objs.size ≤ L2
  le : h0.objs.size ≤ e
  lg : h0.objs.size ≤ ga
structure WalkE (X : Cx) (h0 : Heap) (os0 : OsState) (L2 e ga : Addr) (g : Nat) (r v a b : Int) (N i : Nat) (s : Shared) : Prop where
  wb : WalkB X h0 os0 s
  ns : ∃ m ta tb ts, s.heap.Ns X.env.locals m ∧ m "a" = some (.int a ta) ∧ m "b" = some (.int b tb) ∧ m "second" = some (.int (cP r v a b i) ts)
  en : ∃ was, IsEnum s.heap e ga i was
  gen : s.heap.IsGen ga g
  ns2 : ∃ m, s.heap.Ns L2 m
  sleep : ∃ gs, s.gens[g]? = some gs ∧ gs.bare = true ∧ ∀ s', Between X.base X.stack L2 s s' → gs.Goes (model X.prog X.w) X.A.in1.in1 RNever (YPair X.base X.stack L2 (cfF r v) N) (N + 1 - i) (.send .none) s'
section
variable {X : Cx} {pins : List (Addr × Obj)} {σ : L2.St} {H : Hp} {h0 : Heap} {os0 : OsState} {L2 e ga : Addr} {g : Nat} {r v a b : Int} {N i j : Nat} {s sb : Shared} {gs' : GenState} {h9 : Heap} {n : Nat} {x : Addr}
theorem ApartE.ne (D : ApartE X h0 L2 e ga) {c : Addr} (l : c < h0.objs.size) : c ≠ L2 ∧ c ≠ e ∧ c ≠ ga := by
  refine ⟨fun z => ?_, fun z => ?_, fun z => ?_⟩ <;> rw [z] at l
  · exact absurd l (Nat.not_lt.mpr D.l2)
  · exact absurd l (Nat.not_lt.mpr D.le)
  · exact absurd l (Nat.not_lt.mpr D.lg)
theorem ApartE.nf (D : ApartE X h0 L2 e ga) {c : Addr} (l : h0.objs.size ≤ c) : c ∉ frs X.stack := fun z => absurd (D.low c z) (Nat.not_lt.mpr l)
theorem ApartE.loc (D : ApartE X h0 L2 e ga) : X.env.locals ∈ frs X.stack := by
  rw [D.hfs]
  exact List.mem_cons_self
theorem ApartE.tl (D : ApartE X h0 L2 e ga) : frs X.outer = X.fs := by
  have c : frs X.stack = X.env.locals :: frs X.outer := by
    rw [D.hs]
    show List.filterMap _ _ = _
    rw [List.filterMap_cons, D.hfr]
    rfl
  exact (List.cons.inj (c.symm.trans D.hfs)).2
/-- behind a turn: what the generator did, and the def's own stores -/
theorem WalkB.more (D : ApartE X h0 L2 e ga) (W : WalkB X h0 os0 s) (os1 : sb.os = s.os) (b1 : AllBare sb.gens) (hb : gs'.bare = true) (st : Stays L2 (frs X.stack) s.heap sb.heap) (up : ∀ c o, c ≠ e → c ≠ X.env.locals → sb.heap.get? c = some o → h9.get? c = some o) (l9 : ∃ m, h9.Ns X.env.locals m) :
    WalkB X h0 os0 { sb.setGen g gs' with heap := h9, toks := n } := by
  have nl : ∀ {c : Addr}, c ∉ frs X.stack → c ≠ X.env.locals := fun {c} q z => q (z ▸ D.loc)
  refine ⟨os1.trans W.os, allBare_setGen (s := sb) b1 hb, fun c o q => ?_, ?_, fun c o nf q => ?_, fun c o hc n q => ?_, l9⟩
  · have nf : c ∉ frs X.stack := fun z => by
      have := (W.funs.mem z).1
      rw [q] at this
      cases this
    obtain ⟨n1, n2, _⟩ := D.ne (Nat.lt_of_lt_of_le (Heap.lt_size q) D.bz)
    exact up c o n2 (nl nf) (st.keep c o (W.bs c o q) n1 nf)
  · have fu : s.heap.FunFrames X.base (X.env :: X.outer) := D.hs ▸ W.funs
    obtain ⟨hk, ⟨M, o, hf, hbn, ho, hd⟩, hr⟩ := fu
    have hM : M = X.env.locals := by
      rw [D.hfr] at hf
      exact (Option.some.inj hf).symm
    subst hM
    obtain ⟨m9, o9, es, ep, ho9, hd9, rr9⟩ := l9
    rw [D.hs]
    refine ⟨hk, ⟨_, o9, D.hfr, hbn, ho9, fun vs q => by rw [hd9] at q; cases q⟩, funs_old (L := h0.objs.size) (fun c hc => ?_) (fun c o hc q => ?_) hr⟩
    · rw [D.tl] at hc
      exact D.low c (by rw [D.hfs]; exact List.mem_cons_of_mem _ hc)
    · rw [D.tl] at hc
      have hc' : c ∈ frs X.stack := by rw [D.hfs]; exact List.mem_cons_of_mem _ hc
      obtain ⟨n1, n2, _⟩ := D.ne (D.low c hc')
      obtain ⟨sl, e1⟩ := st.slot c o q n1 hc'
      exact ⟨sl, up c _ n2 (fun z => D.nlf (z ▸ hc)) e1⟩
  · obtain ⟨n1, n2, _⟩ := D.ne (Heap.lt_size q)
    exact up c o n2 (nl nf) (st.keep c o (W.old c o nf q) n1 nf)
  · obtain ⟨n1, n2, _⟩ := D.ne (Heap.lt_size q)
    obtain ⟨sl1, e1⟩ := W.oldF c o hc n q
    obtain ⟨sl2, e2⟩ := st.slot c _ e1 n1 hc
    exact ⟨sl2, up c _ n2 n e2⟩
theorem WalkE.more (D : ApartE X h0 L2 e ga) (W : WalkE X h0 os0 L2 e ga g r v a b N i s) (hi : i < N) (gz : g < sb.gens.size) (hb : gs'.bare = true)
    (hv : YPair X.base X.stack L2 (cfF r v) N (N + 1 - i - 1) (s.setGen g .running) (.ref x) sb (GoOn (model X.prog X.w) X.A.in1.in1 (YPair X.base X.stack L2 (cfF r v) N) gs' (N + 1 - i)))
    {was : Value} (en9 : IsEnum h9 e ga ((i : Int) + 1) was) (up : ∀ c o, c ≠ e → c ≠ X.env.locals → sb.heap.get? c = some o → h9.get? c = some o) {m9 : Str → Option Value} {ta tb ts : Tok} (hn9 : h9.Ns X.env.locals m9) (ma : m9 "a" = some (.int a ta)) (mb : m9 "b" = some (.int b tb)) (ms : m9 "second" = some (.int (cN r v a b i) ts)) :
    WalkE X h0 os0 L2 e ga g r v a b N (i + 1) { sb.setGen g gs' with heap := h9, toks := n } := by
  obtain ⟨os1, b1, st, ⟨m2, hn2⟩, _, nxt⟩ := hv
  have st : Stays L2 (frs X.stack) s.heap sb.heap := st
  obtain ⟨was0, he⟩ := W.en
  obtain ⟨ml, _, _, _, hml, _⟩ := W.ns
  obtain ⟨m20, hn20⟩ := W.ns2
  have eL : e ≠ L2 := get_neD he hn20 (by simp)
  have he1 : IsEnum sb.heap e ga i was0 := st.keep e _ he eL (D.nf D.le)
  have L2e : L2 ≠ e := eL.symm
  have L2l : L2 ≠ X.env.locals := fun z => absurd (z ▸ D.l2) (Nat.not_le.mpr (D.low _ D.loc))
  refine ⟨W.wb.more D os1 b1 hb st up ⟨_, hn9⟩, ⟨m9, ta, tb, ts, hn9, ma, mb, ms⟩, ⟨was, by rw [show (((i + 1 : Nat) : Int)) = (i : Int) + 1 by omega]; exact en9⟩, ?_, ⟨m2, hn2.at' fun o q => up L2 o L2e L2l q⟩, gs', setGen_at gz, hb, fun s' B => ?_⟩
  · obtain ⟨o, nm, qn, ho, hc, hd, hsl⟩ := W.gen
    have gL : ga ≠ L2 := get_neD ho hn20 (by rw [hd]; simp)
    have ge : ga ≠ e := get_ne ho he (by rw [hc]; simp)
    have gl : ga ≠ X.env.locals := fun z => absurd (z ▸ D.lg) (Nat.not_le.mpr (D.low _ D.loc))
    exact ⟨o, nm, qn, up ga o ge gl (st.keep ga o ho gL (D.nf D.lg)), hc, hd, hsl⟩
  · rw [show N + 1 - (i + 1) = N - i by omega]
    rw [show N + 1 - i = (N - i) + 1 by omega] at nxt
    have hl := W.wb.loc
    refine (nxt s' ⟨B.bare, fun o q => B.frame o (up L2 o L2e L2l q), fun y p q z => B.pairs y p q ?_, B.bs, B.funs⟩).resolve_left (by omega)
    obtain ⟨its, rv, o, ho, hc, hrest⟩ := z
    have ye : y ≠ e := get_ne ho he1 (by rw [hc]; simp)
    have yl : y ≠ X.env.locals := fun z => by
      obtain ⟨_, lo, es, ep, hlo, hld, _⟩ := hl
      obtain ⟨sl, e1⟩ := st.slot _ lo hlo (by rw [← z]; exact fun w => absurd (D.low _ (z ▸ D.loc)) (Nat.not_lt.mpr (w ▸ D.l2))) D.loc
      rw [z, e1] at ho
      cases ho
      obtain ⟨_, hd⟩ := hrest
      rw [show ({ lo with slots := sl } : Obj).data = lo.data from rfl, hld] at hd
      cases hd
    exact ⟨its, rv, o, up y o ye yl ho, hc, hrest⟩
/-- where it returns, all that was known stands -/
theorem inv_ret (D : ApartE X s.heap L2 e ga) {s0 : Shared} (I0 : Inv X pins σ H s) (W : WalkB X s.heap s.os s0) : Inv X pins (List.replicate X.N.length none) H s0 := by
  have trk : ∀ {c : Addr} {u : HO}, H c = some u → c ∉ frs X.stack := fun {c u} q hc => by
    rw [I0.stkFree c hc] at q
    cases q
  have lo : ∀ {c : Addr} {o : Obj}, X.s_0.heap.get? c = some o → c ≠ X.env.locals := fun {c o} q => Nat.ne_of_lt (Nat.lt_of_lt_of_le (Heap.lt_size q) I0.ok.above)
  have upto : ∀ {c : Addr} {o : Obj}, s.heap.get? c = some o → c ≠ X.env.locals → ∃ sl, s0.heap.get? c = some { o with slots := sl } := fun {c o} q n2 => by
    by_cases hc : c ∈ frs X.stack
    · exact W.oldF c o hc n2 q
    · exact ⟨o.slots, W.old c o hc q⟩
  have ncl : ∀ {c : Addr}, c ∉ X.fs → c ≠ X.env.locals → c ∉ frs X.stack := fun {c} n1 n2 => by
    rw [D.hfs]
    exact fun q => (List.mem_cons.mp q).elim n2 n1
  have cellat : ∀ {c : Addr} {v : Option Value}, c ≠ X.env.locals → s.heap.IsCell c v → s0.heap.IsCell c v := fun {c v} n2 z => by
    obtain ⟨o, ho, hd⟩ := z
    obtain ⟨sl, q⟩ := upto ho n2
    exact ⟨_, q, hd⟩
  obtain ⟨m, hn⟩ := W.loc
  refine ⟨I0.ok, W.os.trans I0.os, W.bare, ⟨fun c o q n nf nex => W.old c o (ncl nf (lo q)) (I0.base.keep c o q n nf nex), fun c o q n hc nex => ?_, I0.base.free, fun c o q nex => ?_, I0.base.tups, I0.base.frzs, I0.base.tbls⟩, ⟨m, hn, fun k y v q1 q2 _ => ?_⟩, fun y c q => ?_, I0.free, I0.freeC, fun p hp => ?_, fun c u q => ?_, List.length_replicate⟩
  · obtain ⟨sl, q1⟩ := I0.base.slot c o q n hc nex
    obtain ⟨sl', q2⟩ := upto q1 (lo q)
    exact ⟨sl', q2⟩
  · obtain ⟨o', q1⟩ := I0.base.there c o q nex
    obtain ⟨sl, q2⟩ := upto q1 (lo q)
    exact ⟨_, q2⟩
  · rw [List.getElem?_replicate] at q2
    split at q2 <;> cases q2
  · obtain ⟨v, hc⟩ := I0.cell y c q
    exact ⟨v, cellat (I0.cne y c q) hc⟩
  · obtain ⟨q, n, ne, nf, d⟩ := I0.pin p hp
    exact ⟨W.old p.1 p.2 (ncl nf ne) q, n, ne, nf, d⟩
  · refine (I0.hok c u q).stay (fun d o hd qo => ?_) (fun d qo => qo) fun d ys qo => qo
    rcases hd with rfl | hd
    · exact W.old _ _ (trk q) qo
    · exact W.old _ _ (trk hd) qo
end
/-! ### the walk, and the rule for that loop -/
section
variable {X : Cx} {pins : List (Addr × Obj)} {σ : L2.St} {H : Hp} {h0 : Heap} {os0 : OsState} {L2 e ga : Addr} {g : Nat} {r v a b : Int} {j : Nat} {s : Shared}
theorem name_read {m : Str → Option Value} {x : Str} {u : Value} {p : Pos} {Q : Value → Shared → Prop} {E : Value → Shared → Prop} (kf : X.env.scope.kind = .function) (kx : X.env.kindOf x = some .local) (hn : s.heap.Ns X.env.locals m) (hv : m x = some u) (nd : (x == ("__debug__" : Str)) = false) (q : Q u s) :
    wpAny (model X.prog X.w) X.A (eval (.Name x p) X.env) Q E s := wpAny_Name (wpAny_loadName_local kf kx hn hv q) nd
/-- a * q + b * p -/
theorem sum_two {m : Str → Option Value} {n1 n2 n3 n4 : Str} {i1 i2 i3 i4 : Int} {t1 t2 t3 t4 : Tok} {p1 p2 p3 p4 p5 p6 p7 : Pos} {Q : Value → Shared → Prop} {E : Value → Shared → Prop} (kf : X.env.scope.kind = .function) (k1 : X.env.kindOf n1 = some .local) (k2 : X.env.kindOf n2 = some .local) (k3 : X.env.kindOf n3 = some .local) (k4 : X.env.kindOf n4 = some .local) (hn : s.heap.Ns X.env.locals m)
    (v1 : m n1 = some (.int i1 t1)) (v2 : m n2 = some (.int i2 t2)) (v3 : m n3 = some (.int i3 t3)) (v4 : m n4 = some (.int i4 t4)) (d1 : (n1 == ("__debug__" : Str)) = false) (d2 : (n2 == ("__debug__" : Str)) = false) (d3 : (n3 == ("__debug__" : Str)) = false) (d4 : (n4 == ("__debug__" : Str)) = false)
    (c1 : CMulW i1 i2) (c2 : CMulW i3 i4) (q : ∀ t tk, Q (.int (i1 * i2 + i3 * i4) t) { s with toks := tk }) :
    wpAny (model X.prog X.w) X.A (eval (.BinOp (.BinOp (.Name n1 p1) .Mult (.Name n2 p2) p3) .Add (.BinOp (.Name n3 p4) .Mult (.Name n4 p5) p6) p7) X.env) Q E s := by
  refine wpAny_BinOp (wpAny_BinOp (name_read kf k1 hn v1 d1 (name_read kf k2 hn v2 d2 (PyProof.Rows.mul_int ?_ c1.ok))))
  refine wpAny_BinOp (name_read (s := { s with toks := s.toks + 1 }) kf k3 hn v3 d3 (name_read (s := { s with toks := s.toks + 1 }) kf k4 hn v4 d4 (PyProof.Rows.mul_int ?_ c2.ok)))
  exact PyProof.Rows.add_int (q _ _)
/-- x >= 0 and y >= 0 -/
theorem both_test {m : Str → Option Value} {n1 n2 : Str} {i1 i2 : Int} {t1 t2 : Tok} {p1 p2 p3 p4 p5 p6 p7 : Pos} {z1 z2 : Nat} {whole : Sem Value} {Q : Bool → Shared → Prop} {E : Value → Shared → Prop} (kf : X.env.scope.kind = .function) (k1 : X.env.kindOf n1 = some .local) (k2 : X.env.kindOf n2 = some .local) (hn : s.heap.Ns X.env.locals m)
    (v1 : m n1 = some (.int i1 t1)) (v2 : m n2 = some (.int i2 t2)) (d1 : (n1 == ("__debug__" : Str)) = false) (d2 : (n2 == ("__debug__" : Str)) = false) (q : ∀ tk, Q (decide (0 ≤ i1 ∧ 0 ≤ i2)) { s with toks := tk }) :
    wpAny (model X.prog X.w) X.A (isTrue (.BoolOp .And [.Compare (.Name n1 p1) [.GtE] [.Constant (.int 0) z1 p2] p3, .Compare (.Name n2 p4) [.GtE] [.Constant (.int 0) z2 p5] p6] p7) X.env whole) Q E s := by
  refine wpAny_isTrue_BoolOp (wpAny_allTrue_And_cons (wpAny_isTrue_Compare1 (name_read kf k1 hn v1 d1 (wpAny_Constant_int (PyProof.Rows.ge_int (wpAny_truthy_bool ?_)))) rfl))
  by_cases h1 : 0 ≤ i1
  · rw [decide_eq_true h1, if_pos rfl]
    refine wpAny_allTrue_And_cons (wpAny_isTrue_Compare1 (name_read (s := { s with toks := s.toks + 1 }) kf k2 hn v2 d2 (wpAny_Constant_int (PyProof.Rows.ge_int (wpAny_truthy_bool ?_)))) rfl)
    by_cases h2 : 0 ≤ i2
    · rw [decide_eq_true h2, if_pos rfl]
      refine wpAny_allTrue_And_nil ?_
      have := q (s.toks + 1 + 1)
      rw [decide_eq_true (And.intro h1 h2)] at this
      exact this
    · rw [decide_eq_false h2, if_neg (by decide)]
      have := q (s.toks + 1 + 1)
      rw [decide_eq_false (fun z => h2 z.2)] at this
      exact this
  · rw [decide_eq_false h1, if_neg (by decide)]
    have := q (s.toks + 1)
    rw [decide_eq_false (fun z => h1 z.1)] at this
    exact this
theorem assign_in {x : Str} {es : List Expr} {p1 t1 t2 : Pos} {k1 k2} {T : Addr} {va vb : Value} {Q : Unit → Shared → Prop} {E : Value → Shared → Prop} (hh : X.A.handled = none) (ht : s.heap.IsTuple T #[va, vb])
    (h : ∀ h', Heap.ExtBut s.heap.objs.size s.heap h' → wpAny (model X.prog X.w) X.A (do holding [vb] (assign (.Name x p1) X.env va); holding [] (assign (.Tuple es k1 t1) X.env vb); pure ()) Q E { s with heap := h' }) : wpAny (model X.prog X.w) X.A (assign (.Tuple [.Name x p1, .Tuple es k1 t1] k2 t2) X.env (.ref T)) Q E s :=
  wpAny_assign_Tuple hh ht rfl rfl h
theorem assign_pq {x y : Str} {p1 p2 t2 : Pos} {k2} {T : Addr} {va vb : Value} {Q : Unit → Shared → Prop} {E : Value → Shared → Prop} (hh : X.A.handled = none) (ht : s.heap.IsTuple T #[va, vb])
    (h : ∀ h', Heap.ExtBut s.heap.objs.size s.heap h' → wpAny (model X.prog X.w) X.A (do holding [vb] (assign (.Name x p1) X.env va); holding [] (assign (.Name y p2) X.env vb); pure ()) Q E { s with heap := h' }) : wpAny (model X.prog X.w) X.A (assign (.Tuple [.Name x p1, .Name y p2] k2 t2) X.env (.ref T)) Q E s :=
  wpAny_assign_Tuple hh ht rfl rfl h
theorem walk_enum {R : Result → Shared → Prop} {p1 p2 p3 p4 p5 p6 p7 p8 p9 q1 q2 q3 q4 q5 q6 q7 q8 q9 r1 r2 r3 r4 r5 r6 r7 r8 r9 t1 t2 : Pos} {k1 k2} {z1 z2 z3 : Nat} (D : ApartE X h0 L2 e ga) (hd : X.A.handled = none) (dep : X.A.depth < recursionLimit) (lim : X.base.NoLimit)
    (kf : X.env.scope.kind = .function) (cls : (X.env.scope.kind == .class || (X.env.scope.kind == .module && X.env.locals != X.env.globals)) = false)
    (ka : X.env.kindOf "a" = some .local) (kb : X.env.kindOf "b" = some .local) (ks : X.env.kindOf "second" = some .local) (kt : X.env.kindOf "at" = some .local) (kp : X.env.kindOf "p" = some .local) (kq : X.env.kindOf "q" = some .local) (kg : X.env.kindOf "first" = some .local)
    (r2' : 2 ≤ r) (r99 : r ≤ 99) (hw : isW r v) (ba : a.natAbs < 2 ^ 9000) (bb : b.natAbs < 2 ^ 9000) (hj : j ≤ 800) (pos : 0 ≤ cN r v a b (j + 1) ∧ 0 ≤ cP r v a b (j + 1)) (neg : ∀ i, i ≤ j → ¬ (0 ≤ cN r v a b i ∧ 0 ≤ cP r v a b i))
    (sw1 : swapsWith (.BinOp (.BinOp (.Name "a" p5) .Mult (.Name "q" p6) p7) .Add (.BinOp (.Name "b" p8) .Mult (.Name "p" p9) q1) q2) (some (.Name "first" p4)) q3.line X.env = pure false) (sw2 : swapsWith (.Name "first" r8) (some (.Name "second" r7)) r9.line X.env = pure false)
    (W0 : WalkE X h0 os0 L2 e ga g r v a b (j + 1) 0 s) (fin : ∀ s' t, WalkB X h0 os0 s' → R (.ok (.ret (.int j t))) s') :
    codeAny (model X.prog X.w) X.A (.forLoop (.Tuple [.Name "at" p1, .Tuple [.Name "p" p2, .Name "q" p3] k1 t1] k2 t2) (.ref e)
      [.Assign [.Name "first" p4] (.BinOp (.BinOp (.Name "a" p5) .Mult (.Name "q" p6) p7) .Add (.BinOp (.Name "b" p8) .Mult (.Name "p" p9) q1) q2) q3,
       .If (.BoolOp .And [.Compare (.Name "first" q4) [.GtE] [.Constant (.int 0) z1 q5] q6, .Compare (.Name "second" q7) [.GtE] [.Constant (.int 0) z2 q8] q9] r1) [.Return (some (.BinOp (.Name "at" r2) .Sub (.Constant (.int 1) z3 r3) r4)) r5] [] r6,
       .Assign [.Name "second" r7] (.Name "first" r8) r9] [] X.env) R s := by
  refine codeAny_forLoop_any (fun n s' => ∃ i, n + i = j + 2 ∧ i ≤ j + 1 ∧ WalkE X h0 os0 L2 e ga g r v a b (j + 1) i s') ?_ (j + 2) ⟨0, rfl, Nat.zero_le _, W0⟩
  rintro n s1 ⟨i, hn, hi, W⟩
  obtain ⟨was, he⟩ := W.en
  obtain ⟨gs, hgs, hbr, go⟩ := W.sleep
  have hgl : g < s1.gens.size := (Array.getElem?_eq_some_iff.mp hgs).1
  refine GenW.wpAny_gsz (n := g + 1) hgl (wpAny_mono (next_enumg (E := fun _ _ => False) (Q := fun u s4 => ∃ T x sb gs' h4, u = .ref T ∧ s4 = { sb.setGen g gs' with heap := h4, toks := sb.toks + 1 } ∧ gs'.bare = true ∧
    YPair X.base X.stack L2 (cfF r v) (j + 1) (j + 1 + 1 - i - 1) (s1.setGen g .running) (.ref x) sb (GoOn (model X.prog X.w) X.A.in1.in1 (YPair X.base X.stack L2 (cfF r v) (j + 1)) gs' (j + 1 + 1 - i)) ∧ IsEnumOut h4 e ga ((i : Int) + 1) (.ref x) T ∧ T = sb.heap.objs.size ∧ IsPair h4 T (.int i sb.toks) (.ref x) ∧ ∀ c o, c ≠ e → sb.heap.get? c = some o → h4.get? c = some o) he ?_) (fun u s4 hq sz => ?_) fun _ _ z => z.elim)
  · refine enumg_item he dep (lim.keeps W.wb.bs) W.gen hgs (go _ ⟨allBare_setGen W.wb.bare rfl, fun _ q => q, fun _ _ _ z => z, W.wb.bs, W.wb.funs⟩) fun u sb gs' hb hv => ?_
    obtain ⟨_, _, st, _, ⟨x, rfl, _, _⟩, _⟩ := id hv
    obtain ⟨m20, hn20⟩ := W.ns2
    exact ⟨st.keep e _ he (get_neD he hn20 (by simp)) (D.nf D.le), fun h' T hT e' t' u' => ⟨T, x, sb, gs', h', rfl, rfl, hb, hv, e', hT, t', u'⟩⟩
  obtain ⟨y, rfl, T, x, sb, gs', h4, rfl, rfl, hb, hv, e4, hT, t4, u4⟩ := hq
  have gz : g < sb.gens.size := by
    have q : (sb.setGen g gs').gens.size = sb.gens.size := GenW.setGen_size _ _ _
    have sz' : g + 1 ≤ (sb.setGen g gs').gens.size := sz
    omega
  obtain ⟨os1, b1, st, _, ⟨x', ex, _, xp⟩, _⟩ := id hv
  cases ex
  have st : Stays L2 (frs X.stack) s1.heap sb.heap := st
  have xp : PairIn sb.heap x (cfF r v i).1 (cfF r v i).2 := by
    rw [show i = j + 1 - (j + 1 + 1 - i - 1) by omega]
    exact xp
  have eb : IsEnum sb.heap e ga i was := by
    obtain ⟨m20, hn20⟩ := W.ns2
    exact st.keep e _ he (get_neD he hn20 (by simp)) (D.nf D.le)
  have Te : T ≠ e := by
    rw [hT]
    exact Nat.ne_of_gt (Heap.lt_size eb)
  obtain ⟨its, rv, ox, hox, hcx, nx, hdx⟩ := xp
  obtain ⟨tp, tq, rfl⟩ := rv.int2
  have xe : x ≠ e := get_ne hox eb (by rw [hcx]; simp)
  obtain ⟨m, ta, tb, ts, hm, ma, mb, ms⟩ := W.ns
  obtain ⟨nl1, nl2, _⟩ := D.ne (D.low _ D.loc)
  have hmb : sb.heap.Ns X.env.locals m := by
    obtain ⟨o, es, ep, ho, hdd, rr⟩ := hm
    obtain ⟨sl, e1⟩ := st.slot _ o ho nl1 D.loc
    exact ⟨_, es, ep, e1, hdd, rr⟩
  have xl : x ≠ X.env.locals := get_neD hox hmb (by rw [hdx]; simp)
  have u4 : ∀ c o, c ≠ e → sb.heap.get? c = some o → h4.get? c = some o := u4
  dsimp only
  refine wpAny_letOwnedTupleGo_enum (s := { sb.setGen g gs' with heap := h4, toks := sb.toks + 1 }) e4 fun h5 e5 k5 => ?_
  have k5 : Heap.SameBut e h4 h5 := k5
  have u5 : ∀ c o, c ≠ e → sb.heap.get? c = some o → h5.get? c = some o := fun c o n q => k5.extBut c o n (u4 c o n q)
  refine assign_in (s := { sb.setGen g gs' with heap := h5, toks := sb.toks + 1 }) hd ⟨_, k5.extBut _ _ Te t4, rfl, _, rfl⟩ fun h6 k6 => ?_
  have u6 : ∀ c o, h5.get? c = some o → h6.get? c = some o := fun c o q => k6 c o (Nat.ne_of_lt (Heap.lt_size q)) q
  have hm6 : h6.Ns X.env.locals m := hmb.at' fun o q => u6 _ _ (u5 _ _ nl2 q)
  refine wpAny_bind (wpAny_holding (wpAny_assign_Name (wpAny_storeName_local (env := X.env) (s := { sb.setGen g gs' with heap := h6, toks := sb.toks + 1 }) kt hm6 (fun h7 hm7 k7 => ?_) cls)))
  have k7 : Heap.SameBut X.env.locals h6 h7 := k7
  refine wpAny_bind (wpAny_holding (assign_pq hd ⟨ox, k7.extBut _ _ xl (u6 _ _ (u5 _ _ xe hox)), hcx, nx, hdx⟩ fun h8 k8 => ?_))
  have u8 : ∀ c o, h7.get? c = some o → h8.get? c = some o := fun c o q => k8 c o (Nat.ne_of_lt (Heap.lt_size q)) q
  have hm8 := hm7.at' fun o q => u8 _ _ q
  refine wpAny_bind (wpAny_holding (wpAny_assign_Name (wpAny_storeName_local (env := X.env) kp hm8 (fun h9 hm9 k9 => ?_) cls)))
  refine wpAny_bind (wpAny_holding (wpAny_assign_Name (wpAny_storeName_local (env := X.env) kq hm9 (fun h10 hm10 k10 => wpAny_pure (wpAny_pure ?_)) cls)))
  have k9 : Heap.SameBut X.env.locals h8 h9 := k9
  have k10 : Heap.SameBut X.env.locals h9 h10 := k10
  have u10 : ∀ c o, c ≠ e → c ≠ X.env.locals → sb.heap.get? c = some o → h10.get? c = some o := fun c o n1 n2 q => k10.extBut c o n2 (k9.extBut c o n2 (u8 c o (k7.extBut c o n2 (u6 c o (u5 c o n1 q)))))
  have e10 : IsEnum h10 e ga ((i : Int) + 1) (.ref x) := k10.extBut e _ nl2.symm (k9.extBut e _ nl2.symm (u8 e _ (k7.extBut e _ nl2.symm (u6 e _ e5))))
  obtain ⟨m10, hm10, fa, fb, fs, ft, fp, fq⟩ : ∃ m10, h10.Ns X.env.locals m10 ∧ m10 "a" = some (.int a ta) ∧ m10 "b" = some (.int b tb) ∧ m10 "second" = some (.int (cP r v a b i) ts) ∧ m10 "at" = some (.int i sb.toks) ∧ m10 "p" = some (.int (cfF r v i).1 tp) ∧ m10 "q" = some (.int (cfF r v i).2 tq) :=
    ⟨_, hm10, by rw [if_neg (by decide +kernel), if_neg (by decide +kernel), if_neg (by decide +kernel)]; exact ma, by rw [if_neg (by decide +kernel), if_neg (by decide +kernel), if_neg (by decide +kernel)]; exact mb, by rw [if_neg (by decide +kernel), if_neg (by decide +kernel), if_neg (by decide +kernel)]; exact ms,
      by rw [if_neg (by decide +kernel), if_neg (by decide +kernel), if_pos rfl], by rw [if_neg (by decide +kernel), if_pos rfl], by rw [if_pos rfl]⟩
  clear e5 k5 k6 k7 k8 k9 k10 hm7 hm8 hm9 hm6 u5 u6 u8 e4 t4 u4 hox
  obtain ⟨⟨pp0, pq0, _, _⟩, pb, qb, _, _⟩ := cf_bound r2' r99 hw (i + 1)
  have bp : (cfF r v i).1.natAbs < 2 ^ 9000 := two5000 pp0 pb (by omega)
  have bq : (cfF r v i).2.natAbs < 2 ^ 9000 := two5000 pq0 qb (by omega)
  refine wpAny_execs_cons (wpAny_Assign_Name (sum_two (s := { sb.setGen g gs' with heap := h10, toks := _ }) kf ka kq kb kp hm10 fa fq fb fp (by decide +kernel) (by decide +kernel) (by decide +kernel) (by decide +kernel) (wide_mul ba bq (by decide) (by decide) (by decide)) (wide_mul bb bp (by decide) (by decide) (by decide)) fun tf tk1 => wpAny_storeName_local (env := X.env) (s := { sb.setGen g gs' with heap := h10, toks := tk1 }) kg hm10 (fun h11 hm11 k11 => ?_) cls) sw1)
  have k11 : Heap.SameBut X.env.locals h10 h11 := k11
  have u11 : ∀ c o, c ≠ e → c ≠ X.env.locals → sb.heap.get? c = some o → h11.get? c = some o := fun c o n1 n2 q => k11.extBut c o n2 (u10 c o n1 n2 q)
  have e11 : IsEnum h11 e ga ((i : Int) + 1) (.ref x) := k11.extBut e _ nl2.symm e10
  obtain ⟨m11, hm11, ga', gb', gs'', gt', gf'⟩ : ∃ m11, h11.Ns X.env.locals m11 ∧ m11 "a" = some (.int a ta) ∧ m11 "b" = some (.int b tb) ∧ m11 "second" = some (.int (cP r v a b i) ts) ∧ m11 "at" = some (.int i sb.toks) ∧ m11 "first" = some (.int (cN r v a b i) tf) :=
    ⟨_, hm11, by rw [if_neg (by decide +kernel)]; exact fa, by rw [if_neg (by decide +kernel)]; exact fb, by rw [if_neg (by decide +kernel)]; exact fs, by rw [if_neg (by decide +kernel)]; exact ft, by rw [if_pos rfl]; rfl⟩
  clear hm10 k11 e10 u10
  refine wpAny_execs_cons (wpAny_If (both_test (s := { sb.setGen g gs' with heap := h11, toks := _ }) kf kg ks hm11 gf' gs'' (by decide +kernel) (by decide +kernel) fun tk2 => ?_))
  by_cases c : 0 ≤ cN r v a b i ∧ 0 ≤ cP r v a b i
  · rw [decide_eq_true c, if_pos rfl]
    have hij : i = j + 1 := by
      rcases Nat.lt_or_ge j i with z | z
      · omega
      · exact absurd c (neg i z)
    refine wpAny_execs_cons (wpAny_Return_some (wpAny_BinOp (name_read kf kt hm11 gt' (by decide +kernel) (wpAny_Constant_int (PyProof.Rows.sub_int ?_)))))
    rw [show ((i : Int) - 1) = (j : Int) by omega]
    exact fin _ _ (W.wb.more D os1 b1 hb st u11 ⟨_, hm11⟩)
  · rw [decide_eq_false c, if_neg (by decide)]
    have hij : i ≤ j := by
      rcases Nat.lt_or_ge j i with z | z
      · rw [show i = j + 1 by omega] at c
        exact absurd pos c
      · exact z
    refine wpAny_execs_nil (wpAny_execs_cons (wpAny_Assign_Name (name_read kf kg hm11 gf' (by decide +kernel) (wpAny_storeName_local (env := X.env) ks hm11 (fun h12 hm12 k12 => wpAny_execs_nil ?_) cls)) sw2))
    have k12 : Heap.SameBut X.env.locals h11 h12 := k12
    refine ⟨j + 1 - i, by omega, i + 1, by omega, by omega, W.more (ta := ta) (tb := tb) (ts := tf) D (by omega) gz hb hv (k12.extBut e _ nl2.symm e11) (fun c o n1 n2 q => k12.extBut c o n2 (u11 c o n1 n2 q)) hm12 ?_ ?_ ?_⟩
    · rw [if_neg (by decide +kernel)]; exact ga'
    · rw [if_neg (by decide +kernel)]; exact gb'
    · rw [if_pos rfl]
end
theorem gen_madeB {P : Program} {w : World} {K : PySem.W.Frag} {A : Around} {s : Shared} {x qual : Str} {st : Stmt} {f : Addr} {fd : FuncData} {N ps : List Str} {us : List Value} {vs : List V} {R : Result → Shared → Prop} {args : Args} (F : Fun K x qual st f fd) (S : GScope N ps (defScope st)) (nc : ∀ y ∈ (defScope st).names, y.2 ≠ .cell ∧ y.2 ≠ .free)
    (room : A.depth < recursionLimit) (KX : K.In s.heap) (lim : s.heap.NoLimit) (b : BindsTo s fd args (ps.zip us)) (rv : Vals vs us) (hl : vs.length = ps.length)
    (h : ∀ (cd : Value) (a : Addr) (h' : Heap) (tk : Nat), s.heap.objs.size < a → h'.IsGen a s.gens.size → (∀ b o, s.heap.get? b = some o → h'.get? b = some o) → LocIs (envOfC qual (defScope st) s.heap.objs.size f cd) N h' (L2.start N vs) →
      R (.ok (.ret (.ref a))) { s with gens := s.gens.push (.fresh (.func (defBody st) (envOfC qual (defScope st) s.heap.objs.size f cd))), heap := h', toks := tk }) : codeAny (model P w) A (.call (.ref f) args) R s := by
  obtain ⟨oc, od, kV, doc, pm, an, cdv, ct, osl, rfl, lk, hcd⟩ := F.ex
  have hul : us.length = ps.length := rv.length.symm.trans hl
  have locs : ∀ y ∈ ps, (defScope st).names.lookup y = some .local := fun y hy => by
    rcases S.par y hy with q | q
    · exact q
    · exact absurd rfl (nc _ (PySem.mem_of_lookup q)).1
  refine codeAny_call_generator room (KX _ _ lk) rfl S.co S.gen rfl (PySem.W.codeRec_of KX hcd) ?_
  refine b _ _ _ _ (wpAny_newFunctionEnv_cells S.kind (fun ⟨n, u⟩ hy => .inl (locs n (List.of_mem_zip hy).1)) fun env he s1 y => ?_)
  subst he
  obtain ⟨h1, tk, rfl, hk⟩ := y.done
  have ns := y.toInCall.ns
  refine ⟨lim.keeps y.toInCall.keep, h cdv _ _ _ ns.lt ⟨_, _, _, Heap.get?_push_size _ rfl, rfl, rfl, rfl⟩ (fun b o e => Heap.get?_push_of_some _ (y.toInCall.keep b o e)) ⟨?_, _, ns.push _, fun i n v e1 e2 _ => ?_⟩⟩
  · have hpl : ps.length ≤ N.length := by
      have := congrArg List.length S.pre
      rw [List.length_take] at this
      omega
    unfold L2.start
    rw [List.length_append, List.length_map, List.length_replicate]
    omega
  · have hi : i < vs.length := by
      rcases Nat.lt_or_ge i vs.length with z | z
      · exact z
      · unfold L2.start at e2
        rw [List.getElem?_append_right (by simpa using z), List.getElem?_replicate] at e2
        split at e2 <;> cases e2
    have ha : vs[i]? = some v := by
      unfold L2.start at e2
      rw [List.getElem?_append_left (by simpa using hi), List.getElem?_map] at e2
      cases e : vs[i]? with
      | none => rw [e] at e2; cases e2
      | some a => rw [e] at e2; cases e2; rfl
    obtain ⟨u, hu, ru⟩ := rv.get ha
    have hp : ps[i]? = some n := by
      rw [← S.pre, List.getElem?_take_of_lt (by omega)]
      exact e1
    have nd : ps.Nodup := by
      rw [← S.pre]
      exact S.nd.sublist (List.take_sublist _ _)
    have kn := locs n (List.mem_of_getElem? hp)
    exact ⟨u, ru, kn, bindL_get nd hp hu kn⟩
theorem gen_made {P : Program} {w : World} {K : PySem.W.Frag} {A : Around} {s : Shared} {x qual : Str} {st : Stmt} {f : Addr} {fd : FuncData} {N ps : List Str} {us : List Value} {vs : List V} {R : Result → Shared → Prop} (F : Fun K x qual st f fd) (S : GScope N ps (defScope st)) (nc : ∀ y ∈ (defScope st).names, y.2 ≠ .cell ∧ y.2 ≠ .free)
    (room : A.depth < recursionLimit) (KX : K.In s.heap) (lim : s.heap.NoLimit) (hb : Binds K fd ps []) (rv : Vals vs us) (hl : vs.length = ps.length)
    (h : ∀ (cd : Value) (a : Addr) (h' : Heap) (tk : Nat), s.heap.objs.size < a → h'.IsGen a s.gens.size → (∀ b o, s.heap.get? b = some o → h'.get? b = some o) → LocIs (envOfC qual (defScope st) s.heap.objs.size f cd) N h' (L2.start N vs) →
      R (.ok (.ret (.ref a))) { s with gens := s.gens.push (.fresh (.func (defBody st) (envOfC qual (defScope st) s.heap.objs.size f cd))), heap := h', toks := tk }) : codeAny (model P w) A (.call (.ref f) ⟨us, []⟩) R s := by
  have b := hb s us KX (by rw [List.append_nil]; exact rv.length.symm.trans hl)
  rw [List.append_nil] at b
  exact gen_madeB F S nc room KX lim b rv hl h
section
variable {X : Cx}
/-- for at, (p, q) in enumerate(endless_fractions(root)): .. return at - 1 -/
def tForE (ia ib isx ir : Nat) : TS := fun D σ H => ∃ (r v a b : Int) (j : Nat), σ[ir]? = some (some (.int r)) ∧ σ[ia]? = some (some (.int a)) ∧ σ[ib]? = some (some (.int b)) ∧ σ[isx]? = some (some (.int (-1))) ∧ 2 ≤ r ∧ r ≤ 99 ∧ isW r v ∧ a.natAbs < 2 ^ 9000 ∧ b.natAbs < 2 ^ 9000 ∧ j ≤ 800 ∧
  (0 ≤ cN r v a b (j + 1) ∧ 0 ≤ cP r v a b (j + 1)) ∧ (∀ i, i ≤ j → ¬ (0 ≤ cN r v a b i ∧ 0 ≤ cP r v a b i)) ∧ D.rt (.int j) H
theorem local_at {h : Heap} {m : Str → Option Value} {x : Str} {u : Value} (k : X.env.kindOf x = some .local) (l : Look X.env h m x u) : m x = some u := by
  rcases l with ⟨_, z⟩ | ⟨q, _⟩
  · exact z
  · exfalso
    rcases q with e | e <;> (rw [k] at e; cases e)
theorem ps_forE {P : Program} {w : World} {K : PySem.W.Frag} {mg : Str → Option Value} {base : Heap} (T : Txt K mg) (hP : X.prog = P) (hw : X.w = w) (hK : X.K = K) (hmg : X.mg = mg) (hB : X.base = base) {ia ib isx ir : Nat} {pe pf pr c1 c2 p1 p2 p3 p4 p5 p6 p7 p8 p9 q1 q2 q3 q4 q5 q6 q7 q8 q9 r1 r2 r3 r4 r5 r6 r7 r8 r9 t1 t2 pos : Pos} {k1 k2 z1 z2 z3 : Nat}
    (hr : Room 7 X.A) (ge : Gl X "enumerate") (ne : X.mg "enumerate" = none) (gf : Gl X "endless_fractions") (hst : X.stack = X.env :: X.outer) (hfr : X.env.frame = some X.env.locals) (hfs : frs X.stack = X.env.locals :: X.fs)
    (kf : X.env.scope.kind = .function) (cls : (X.env.scope.kind == .class || (X.env.scope.kind == .module && X.env.locals != X.env.globals)) = false)
    (ka : X.env.kindOf "a" = some .local) (kb : X.env.kindOf "b" = some .local) (ks : X.env.kindOf "second" = some .local) (kt : X.env.kindOf "at" = some .local) (kp : X.env.kindOf "p" = some .local) (kq : X.env.kindOf "q" = some .local) (kg : X.env.kindOf "first" = some .local) (kr : X.env.kindOf "root" = some .local)
    (va : Vis X.env.scope "a") (vb : Vis X.env.scope "b") (vs : Vis X.env.scope "second") (vr : Vis X.env.scope "root") (ja : X.N[ia]? = some ("a" : Str)) (jb : X.N[ib]? = some ("b" : Str)) (js : X.N[isx]? = some ("second" : Str)) (jr : X.N[ir]? = some ("root" : Str))
    (sw1 : swapsWith (.BinOp (.BinOp (.Name "a" p5) .Mult (.Name "q" p6) p7) .Add (.BinOp (.Name "b" p8) .Mult (.Name "p" p9) q1) q2) (some (.Name "first" p4)) q3.line X.env = pure false) (sw2 : swapsWith (.Name "first" r8) (some (.Name "second" r7)) r9.line X.env = pure false)
    (s1 : starEach [.Call (.Name "endless_fractions" pf) [.Name "root" pr] [] c1] X.env = [(false, eval (.Call (.Name "endless_fractions" pf) [.Name "root" pr] [] c1) X.env)]) (s2 : starEach [.Name "root" pr] X.env = (false, eval (.Name "root" pr) X.env) :: starEach [] X.env)
    (hfold : ∀ x, foldedSetIterable (.Call (.Name "enumerate" pe) [.Call (.Name "endless_fractions" pf) [.Name "root" pr] [] c1] [] c2) X.env x = pure x) :
    PS X (.For (.Tuple [.Name "at" p1, .Tuple [.Name "p" p2, .Name "q" p3] k1 t1] k2 t2) (.Call (.Name "enumerate" pe) [.Call (.Name "endless_fractions" pf) [.Name "root" pr] [] c1] [] c2)
      [.Assign [.Name "first" p4] (.BinOp (.BinOp (.Name "a" p5) .Mult (.Name "q" p6) p7) .Add (.BinOp (.Name "b" p8) .Mult (.Name "p" p9) q1) q2) q3,
       .If (.BoolOp .And [.Compare (.Name "first" q4) [.GtE] [.Constant (.int 0) z1 q5] q6, .Compare (.Name "second" q7) [.GtE] [.Constant (.int 0) z2 q8] q9] r1) [.Return (some (.BinOp (.Name "at" r2) .Sub (.Constant (.int 1) z3 r3) r4)) r5] [] r6,
       .Assign [.Name "second" r7] (.Name "first" r8) r9] [] pos) (tForE ia ib isx ir) := by
  subst hP hw hK hmg hB
  refine ⟨fun pins s σ H D I hq => ?_⟩
  obtain ⟨r, v, a, b, j, er, ea, eb, es, r2', r99, hw, ba, bb, hj, hpos, hneg, q⟩ := hq
  obtain ⟨m0, hm, hlk⟩ := id I.loc
  have rd : ∀ (i : Nat) (x : Str) (y : Int), X.N[i]? = some x → σ[i]? = some (some (.int y)) → Vis X.env.scope x → X.env.kindOf x = some .local → ∃ t, m0 x = some (.int y t) := fun i x y n e vi k => by
    obtain ⟨u, ru, lu⟩ := hlk i x _ n e vi
    obtain ⟨t, rfl⟩ := ru
    exact ⟨t, local_at k lu⟩
  obtain ⟨ta, ma⟩ := rd ia _ a ja ea va ka
  obtain ⟨tb, mb⟩ := rd ib _ b jb eb vb kb
  obtain ⟨ts, ms⟩ := rd isx _ (-1) js es vs ks
  obtain ⟨tr, mr⟩ := rd ir _ r jr er vr kr
  refine wpAny_For ?_ hfold
  refine wpAny_Call_Name_kw (ld_blt I ge ne PyProof.Rows.boot_enumerate (PyProof.Rows.callWith_type1 ?_ s1 rfl) (by decide) (by decide))
  rw [s1]
  show wpAny _ _ (spliced [(false, eval (.Call (.Name "endless_fractions" pf) [.Name "root" pr] [] c1) X.env)]) _ _ _
  refine Calls.spliced_cons ?_
  refine wpAny_Call_Name_kw (ld_glob I gf T.g_endless_fractions (PySem.W.callWith_K (h₀ := X.base) I.ok.mod.kin T.F_endless_fractions.kp ?_ s2 rfl) (by decide))
  rw [s2]
  show wpAny _ _ (spliced [(false, eval (.Name "root" pr) X.env)]) _ _ _
  refine Calls.spliced_cons (name_read kf kr hm mr (by decide +kernel) (Calls.spliced_nil ⟨I.kIn, ?_⟩))
  refine wpAny_call (gen_made (vs := [.int r]) T.F_endless_fractions sc_endless_fractions (by decide +kernel) (by have := hr.dp; omega) I.kIn I.nolimit T.b_endless_fractions (.cons ⟨_, rfl⟩ .nil) rfl fun cd ga h4 t4 la gg k4 hl4 => ?_)
  refine Calls.spliced_nil ?_
  refine call_enum_g (s := { s with gens := _, heap := h4, toks := t4 }) gg fun h5 e5 k5 => ?_
  have k5 : ∀ c o, h4.get? c = some o → h5.get? c = some o := k5
  refine wpAny_pyIter_enum (s := { s with gens := _, heap := h5, toks := t4 }) e5 ?_
  have e5 : IsEnum h5 h4.objs.size ga 0 .none := e5
  have la : s.heap.objs.size < ga := la
  have gl : ga < h4.objs.size := by
    obtain ⟨_, _, _, ho, _⟩ := id gg
    exact Heap.lt_size ho
  have kk : ∀ c o, s.heap.get? c = some o → h5.get? c = some o := fun c o z => k5 c o (k4 c o z)
  have nlf : X.env.locals ∉ X.fs := fun hb => by
    obtain ⟨_, o, ho, _⟩ := I.ok.funs.mem hb
    exact absurd (Heap.lt_size ho) (Nat.not_lt.mpr I.ok.above)
  have low : ∀ c ∈ frs X.stack, c < s.heap.objs.size := fun c hc => by
    obtain ⟨_, o, ho, _⟩ := I.stack.mem hc
    exact Heap.lt_size ho
  have A : ApartE X s.heap s.heap.objs.size h4.objs.size ga := ⟨hst, hfr, hfs, nlf, low, Nat.le_trans I.ok.bsz I.sz, Nat.le_refl _, Nat.le_of_lt (Nat.lt_trans la gl), Nat.le_of_lt la⟩
  have fu : h5.FunFrames X.base X.stack := funs_old low (fun c o _ z => ⟨o.slots, kk c o z⟩) I.stack
  have bare : AllBare (s.gens.push (.fresh (.func (defBody s_endless_fractions) (envE s.heap.objs.size T.f_endless_fractions cd)))) := AllBare.push I.bare rfl
  have W0 : WalkE X s.heap s.os s.heap.objs.size h4.objs.size ga s.gens.size r v a b (j + 1) 0 { s with gens := s.gens.push (.fresh (.func (defBody s_endless_fractions) (envE s.heap.objs.size T.f_endless_fractions cd))), heap := h5, toks := t4 } := by
    refine ⟨⟨rfl, bare, fun c o z => kk c o (I.bk c o z), fu, fun c o _ z => kk c o z, fun c o _ _ z => ⟨o.slots, kk c o z⟩, m0, hm.keeps kk⟩, ⟨m0, ta, tb, ts, hm.keeps kk, ma, mb, ms⟩, ⟨_, e5⟩, ?_, ?_, _, Array.getElem?_push_size .., rfl, fun s' B => ⟨rfl, ?_⟩⟩
    · obtain ⟨o, nm, qn, ho, rest⟩ := gg
      exact ⟨o, nm, qn, k5 _ _ ho, rest⟩
    · obtain ⟨_, m, h, _⟩ := hl4
      exact ⟨m, h.keeps k5⟩
    · refine fresh_e (A := X.A.in1.in1) (outer := X.stack) T I.ok.mod ?_ hr.hd I.ok.frames r2' r99 hw (by omega) s' ⟨B.bare, B.bs, Nat.le_trans I.ok.bsz I.sz, B.funs, low, fun p hp => nomatch hp⟩ ?_
      · exact (show Room 5 X.A.in1.in1 from Room.in1 (Room.in1 hr)).deeper _
      · obtain ⟨len, m, h, look⟩ := hl4
        exact ⟨len, m, (h.keeps k5).at' fun o z => B.frame o z, look⟩
  refine walk_enum A hr.hd (by have := hr.dp; omega) I.ok.mod.nolimit kf cls ka kb ks kt kp kq kg r2' r99 hw ba bb hj hpos hneg sw1 sw2 W0 fun s' t W => ?_
  exact ⟨.int j, _, H, inv_ret A I W, ⟨t, rfl⟩, q⟩
end
/-! ### number_of_length -/
section
variable {base : Heap} {K : PySem.W.Frag} {mg : Str → Option Value} {P : Program} {w : World}
/-- the number that is due: the first at which both coordinates are not negative -/
def NumAt (r v a b : Int) (j : Nat) : Prop := (0 ≤ cN r v a b (j + 1) ∧ 0 ≤ cN r v a b j) ∧ ∀ i, i < j → ¬ (0 ≤ cN r v a b (i + 1) ∧ 0 ≤ cN r v a b i)
def spNum (K : PySem.W.Frag) : Sp := fun vs H Q _ => ∃ (y : V) (r v a b : Int) (j : Nat), vs = [y, .int r] ∧ PairAt K H y a b ∧ 2 ≤ r ∧ r ≤ 99 ∧ isW r v ∧ a.natAbs < 2 ^ 9000 ∧ b.natAbs < 2 ^ 9000 ∧ j ≤ 800 ∧ NumAt r v a b j ∧ Q (.int j) H
theorem ok_number_of_length (T : Txt K mg) : FnOk P w K mg base CX0 8 T.f_number_of_length T.d_number_of_length ["length", "root"] (spNum K) := by
  refine T.F_number_of_length.ok sc_number_of_length (fun vs H Q E h => ?_) (fun cdv A outer s H vs Q E hr h => ?_)
  · obtain ⟨y, r, v, a, b, j, rfl, _⟩ := h
    rfl
  · obtain ⟨y, r, v, a, b, j, rfl, ⟨t, rfl, ht⟩, r2, r99, hw, ba, bb, hj, ⟨h1, h2⟩, q⟩ := h
    refine ⟨_, (pss_cons (ps_asg (pv 0) (pg_tup (by rfl) (pgs_cons (pg_name (i := 3) sc_number_of_length.nd rfl (Or.inl rfl)) (pgs_cons (pg_name (i := 4) sc_number_of_length.nd rfl (Or.inl rfl)) pgs_nil))))
      (pss_cons (ps_set (i := 2) sc_number_of_length.nd rfl (Or.inl rfl) (pe_un un_neg pe_int))
      (pss_one (ps_forE T rfl rfl rfl rfl rfl (hr.mono (by decide)) (by rfl) T.n_enumerate (by rfl) rfl rfl rfl rfl rfl rfl rfl rfl rfl rfl rfl rfl rfl (Or.inl rfl) (Or.inl rfl) (Or.inl rfl) (Or.inl rfl) (ia := 3) (ib := 4) (isx := 2) (ir := 1) rfl rfl rfl rfl rfl rfl rfl rfl (fun _ => rfl))))), ?_⟩
    refine ⟨_, rfl, t, _, rfl, ht, rfl, .int a, _, rfl, .int b, _, rfl, rfl, ?_⟩
    refine ⟨_, rfl, r, v, a, b, j, rfl, rfl, rfl, rfl, r2, r99, hw, ba, bb, hj, h1, fun i hi z => ?_, q⟩
    cases i with
    | zero => exact absurd z.2 (show ¬ (0 : Int) ≤ -1 by decide)
    | succ i => exact h2 i (by omega) z
end
/-! ### the sign by squares -/
def ab (i : Int) : Int := if i < 0 then -i else i
def vl (a b d : Int) : Int := a * ab a + d * b * ab b
def sgnI (x : Int) : Int := (if decide (0 < x) = true then 1 else 0) - (if decide (x < 0) = true then 1 else 0)
theorem sgnI_pos {x : Int} (h : 0 < x) : sgnI x = 1 := by
  unfold sgnI
  rw [if_pos (decide_eq_true h), if_neg (by simp; omega)]
  rfl
theorem sgnI_neg {x : Int} (h : x < 0) : sgnI x = -1 := by
  unfold sgnI
  rw [if_neg (by simp; omega), if_pos (decide_eq_true h)]
  rfl
theorem sgnI_zero : sgnI 0 = 0 := by decide
theorem ab_abs (i : Int) : (ab i).natAbs = i.natAbs := by
  unfold ab
  split <;> omega
theorem ab_neg {i : Int} (h : i < 0) : ab i = -i := if_pos h
theorem ab_nn {i : Int} (h : 0 ≤ i) : ab i = i := if_neg (by omega)
section
variable {base : Heap} {K : PySem.W.Frag} {mg : Str → Option Value} {P : Program} {w : World}
def spSign (K : PySem.W.Frag) : Sp := fun vs H Q _ => ∃ (t : Addr) (d a b : Int), vs = [.ref t, .int d] ∧ SqT K H t [.int a, .int b] ∧ d.natAbs < 2 ^ 64 ∧ a.natAbs < 2 ^ 9000 ∧ b.natAbs < 2 ^ 9000 ∧ Q (.int (sgnI (vl a b d))) H
theorem ok_lsign (T : Txt K mg) : FnOk P w K mg base CX0 1 T.f_lsign T.d_lsign ["_law_pair", "_law_root_z"] (spSign K) := by
  refine T.F_lsign.ok sc_lsign (fun vs H Q E h => ?_) (fun cdv A outer s H vs Q E hr h => ?_)
  · obtain ⟨t, d, a, b, rfl, _⟩ := h
    rfl
  · obtain ⟨t, d, a, b, rfl, hT, d1, a1, b1, q⟩ := h
    refine ⟨_, (pss_cons (ps_set (i := 2) sc_lsign.nd rfl (Or.inl rfl) (pe_op op_add (pe_op op_mulW (pe_ix ix_tup (pv 0) pe_int (fun _ _ => rfl)) (pe_callB call_abs (by rfl) T.n_abs (by decide +kernel) (pa_cons (pe_ix ix_tup (pv 0) pe_int (fun _ _ => rfl)) pa_nil))) (pe_op op_mulW (pe_op op_mulW (pv 1) (pe_ix ix_tup (pv 0) pe_int (fun _ _ => rfl))) (pe_callB call_abs (by rfl) T.n_abs (by decide +kernel) (pa_cons (pe_ix ix_tup (pv 0) pe_int (fun _ _ => rfl)) pa_nil)))))
      (pss_one (ps_ret (pe_op op_sub (pe_callTy call_int1 (by rfl) T.n_int (by decide +kernel) (pa_cons (pe_cmpR op_gt (pv 2) pe_int (nomark _)) pa_nil)) (pe_callTy call_int1 (by rfl) T.n_int (by decide +kernel) (pa_cons (pe_cmpR op_lt (pv 2) pe_int (nomark _)) pa_nil)))))), ?_⟩
    have a2 : (ab a).natAbs < 2 ^ 9000 := by rw [ab_abs]; exact a1
    have b2 : (ab b).natAbs < 2 ^ 9000 := by rw [ab_abs]; exact b1
    have m1 : (d * b).natAbs < 2 ^ (64 + 9000) := wide_lt d1 b1
    refine ⟨_, rfl, t, _, 0, .int a, rfl, rfl, hT, atI_nat (j := 0) rfl, _, rfl, t, _, 0, .int a, rfl, rfl, hT, atI_nat (j := 0) rfl, a, rfl, a, _, rfl, rfl, wide_mul a1 a2 (by decide) (by decide) (by decide),
      _, rfl, _, rfl, t, _, 1, .int b, rfl, rfl, hT, atI_nat (j := 1) rfl, d, b, rfl, rfl, wide_mul d1 b1 (by decide) (by decide) (by decide), _, rfl, t, _, 1, .int b, rfl, rfl, hT, atI_nat (j := 1) rfl, b, rfl, _, _, rfl, rfl, wide_mul m1 b2 (by decide) (by decide) (by decide), _, _, rfl, rfl, ?_⟩
    exact ⟨_, rfl, vl a b d, 0, rfl, rfl, .inr ⟨_, rfl, _, rfl, vl a b d, 0, rfl, rfl, .inr ⟨_, rfl, _, _, rfl, rfl, q⟩⟩⟩
end
/-! ### sign, compare, is_length -/
section
variable {base : Heap} {K : PySem.W.Frag} {mg : Str → Option Value} {P : Program} {w : World}
def spPSign (K : PySem.W.Frag) : Sp := fun vs H Q _ => ∃ (v : V) (d a b : Int), vs = [v, .int d] ∧ PairAt K H v a b ∧ d.natAbs < 2 ^ 64 ∧ a.natAbs < 2 ^ 9000 ∧ b.natAbs < 2 ^ 9000 ∧ Q (.int (sgnI (vl a b d))) H
theorem ok_sign (T : Txt K mg) : FnOk P w K mg base CX0 1 T.f_sign T.d_sign ["pair", "root"] (spPSign K) := by
  refine T.F_sign.ok sc_sign (fun vs H Q E h => ?_) (fun cdv A outer s H vs Q E hr h => ?_)
  · obtain ⟨t, d, a, b, rfl, _⟩ := h
    rfl
  · obtain ⟨v, d, a, b, rfl, ⟨t, rfl, hT⟩, d1, a1, b1, q⟩ := h
    refine ⟨_, (pss_cons (ps_asg (pv 0) (pg_tup (by rfl) (pgs_cons (pg_name (i := 3) sc_sign.nd rfl (Or.inl rfl)) (pgs_cons (pg_name (i := 4) sc_sign.nd rfl (Or.inl rfl)) pgs_nil))))
      (pss_cons (ps_set (i := 2) sc_sign.nd rfl (Or.inl rfl) (pe_op op_add (pe_op op_mulW (pv 3) (pe_callB call_abs (by rfl) T.n_abs (by decide +kernel) (pa_cons (pv 3) pa_nil))) (pe_op op_mulW (pe_op op_mulW (pv 1) (pv 4)) (pe_callB call_abs (by rfl) T.n_abs (by decide +kernel) (pa_cons (pv 4) pa_nil)))))
      (pss_cons (ps_if (pt_cmpR op_gt (pv 2) pe_int (nomark _)) (pss_one (ps_ret pe_int)) pss_nil)
      (pss_cons (ps_if (pt_cmpR op_lt (pv 2) pe_int (nomark _)) (pss_one (ps_ret (pe_un un_neg pe_int))) pss_nil)
      (pss_one (ps_ret pe_int)))))), ?_⟩
    have a2 : (ab a).natAbs < 2 ^ 9000 := by rw [ab_abs]; exact a1
    have b2 : (ab b).natAbs < 2 ^ 9000 := by rw [ab_abs]; exact b1
    have m1 : (d * b).natAbs < 2 ^ (64 + 9000) := wide_lt d1 b1
    refine ⟨_, rfl, t, _, rfl, hT, rfl, .int a, [.int b], rfl, .int b, [], rfl, rfl, ?_⟩
    refine ⟨_, rfl, _, rfl, a, rfl, a, _, rfl, rfl, wide_mul a1 a2 (by decide) (by decide) (by decide),
      _, rfl, _, rfl, d, b, rfl, rfl, wide_mul d1 b1 (by decide) (by decide) (by decide), _, rfl, b, rfl, _, _, rfl, rfl, wide_mul m1 b2 (by decide) (by decide) (by decide), _, _, rfl, rfl, ?_⟩
    refine ⟨_, rfl, vl a b d, 0, rfl, rfl, _, rfl, ite2 (fun e => ?_) (fun e => ?_)⟩
    · rw [sgnI_pos (of_decide_eq_true e)] at q
      exact q
    · have e1 : ¬ 0 < vl a b d := fun z => e (decide_eq_true z)
      refine ⟨_, rfl, vl a b d, 0, rfl, rfl, _, rfl, ite2 (fun e => ?_) (fun e => ?_)⟩
      · rw [sgnI_neg (of_decide_eq_true e)] at q
        exact ⟨1, rfl, q⟩
      · have e2 : ¬ vl a b d < 0 := fun z => e (decide_eq_true z)
        rw [show vl a b d = 0 by omega, sgnI_zero] at q
        exact q
end
section
variable {base : Heap} {K : PySem.W.Frag} {mg : Str → Option Value} {P : Program} {w : World}
def spIsLen (K : PySem.W.Frag) : Sp := fun vs H Q _ => ∃ (v : V) (d a b : Int), vs = [v, .int d] ∧ PairAt K H v a b ∧ d.natAbs < 2 ^ 64 ∧ a.natAbs < 2 ^ 9000 ∧ b.natAbs < 2 ^ 9000 ∧ Q (.bl (decide (0 < sgnI (vl a b d)))) H
theorem ok_is_length (T : Txt K mg) : FnOk P w K mg base CX0 2 T.f_is_length T.d_is_length ["pair", "root"] (spIsLen K) := by
  refine T.F_is_length.ok sc_is_length (fun vs H Q E h => ?_) (fun cdv A outer s H vs Q E hr h => ?_)
  · obtain ⟨v, d, a, b, rfl, _⟩ := h
    rfl
  · obtain ⟨v, d, a, b, rfl, h1, d1, a1, b1, q⟩ := h
    refine ⟨_, (pss_one (ps_ret (pe_cmpR op_gt (pe_call (ok_sign T) (hr.mono (by decide)) (by rfl) T.g_sign T.F_sign.kp T.b_sign .nil pass0 (pa_cons (pv 0) (pa_cons (pv 1) pa_nil))) pe_int (nomark _)))), ?_⟩
    exact ⟨_, rfl, _, rfl, v, d, a, b, rfl, h1, d1, a1, b1, _, 0, rfl, rfl, q⟩
end
/-! ### the sign of a row's number -/
def tP (n p : Int) : Int := if n % 2 = 0 then -p else p
def tQ (n q : Int) : Int := if n % 2 = 0 then q else -q
/-! ### what the fractions are like -/
def alt : Nat → Int
  | 0 => 1
  | i + 1 => -alt i
theorem alt_is (n : Nat) : alt n = if (n : Int) % 2 = 0 then 1 else -1 := by
  induction n with
  | zero => rfl
  | succ n ih =>
    show -alt n = _
    rw [ih]
    split <;> split <;> omega
theorem cf_det (r w : Int) : ∀ i, (cfR r w i).1.1 * (cfR r w i).2.2 - (cfR r w i).1.2 * (cfR r w i).2.1 = alt i
  | 0 => rfl
  | i + 1 => by
    have ih := cf_det r w i
    show ((cfR r w i).1.1 * (cfS r w i).2.2 + (cfR r w i).2.1) * (cfR r w i).1.2 - ((cfR r w i).1.2 * (cfS r w i).2.2 + (cfR r w i).2.2) * (cfR r w i).1.1 = -alt i
    rw [← ih]
    grind
theorem cf_det2 (r w : Int) (n : Nat) : (cfF r w (n + 1)).1 * (cfF r w n).2 - (cfF r w (n + 1)).2 * (cfF r w n).1 = alt n := by
  have := cf_det r w (n + 2)
  rw [cfR_two] at this
  have e : alt (n + 2) = alt n := Int.neg_neg _
  rw [e] at this
  exact this
/-! ### the norms of the fractions, the signs of the tile lengths -/
def cfU (r w : Int) : Nat → Int
  | 0 => r
  | i + 1 => (cfS r w i).2.1
structure CfNorm (r w : Int) (i : Nat) : Prop where
  tu : (cfS r w i).2.1 * cfU r w i = r - (cfS r w i).1 * (cfS r w i).1
  a : (cfR r w i).1.1 * (cfR r w i).1.1 - r * ((cfR r w i).1.2 * (cfR r w i).1.2) = alt i * (cfS r w i).2.1
  b : (cfR r w i).2.1 * (cfR r w i).2.1 - r * ((cfR r w i).2.2 * (cfR r w i).2.2) = -(alt i * cfU r w i)
  c : (cfR r w i).1.1 * (cfR r w i).2.1 - r * ((cfR r w i).1.2 * (cfR r w i).2.2) = -(alt i * (cfS r w i).1)
theorem cf_norm {r w : Int} (h2 : 2 ≤ r) (h99 : r ≤ 99) (hw : isW r w) : ∀ i, CfNorm r w i
  | 0 => by
    constructor
    · show (1 : Int) * r = r - 0 * 0
      omega
    · show (1 : Int) * 1 - r * (0 * 0) = 1 * 1
      omega
    · show (0 : Int) * 0 - r * (1 * 1) = -(1 * r)
      omega
    · show (1 : Int) * 0 - r * (0 * 1) = -(1 * 0)
      omega
  | i + 1 => by
    obtain ⟨tu, a, b, c⟩ := cf_norm h2 h99 hw i
    obtain ⟨_, _, t1, _, _, _⟩ := cf_num h2 h99 hw i
    have ed : (cfS r w (i + 1)).2.1 = cfU r w i - (cfS r w i).2.1 * ((cfS r w i).2.2 * (cfS r w i).2.2) + 2 * ((cfS r w i).2.2 * (cfS r w i).1) := by
      show (r - ((cfS r w i).2.1 * (cfS r w i).2.2 - (cfS r w i).1) * ((cfS r w i).2.1 * (cfS r w i).2.2 - (cfS r w i).1)) / (cfS r w i).2.1 = _
      generalize (cfS r w i).2.1 = t at *
      generalize (cfS r w i).2.2 = k at *
      generalize (cfS r w i).1 = m at *
      generalize cfU r w i = u at *
      have : r - (t * k - m) * (t * k - m) = t * (u - t * (k * k) + 2 * (k * m)) := by grind
      rw [this]
      exact Int.mul_ediv_cancel_left _ (by omega)
    have em : (cfS r w (i + 1)).1 = (cfS r w i).2.1 * (cfS r w i).2.2 - (cfS r w i).1 := rfl
    have ep : (cfR r w (i + 1)).1 = ((cfR r w i).1.1 * (cfS r w i).2.2 + (cfR r w i).2.1, (cfR r w i).1.2 * (cfS r w i).2.2 + (cfR r w i).2.2) := rfl
    have eq : (cfR r w (i + 1)).2 = (cfR r w i).1 := rfl
    have ea : alt (i + 1) = -alt i := rfl
    have eu : cfU r w (i + 1) = (cfS r w i).2.1 := rfl
    constructor
    · rw [ed, em, eu]
      clear ed em ep eq ea eu a b c
      generalize (cfS r w i).2.1 = t at *
      generalize (cfS r w i).2.2 = k at *
      generalize (cfS r w i).1 = m at *
      generalize cfU r w i = u at *
      grind
    · rw [ed, ep, ea]
      clear ed em ep eq ea eu
      generalize (cfS r w i).2.1 = t at *
      generalize (cfS r w i).2.2 = k at *
      generalize (cfS r w i).1 = m at *
      generalize cfU r w i = u at *
      generalize (cfR r w i).1.1 = p at *
      generalize (cfR r w i).1.2 = q at *
      generalize (cfR r w i).2.1 = x at *
      generalize (cfR r w i).2.2 = y at *
      generalize alt i = s at *
      show (p * k + x) * (p * k + x) - r * ((q * k + y) * (q * k + y)) = _
      have e : (p * k + x) * (p * k + x) - r * ((q * k + y) * (q * k + y)) = k * k * (p * p - r * (q * q)) + 2 * k * (p * x - r * (q * y)) + (x * x - r * (y * y)) := by grind
      rw [e, a, b, c]
      grind
    · rw [eq, eu, ea, a]
      grind
    · rw [ep, eq, ea, em]
      clear ed em ep eq ea eu
      generalize (cfS r w i).2.1 = t at *
      generalize (cfS r w i).2.2 = k at *
      generalize (cfS r w i).1 = m at *
      generalize (cfR r w i).1.1 = p at *
      generalize (cfR r w i).1.2 = q at *
      generalize (cfR r w i).2.1 = x at *
      generalize (cfR r w i).2.2 = y at *
      generalize alt i = s at *
      show (p * k + x) * p - r * ((q * k + y) * q) = _
      have e : (p * k + x) * p - r * ((q * k + y) * q) = k * (p * p - r * (q * q)) + (p * x - r * (q * y)) := by grind
      rw [e, a, c]
      grind
/-- the norm of a fraction -/
theorem cfF_norm {r w : Int} (h2 : 2 ≤ r) (h99 : r ≤ 99) (hw : isW r w) (n : Nat) : r * ((cfF r w n).2 * (cfF r w n).2) - (cfF r w n).1 * (cfF r w n).1 = alt n * (cfS r w (n + 1)).2.1 := by
  have := (cf_norm h2 h99 hw (n + 1)).a
  have ea : alt (n + 1) = -alt n := rfl
  rw [ea] at this
  show r * ((cfR r w (n + 1)).1.2 * (cfR r w (n + 1)).1.2) - (cfR r w (n + 1)).1.1 * (cfR r w (n + 1)).1.1 = _
  grind
/-- of two in a row -/
theorem cfF_two {r w : Int} (h2 : 2 ≤ r) (h99 : r ≤ 99) (hw : isW r w) (n : Nat) : r * (((cfF r w n).2 + (cfF r w (n + 1)).2) * ((cfF r w n).2 + (cfF r w (n + 1)).2)) - ((cfF r w n).1 + (cfF r w (n + 1)).1) * ((cfF r w n).1 + (cfF r w (n + 1)).1) =
    alt n * ((cfS r w (n + 1)).2.1 - (cfS r w (n + 2)).2.1 + 2 * (cfS r w (n + 2)).1) := by
  have h0 := cfF_norm h2 h99 hw n
  have h1 := cfF_norm h2 h99 hw (n + 1)
  have hc := (cf_norm h2 h99 hw (n + 2)).c
  rw [cfR_two] at hc
  have ea : alt (n + 1) = -alt n := rfl
  have eb : alt (n + 2) = alt n := Int.neg_neg _
  rw [ea] at h1
  rw [eb] at hc
  dsimp only at hc
  generalize (cfF r w n).1 = p at *
  generalize (cfF r w n).2 = q at *
  generalize (cfF r w (n + 1)).1 = x at *
  generalize (cfF r w (n + 1)).2 = y at *
  grind
theorem cf_gap {r w : Int} (h2 : 2 ≤ r) (h99 : r ≤ 99) (hw : isW r w) (n : Nat) : 0 < (cfS r w (n + 1)).2.1 - (cfS r w (n + 2)).2.1 + 2 * (cfS r w (n + 2)).1 := by
  obtain ⟨g, _⟩ := cf_good h2 h99 hw (n + 1)
  obtain ⟨m1, m2, t1, t2, t3, t4, t5, t6⟩ := of_decide_eq_true g
  have tu := (cf_norm h2 h99 hw (n + 2)).tu
  have e : (r - (cfS r w (n + 1 + 1)).1 * (cfS r w (n + 1 + 1)).1) / (cfS r w (n + 1 + 1)).2.1 = (cfS r w (n + 1)).2.1 := by
    rw [← tu]
    exact Int.mul_ediv_cancel_left _ (show (cfS r w (n + 2)).2.1 ≠ 0 by have : 1 ≤ (cfS r w (n + 2)).2.1 := t1; omega)
  rw [e] at t6
  have : (cfS r w (n + 2)).2.1 < (cfS r w (n + 1)).2.1 + 2 * (cfS r w (n + 2)).1 := t6
  omega
theorem vl_np {p q r : Int} (hp : 0 ≤ p) (hq : 0 ≤ q) : vl (-p) q r = r * (q * q) - p * p := by
  unfold vl
  rw [ab_nn hq, show ab (-p) = p by unfold ab; split <;> omega]
  grind
theorem vl_pn {p q r : Int} (hp : 0 ≤ p) (hq : 0 ≤ q) : vl p (-q) r = p * p - r * (q * q) := by
  unfold vl
  rw [ab_nn hp, show ab (-q) = q by unfold ab; split <;> omega]
  grind
/-- a tile length is more than nothing -/
theorem tile_pos {r w : Int} (h2 : 2 ≤ r) (h99 : r ≤ 99) (hw : isW r w) (n : Nat) : 0 < vl (tP n (cfF r w n).1) (tQ n (cfF r w n).2) r := by
  obtain ⟨⟨a, b, _, _⟩, _⟩ := cf_bound h2 h99 hw (n + 1)
  have hn := cfF_norm h2 h99 hw n
  obtain ⟨_, _, t1, _, _, _⟩ := cf_num h2 h99 hw (n + 1)
  have a : 0 ≤ (cfF r w n).1 := a
  have b : 0 ≤ (cfF r w n).2 := b
  rw [alt_is] at hn
  unfold tP tQ
  by_cases e : (n : Int) % 2 = 0
  · rw [if_pos e] at hn
    rw [if_pos e, if_pos e, vl_np a b]
    show 0 < r * ((cfF r w n).2 * (cfF r w n).2) - (cfF r w n).1 * (cfF r w n).1
    omega
  · rw [if_neg e] at hn
    rw [if_neg e, if_neg e, vl_pn a b]
    show 0 < (cfF r w n).1 * (cfF r w n).1 - r * ((cfF r w n).2 * (cfF r w n).2)
    omega
/-- and more than the next -/
theorem tile_gap {r w : Int} (h2 : 2 ≤ r) (h99 : r ≤ 99) (hw : isW r w) (n : Nat) : 0 < vl (tP n (cfF r w n).1 - tP ((n : Int) + 1) (cfF r w (n + 1)).1) (tQ n (cfF r w n).2 - tQ ((n : Int) + 1) (cfF r w (n + 1)).2) r := by
  obtain ⟨⟨a, b, _, _⟩, _⟩ := cf_bound h2 h99 hw (n + 1)
  obtain ⟨⟨a', b', _, _⟩, _⟩ := cf_bound h2 h99 hw (n + 2)
  have a : 0 ≤ (cfF r w n).1 := a
  have b : 0 ≤ (cfF r w n).2 := b
  have a' : 0 ≤ (cfF r w (n + 1)).1 := a'
  have b' : 0 ≤ (cfF r w (n + 1)).2 := b'
  have hn := cfF_two h2 h99 hw n
  have hg := cf_gap h2 h99 hw n
  rw [alt_is] at hn
  unfold tP tQ
  by_cases e : (n : Int) % 2 = 0
  · rw [if_pos e] at hn
    rw [if_pos e, if_pos e, if_neg (by omega), if_neg (by omega)]
    rw [show -(cfF r w n).1 - (cfF r w (n + 1)).1 = -((cfF r w n).1 + (cfF r w (n + 1)).1) by omega, show (cfF r w n).2 - -(cfF r w (n + 1)).2 = (cfF r w n).2 + (cfF r w (n + 1)).2 by omega, vl_np (by omega) (by omega)]
    omega
  · rw [if_neg e] at hn
    rw [if_neg e, if_neg e, if_pos (by omega), if_pos (by omega)]
    rw [show (cfF r w n).1 - -(cfF r w (n + 1)).1 = (cfF r w n).1 + (cfF r w (n + 1)).1 by omega, show -(cfF r w n).2 - (cfF r w (n + 1)).2 = -((cfF r w n).2 + (cfF r w (n + 1)).2) by omega, vl_pn (by omega) (by omega)]
    omega
/-! ### the first number: that there is one, and that it stays one -/
section
variable {r v a b : Int}
theorem cN_two (r v a b : Int) (i : Nat) : cN r v a b (i + 2) = (cfS r v (i + 2)).2.2 * cN r v a b (i + 1) + cN r v a b i := by
  have e1 : cfF r v (i + 2) = ((cfF r v (i + 1)).1 * (cfS r v (i + 2)).2.2 + (cfF r v i).1, (cfF r v (i + 1)).2 * (cfS r v (i + 2)).2.2 + (cfF r v i).2) := rfl
  unfold cN
  rw [e1]
  dsimp only
  grind
/-- both coordinates at a number are not negative -/
def OkAt (r v a b : Int) (n : Nat) : Prop := 0 ≤ cN r v a b n ∧ 0 ≤ cN r v a b (n + 1)
theorem OkAt.up (r2 : 2 ≤ r) (r99 : r ≤ 99) (hw : isW r v) {n : Nat} (h : OkAt r v a b n) : OkAt r v a b (n + 1) := by
  obtain ⟨_, _, _, _, k1, _⟩ := cf_num r2 r99 hw (n + 2)
  refine ⟨h.2, ?_⟩
  rw [show n + 1 + 1 = n + 2 from rfl, cN_two]
  have := Int.mul_nonneg (show 0 ≤ (cfS r v (n + 2)).2.2 by omega) h.2
  have := h.1
  omega
theorem OkAt.le (r2 : 2 ≤ r) (r99 : r ≤ 99) (hw : isW r v) {n : Nat} (h : OkAt r v a b n) : ∀ d, OkAt r v a b (n + d)
  | 0 => h
  | d + 1 => (OkAt.le r2 r99 hw h d).up r2 r99 hw
theorem q_grow (r2 : 2 ≤ r) (r99 : r ≤ 99) (hw : isW r v) : ∀ m : Nat, (2 : Int) ^ m ≤ (cfF r v (2 * m)).2 ∧ (2 : Int) ^ m ≤ (cfF r v (2 * m + 1)).2
  | 0 => by
    obtain ⟨_, _, _, _, k1, _⟩ := cf_num r2 r99 hw 1
    refine ⟨show (1 : Int) ≤ 0 * v + 1 by omega, ?_⟩
    show (1 : Int) ≤ (0 * v + 1) * (cfS r v 1).2.2 + 0
    rw [Int.zero_mul, Int.zero_add, Int.one_mul, Int.add_zero]
    exact k1
  | m + 1 => by
    obtain ⟨h0, h1⟩ := q_grow r2 r99 hw m
    obtain ⟨_, _, _, _, k1, _⟩ := cf_num r2 r99 hw (2 * m + 2)
    obtain ⟨_, _, _, _, k1', _⟩ := cf_num r2 r99 hw (2 * m + 3)
    have e2 : (cfF r v (2 * m + 2)).2 = (cfF r v (2 * m + 1)).2 * (cfS r v (2 * m + 2)).2.2 + (cfF r v (2 * m)).2 := rfl
    have e3 : (cfF r v (2 * m + 3)).2 = (cfF r v (2 * m + 2)).2 * (cfS r v (2 * m + 3)).2.2 + (cfF r v (2 * m + 1)).2 := rfl
    have p : (0 : Int) < 2 ^ m := Int.pow_pos (by decide)
    have u2 := Int.mul_le_mul_of_nonneg_left k1 (show 0 ≤ (cfF r v (2 * m + 1)).2 by omega)
    have ep : (2 : Int) ^ (m + 1) = 2 ^ m * 2 := Int.pow_succ 2 m
    have g2 : (2 : Int) ^ (m + 1) ≤ (cfF r v (2 * m + 2)).2 := by omega
    have u3 := Int.mul_le_mul_of_nonneg_left k1' (show 0 ≤ (cfF r v (2 * m + 2)).2 by omega)
    exact ⟨g2, by show (2 : Int) ^ (m + 1) ≤ (cfF r v (2 * m + 3)).2; omega⟩
theorem sq_less {x y : Int} (hx : 0 ≤ x) (h : x < y) : x * x < y * y := by
  have h1 := Int.mul_le_mul_of_nonneg_left (Int.le_of_lt h) hx
  have h2 := Int.mul_lt_mul_of_pos_right h (show 0 < y by omega)
  omega
/-- a length is nearly its own first coordinate, where the denominator is great -/
theorem first_nn {p q : Int} (h : 0 < vl a b r) (hr : 2 ≤ r) (hp : 0 ≤ p) (hq : 0 ≤ q) (n1 : r * (q * q) - p * p ≤ 99) (n2 : p * p - r * (q * q) ≤ 99) (big : 99 * (b * b) < q * q) : 0 ≤ a * q + b * p := by
  unfold vl at h
  have B0 : 0 ≤ b * b := by
    rcases Int.le_total 0 b with z | z
    · exact Int.mul_nonneg z z
    · exact Int.mul_nonneg_of_nonpos_of_nonpos z z
  have Q0 : 0 ≤ q * q := Int.mul_nonneg hq hq
  have e1 := Int.mul_le_mul_of_nonneg_left n1 B0
  have e2 := Int.mul_le_mul_of_nonneg_left n2 B0
  rcases Int.lt_or_le (a * q + b * p) 0 with c | c
  · exfalso
    rcases Int.lt_or_le a 0 with ha | ha <;> rcases Int.lt_or_le b 0 with hb | hb
    · rw [ab_neg ha, ab_neg hb] at h
      have t1 := Int.mul_pos_of_neg_of_neg ha ha
      have t2 := Int.mul_nonneg (show 0 ≤ r by omega) B0
      grind
    · rw [ab_neg ha, ab_nn hb] at h
      have t := sq_less (x := b * p) (y := -a * q) (Int.mul_nonneg hb hp) (by grind)
      have f : (a * a + 1) * (q * q) ≤ (r * (b * b)) * (q * q) := Int.mul_le_mul_of_nonneg_right (by grind) Q0
      grind
    · rw [ab_nn ha, ab_neg hb] at h
      have t := sq_less (x := a * q) (y := -b * p) (Int.mul_nonneg ha hq) (by grind)
      have f : (r * (b * b) + 1) * (q * q) ≤ (a * a) * (q * q) := Int.mul_le_mul_of_nonneg_right (by grind) Q0
      grind
    · have t1 := Int.mul_nonneg ha hq
      have t2 := Int.mul_nonneg hb hp
      omega
  · exact c
theorem okat_late (r2 : 2 ≤ r) (r99 : r ≤ 99) (hw : isW r v) (h : 0 < vl a b r) (hb : b.natAbs < 2 ^ 72) : OkAt r v a b 160 := by
  have nn : ∀ i, (2 : Int) ^ 80 ≤ (cfF r v i).2 → 0 ≤ cN r v a b i := fun i g => by
    obtain ⟨⟨p0, q0, _, _⟩, _⟩ := cf_bound r2 r99 hw (i + 1)
    obtain ⟨_, _, t1, t2, _, _⟩ := cf_num r2 r99 hw (i + 1)
    have hn := cfF_norm r2 r99 hw i
    have q0 : 0 ≤ (cfF r v i).2 := q0
    have big : 99 * (b * b) < (cfF r v i).2 * (cfF r v i).2 := by
      have hb2 : b * b ≤ 2 ^ 72 * 2 ^ 72 := by
        have e : b * b = ((b.natAbs : Nat) : Int) * ((b.natAbs : Nat) : Int) := (Int.natAbs_mul_self (a := b)).symm
        rw [e]
        exact Int.mul_le_mul (by omega) (by omega) (by omega) (by decide)
      have g2 := Int.mul_le_mul g g (by decide) q0
      have : (99 : Int) * (2 ^ 72 * 2 ^ 72) < 2 ^ 80 * 2 ^ 80 := by decide
      omega
    rw [alt_is] at hn
    refine first_nn h r2 p0 q0 ?_ ?_ big <;> split at hn <;> (show _ ≤ (99 : Int); unfold cfF at *; omega)
  obtain ⟨g0, g1⟩ := q_grow r2 r99 hw 80
  exact ⟨nn 160 g0, nn 161 g1⟩
theorem num_is (r2 : 2 ≤ r) (r99 : r ≤ 99) (hw : isW r v) (h : 0 < vl a b r) (hb : b.natAbs < 2 ^ 72) : ∃ j, j ≤ 160 ∧ NumAt r v a b j := by
  have least : ∀ n, OkAt r v a b n → ∃ j, j ≤ n ∧ NumAt r v a b j := fun n => by
    induction n using Nat.strongRecOn with
    | _ n ih =>
      intro hn
      by_cases c : ∃ i, i < n ∧ OkAt r v a b i
      · obtain ⟨i, hi, ho⟩ := c
        obtain ⟨j, hj, N⟩ := ih i hi ho
        exact ⟨j, by omega, N⟩
      · exact ⟨n, Nat.le_refl _, ⟨hn.2, hn.1⟩, fun i hi z => c ⟨i, hi, z.2, z.1⟩⟩
  exact least 160 (okat_late r2 r99 hw h hb)
end
/-! ### max of a list of whole numbers, with what stands for none; min of a tuple of some -/
theorem vals_hold {h : Heap} : ∀ {ns : List Int} {us : List Value}, Vals (ns.map V.int) us → PySem.W.HoldAll h us ns
  | [], _, r => by
    cases r
    exact ⟨_, .nil⟩
  | n :: ns, _, r => by
    cases r with
    | cons r1 rest =>
      obtain ⟨t, rfl⟩ := r1
      obtain ⟨as, rd⟩ := vals_hold rest
      exact ⟨_, .cons (.int n t) rd⟩
theorem max_top : ∀ (ys : List Int) (y : Int), PySem.W.maxOf y ys ∈ y :: ys ∧ ∀ z ∈ y :: ys, z ≤ PySem.W.maxOf y ys
  | [], y => ⟨List.mem_cons_self, fun z hz => by rw [List.mem_singleton.mp hz]; exact Int.le_refl _⟩
  | x :: xs, y => by
    have e : PySem.W.maxOf y (x :: xs) = PySem.W.maxOf (if decide (y < x) = true then x else y) xs := rfl
    rw [e]
    by_cases c : y < x
    · rw [decide_eq_true c, if_pos rfl]
      obtain ⟨m, g⟩ := max_top xs x
      refine ⟨List.mem_cons_of_mem _ m, fun z hz => ?_⟩
      rcases List.mem_cons.mp hz with rfl | hz
      · exact Int.le_trans (Int.le_of_lt c) (g x List.mem_cons_self)
      · exact g z hz
    · rw [decide_eq_false c, if_neg (by decide)]
      obtain ⟨m, g⟩ := max_top xs y
      refine ⟨?_, fun z hz => ?_⟩
      · rcases List.mem_cons.mp m with q | q
        · rw [q]
          exact List.mem_cons_self
        · exact List.mem_cons_of_mem _ (List.mem_cons_of_mem _ q)
      · rcases List.mem_cons.mp hz with rfl | hz
        · exact g _ List.mem_cons_self
        · rcases List.mem_cons.mp hz with rfl | hz
          · exact Int.le_trans (by omega) (g y List.mem_cons_self)
          · exact g z (List.mem_cons_of_mem _ hz)
theorem min_low : ∀ (ys : List Int) (y : Int), PySem.W.minOf y ys ∈ y :: ys ∧ ∀ z ∈ y :: ys, PySem.W.minOf y ys ≤ z
  | [], y => ⟨List.mem_cons_self, fun z hz => by rw [List.mem_singleton.mp hz]; exact Int.le_refl _⟩
  | x :: xs, y => by
    have e : PySem.W.minOf y (x :: xs) = PySem.W.minOf (if decide (x < y) = true then x else y) xs := rfl
    rw [e]
    by_cases c : x < y
    · rw [decide_eq_true c, if_pos rfl]
      obtain ⟨m, g⟩ := min_low xs x
      refine ⟨List.mem_cons_of_mem _ m, fun z hz => ?_⟩
      rcases List.mem_cons.mp hz with rfl | hz
      · exact Int.le_trans (g x List.mem_cons_self) (Int.le_of_lt c)
      · exact g z hz
    · rw [decide_eq_false c, if_neg (by decide)]
      obtain ⟨m, g⟩ := min_low xs y
      refine ⟨?_, fun z hz => ?_⟩
      · rcases List.mem_cons.mp m with q | q
        · rw [q]
          exact List.mem_cons_self
        · exact List.mem_cons_of_mem _ (List.mem_cons_of_mem _ q)
      · rcases List.mem_cons.mp hz with rfl | hz
        · exact g _ List.mem_cons_self
        · rcases List.mem_cons.mp hz with rfl | hz
          · exact Int.le_trans (g y List.mem_cons_self) (by omega)
          · exact g z (List.mem_cons_of_mem _ hz)
section
variable {X : Cx}
def rMinT (K : PySem.W.Frag) : List V → Hp → VK → Prop := fun vs H Q => ∃ (t : Addr) (ns : List Int), vs = [.ref t] ∧ SqT K H t (ns.map V.int) ∧ ns ≠ [] ∧ ∀ m, m ∈ ns → (∀ y ∈ ns, m ≤ y) → Q (.int m) H
theorem cr_minT {K : PySem.W.Frag} (hK : X.K = K) (hc : X.calm = true) (hu : X.A.units + 64 < cLine) : CallR X (.builtin "min") (rMinT K) := by
  subst hK
  intro pins s σ H vs us Q I r h
  obtain ⟨t, ns, rfl, sq, ne, q⟩ := h
  obtain ⟨its, rv, tp, _⟩ := I.tuple sq
  obtain ⟨u, rfl, ru⟩ := r.one
  cases ru
  cases ns with
  | nil => exact absurd rfl ne
  | cons y ys =>
    refine PySem.W.min_tuple_datum (α := Int) (x := y) (xs := ys) (I.ok.hd hc) tp (vals_hold rv) (by show X.A.units + 1 + _ < _; exact Nat.lt_of_le_of_lt (Nat.add_le_add_left (show PySem.W.Datum.depth Int ≤ 50 by decide) _) (by omega)) fun i v h' tk _ hold hk => ?_
    obtain ⟨as, rd⟩ := hold
    have rd : Reads h' v (.int (PySem.W.minOf y ys)) as := rd
    cases rd with
    | int _ tv =>
      obtain ⟨m1, m2⟩ := min_low ys y
      exact ⟨.int _, H, I.kept hk, ⟨_, rfl⟩, q _ m1 m2⟩
def tMaxD (K : PySem.W.Frag) (d : Int) (ta : TA) : TE := fun σ H Q => ta σ H fun vs H1 => ∃ (a : Addr) (ns : List Int), vs = [.ref a] ∧ SqL K H1 a (ns.map V.int) ∧ (ns = [] → Q (.int d) H1) ∧ ∀ m, m ∈ ns → (∀ y ∈ ns, y ≤ m) → Q (.int m) H1
theorem pe_maxD {e ke : Expr} {ta : TA} {d : Int} {p pos kp : Pos} (hc : X.calm = true) (hu : X.A.units + 64 < cLine) (hg : Gl X "max") (hm : X.mg "max" = none) (ha : PA X [e] ta) (hk : PE X ke (tC (.int d)))
    (he : backTo pos (starEach [e] X.env) = (false, eval e X.env) :: backTo pos (starEach [] X.env) := by rfl) (hpl : (backTo pos (starEach [e] X.env)).any (·.1) = false := by rfl) (hall : (backToKw pos (keywordEach [⟨some "default", ke, kp⟩] X.env)).all (·.1.isSome) = true := by rfl)
    (hkw : (backToKw pos (keywordEach [⟨some "default", ke, kp⟩] X.env)).any (·.1.isNone) = false := by rfl) : PE X (.Call (.Name "max" p) [e] [⟨some "default", ke, kp⟩] pos) (tMaxD X.K d ta) := by
  refine ⟨fun pins s σ H Q I h => wpAny_Call_Name_kw (ld_blt I hg hm PyProof.Rows.boot_max (PyProof.Rows.callWith_kw ?_ he hpl hall hkw))⟩
  refine thn (ha.run pos pins s σ H _ I h) ?_
  rintro us s1 ⟨vs, H1, I1, r, a, ns, rfl, sq, q0, q1⟩
  obtain ⟨u, rfl, ru⟩ := r.one
  cases ru
  refine PyProof.Rows.kws_cons (thn (hk.run pins s1 σ H1 (fun v G => v = .int d ∧ G = H1) I1 ⟨rfl, rfl⟩) ?_)
  rintro v s2 ⟨v', G, I2, rv, rfl, rfl⟩
  obtain ⟨t, rfl⟩ := rv
  refine PyProof.Rows.kws_nil ?_
  obtain ⟨its, rvs, lp, _⟩ := I2.list sq
  show wpAny _ _ (call (.builtin "max") [.ref a] [(Str.ofString "default", .int d t)]) _ _ _
  refine PySem.W.max_list_datum_default (α := Int) (xs := ns) (I2.ok.hd hc) lp.isList (vals_hold rvs) (by show X.A.units + 1 + _ < _; exact Nat.lt_of_le_of_lt (Nat.add_le_add_left (show PySem.W.Datum.depth Int ≤ 50 by decide) _) (by omega)) (fun e0 h' tk hk' => ⟨.int d, _, I2.kept hk', ⟨_, rfl⟩, q0 e0⟩) fun y ys i v h' tk e1 _ hold hk' => ?_
  obtain ⟨as, rd⟩ := hold
  have rd : Reads h' v (.int (PySem.W.maxOf y ys)) as := rd
  cases rd with
  | int _ tv =>
    obtain ⟨m1, m2⟩ := max_top ys y
    subst e1
    exact ⟨.int _, _, I2.kept hk', ⟨_, rfl⟩, q1 _ m1 m2⟩
end
section
variable {X : Cx}
/-- enumerate(v), where iter(v) is told by B -/
theorem enum_new {P : Program} {w : World} {A : Around} {E : Value → Shared → Prop} {s : Shared} {v : Value} {Q : Fin → Shared → Prop} (h : wpAny (model P w) A (pyIter v) (fun it s1 => wpAny (model P w) A (newObj (.type "enumerate") (.fields #[.none, .bool false, it, rawInt 0, .none, .none])) (fun e s2 => Q (.done (.ret e)) s2) E s1) E s) :
    wpAny (model P w) A (Builtin.«enumerate.__new__» ⟨[.type "enumerate", v], []⟩) Q E s := by
  have cls : Builtin.SmallTypes.newClass "enumerate" ⟨[.type "enumerate", v], []⟩ = pure (.type "enumerate", [v]) := by
    simp only [Builtin.SmallTypes.newClass, PySem.sub_enumerate]
    rfl
  unfold Builtin.«enumerate.__new__»
  refine wpAny_bind (wpAny_of_eq cls ?_)
  show wpAny _ _ (Builtin.SmallTypes.calledThroughType (.type "enumerate") >>= _) _ _ _
  refine wpAny_bind (wpAny_bind (wpAny_stack_any fun st => wpAny_pure ?_))
  dsimp only
  split <;> try split
  all_goals
    refine wpAny_bind (wpAny_of_eq (a := (v, none)) rfl ?_)
    refine wpAny_bind (wpAny_mono h (fun it s1 h1 => ?_) fun _ _ z => z)
    exact wpAny_bind (wpAny_mono h1 (fun e s2 h2 => wpAny_pure h2) fun _ _ z => z)
theorem PI.or {tg e : Expr} {a b : TI} (h1 : PI X tg e a) (h2 : PI X tg e b) : PI X tg e (fun σ H R => a σ H R ∨ b σ H R) := ⟨fun pins s σ H R I h => h.elim (h1.run pins s σ H R I) (h2.run pins s σ H R I)⟩
end
section
variable {X : Cx}
theorem pi_seq {tg e : Expr} {t : TE} (h : PE X e t) : PI X tg e (fun σ H R => iList X.K t σ H R ∨ iTup X.K t σ H R) := PI.or (pi_list h) (pi_tup h)
end
/-! ### enumerate of a tuple -/
def ItU (K : PySem.W.Frag) (a : Addr) : It where
  go := fun i H => ∃ (xs : List V) (x : V), SqT K H a xs ∧ xs[i]? = some x
  yld := fun i H v H' => ∃ T x, v = .ref T ∧ H T = none ∧ H' = upd H T (.tup [.int (i : Nat), x]) ∧ ∀ xs, SqT K H a xs → xs[i]? = some x
  stop := fun i H => ∃ xs : List V, SqT K H a xs ∧ xs.length = i
section
variable {X : Cx}
theorem turnU {P : Program} {w : World} {K : PySem.W.Frag} {elts : List Expr} {kk : Nat} {tpos : Pos} {a e it : Addr} (ne : e ≠ it) (na : a ≠ it) (nb : a ≠ e) : Turn P w K (.Tuple elts kk tpos) (ItU K a) [e, it] e (fun i h => (∃ old, IsEnum h e it ((i : Nat) : Int) old) ∧ h.IsTupleIter it a i) where
  mem := List.mem_cons_self
  obj := by
    rintro i h ⟨⟨old, he⟩, oi, h1, _, h3⟩ b hb
    rcases List.mem_cons.mp hb with rfl | hb
    · exact ⟨_, he, fun _ z => nomatch z⟩
    · rw [List.mem_singleton.mp hb]
      exact ⟨oi, h1, fun _ z => by rw [h3] at z; cases z⟩
  keep := by
    rintro i h h' ⟨⟨old, he⟩, hi⟩ k
    exact ⟨⟨old, k e List.mem_cons_self _ he⟩, hi.at fun o z => k it (List.mem_cons_of_mem _ List.mem_cons_self) o z⟩
  self := by
    rintro A i s Q E ⟨⟨old, he⟩, _⟩ q
    exact wpAny_pyIter_enum he q
  item := by
    intro Y hP hw hK hc i pins s σ H E I hf st go
    subst hP hw hK
    obtain ⟨⟨old, he⟩, hi⟩ := st
    obtain ⟨xs, x, sq, hx⟩ := go
    obtain ⟨its, rv, tp, _⟩ := I.tuple sq
    obtain ⟨u, hu, ru⟩ := rv.get hx
    have lt : i < its.toArray.size := by
      rw [List.size_toArray]
      exact (List.getElem?_eq_some_iff.mp hu).1
    refine wpAny_pyNext_enum_itemD (Draws.tuple (A := Y.A.in1) (I.ok.hd hc) it a na its.toArray) he ⟨hi, tp⟩ lt ne (by simp [ne, nb.symm]) ?_
    intro y h' tk hy out st' hT hsz hk
    obtain rfl : u = y := by
      have : its.toArray[i]? = some u := by simpa using hu
      exact Option.some.inj (this.symm.trans hy)
    refine ⟨_, rfl, wpAny_letOwnedTupleGo_enum (s := { s with heap := h', toks := tk + 1 }) out ?_⟩
    intro h2 he2 sb
    have low : e < s.heap.objs.size := Heap.lt_size he
    have tup2 : h2.get? s.heap.objs.size = some { cls := .type "tuple", data := .seq #[.int i tk, u] } := (sb.2 _ (Nat.ne_of_gt low)).trans hT
    have new : ObjOk Y.prog Y.w (upd H s.heap.objs.size (.tup [.int (i : Nat), x])) h2 s.heap.objs.size (.tup [.int (i : Nat), x]) := ⟨by show 2 ≤ sizeLine; decide, _, .cons ⟨_, rfl⟩ (.cons ru .nil), ⟨_, tup2, rfl, _, rfl⟩⟩
    have stay : ∀ b ob, b ∉ [e, it] → s.heap.get? b = some ob → h2.get? b = some ob := by
      intro b ob hb z
      rw [List.mem_cons, List.mem_singleton, not_or] at hb
      exact (sb.2 b hb.1).trans (hk b ob hb.1 hb.2 z)
    refine ⟨.ref s.heap.objs.size, _, I.turnedNew stay hf (Nat.le_refl _) new, rfl, ⟨_, x, rfl, I.hok.fresh (Nat.le_refl _), rfl, fun ys hys => by rw [I.tuple_inj hys sq]; exact hx⟩, ⟨⟨u, ?_⟩, st'.1.at fun o z => (sb.2 it ne.symm).trans z⟩, fun b hb => ?_⟩
    · rw [Int.natCast_add]
      exact he2
    · have lb : b < s.heap.objs.size := by
        rcases List.mem_cons.mp hb with rfl | hb
        · exact low
        · rw [List.mem_singleton.mp hb]
          obtain ⟨_, z, _⟩ := hi
          exact Heap.lt_size z
      rw [upd_ne (Nat.ne_of_lt lb)]
      exact (hf b hb).1
  done := by
    intro Y hP hw hK hc i pins s σ H E I hf st stop
    subst hP hw hK
    obtain ⟨⟨old, he⟩, hi⟩ := st
    obtain ⟨xs, sq, hx⟩ := stop
    obtain ⟨its, rv, tp, _⟩ := I.tuple sq
    obtain ⟨f0, f1, _, f3, f4, f5⟩ := hf it (List.mem_cons_of_mem _ List.mem_cons_self)
    have here : i = its.toArray.size := by
      rw [List.size_toArray, ← rv.length]
      exact hx.symm
    refine wpAny_pyNext_enum_endD (Draws.tuple (A := Y.A.in1) (I.ok.hd hc) it a na its.toArray) he ⟨by rw [← here]; exact hi, tp⟩ fun h' eb => ⟨rfl, ?_⟩
    exact I.turned (t' := s.toks) (fun b o hb z => eb b o hb z) f0 f1 f3 f4 f5
def iEnumT (K : PySem.W.Frag) (ta : TA) : TI := fun σ H R => ta σ H fun vs G => ∃ a xs, vs = [.ref a] ∧ SqT K G a xs ∧ R (ItU K a) G
theorem pi_enumT {e : Expr} {ta : TA} {p pos tpos : Pos} {elts : List Expr} {kk : Nat} (hg : Gl X "enumerate") (hm : X.mg "enumerate" = none) (ha : PA X [e] ta) (hs : starEach [e] X.env = [(false, eval e X.env)] := by rfl) : PI X (.Tuple elts kk tpos) (.Call (.Name "enumerate" p) [e] [] pos) (iEnumT X.K ta) := by
  refine ⟨fun pins s σ H R I h => Call_ (ld_blt I hg hm boot_enumerate (PyProof.Rows.callWith_type1 (thn (ha.run pos pins s σ H _ I h) ?_) hs rfl))⟩
  rintro us s1 ⟨vs, G, I1, r, a, xs, rfl, sq, q⟩
  obtain ⟨u, rfl, ru⟩ := r.one
  cases ru
  obtain ⟨its, rv, tp, _⟩ := I1.tuple sq
  have la : a < s1.heap.objs.size := let ⟨_, z, _⟩ := tp; Heap.lt_size z
  have tp' : s1.heap.IsTuple a its.toArray := tp
  refine callType_new (S := fun A R s => s.heap.IsTuple a its.toArray ∧ R (.ok (.ret (.ref (s.heap.objs.size + 1)))) { s with heap := (s.heap.push { cls := .type "tuple_iterator", data := .fields #[.ref a, .int 0 0] }).push { cls := .type "enumerate", data := .fields #[.none, .bool false, .ref s.heap.objs.size, rawInt 0, .none, .none] } })
    F.called_enumerate (by decide) (F.typeCall_enumerate_1 _) (F.newCall_enumerate_1 _) (fun obj => F.args_object_init_2 obj _) F.entry_enumerate_new (.of_wp fun P w A R s z => enum_new (wpAny_pyIter_tuple z.1 (wpAny_newObj_type ⟨_, rfl, ?_⟩))) ⟨tp', ?_⟩
  · have := z.2
    rwa [← Heap.size_push] at this
  have he : IsEnum ((s1.heap.push { cls := .type "tuple_iterator", data := .fields #[.ref a, .int 0 0] }).push { cls := .type "enumerate", data := .fields #[.none, .bool false, .ref s1.heap.objs.size, rawInt 0, .none, .none] }) (s1.heap.objs.size + 1) s1.heap.objs.size ((0 : Nat) : Int) .none := by
    have z := Heap.get?_push_size (s1.heap.push { cls := .type "tuple_iterator", data := .fields #[.ref a, .int 0 0] }) (o := { cls := .type "enumerate", data := .fields #[.none, .bool false, .ref s1.heap.objs.size, rawInt 0, .none, .none] }) rfl
    rwa [Heap.size_push] at z
  have hit : ((s1.heap.push { cls := .type "tuple_iterator", data := .fields #[.ref a, .int 0 0] }).push { cls := .type "enumerate", data := .fields #[.none, .bool false, .ref s1.heap.objs.size, rawInt 0, .none, .none] }).IsTupleIter s1.heap.objs.size a 0 := ⟨_, Heap.get?_push_of_some _ (Heap.get?_push_size _ rfl), rfl, rfl⟩
  refine ⟨⟨_, he, rfl⟩, wpAny_pyIter_enum he ⟨s1.heap.objs.size + 1, [s1.heap.objs.size + 1, s1.heap.objs.size], _, _, G, rfl, I1.kept (t' := s1.toks) fun b o z => Heap.get?_push_of_some _ (Heap.get?_push_of_some _ z), turnU (Nat.succ_ne_self _) (Nat.ne_of_lt la) (Nat.ne_of_lt (Nat.lt_succ_of_lt la)), ⟨⟨.none, he⟩, hit⟩, fun b hb => ?_, q⟩⟩
  have le : s1.heap.objs.size ≤ b := by
    rcases List.mem_cons.mp hb with rfl | hb
    · exact Nat.le_succ _
    · rw [List.mem_singleton.mp hb]
      exact Nat.le_refl _
  exact I1.fpOk le (I1.hok.fresh le)
end
/-- a for over it, where the tuple stays -/
theorem for_enumT {K : PySem.W.Frag} {a : Addr} {xs : List V} {g : TG} {tb : TS} {D : Ends} {σ : L2.St} {H : Hp} (Pv : Nat → L2.St → Hp → Prop) (h0 : Pv 0 σ H) (hl : ∀ i τ G, i ≤ xs.length → Pv i τ G → SqT K G a xs)
    (turn : ∀ i x τ G T, xs[i]? = some x → Pv i τ G → G T = none → g (.ref T) τ (upd G T (.tup [.int (i : Nat), x])) fun τ2 G2 => tb { D with nx := Pv (i + 1), ct := Pv (i + 1), bk := D.nx } τ2 G2) (fin : ∀ τ G, Pv xs.length τ G → D.nx τ G) :
    ∃ W : Nat → Nat → L2.St → Hp → Prop, (∃ m, W 0 m σ H) ∧ ∀ i m τ G, W i m τ G → ((ItU K a).stop i G ∧ D.nx τ G) ∨ ((ItU K a).go i G ∧ ∃ N : L2.St → Hp → Prop, (∀ τ' G', N τ' G' → ∃ m', m' < m ∧ W (i + 1) m' τ' G') ∧
      ∀ x G', (ItU K a).yld i G x G' → g x τ G' fun τ2 G2 => tb { D with nx := N, ct := N, bk := D.nx } τ2 G2) := by
  refine ⟨fun i m τ G => i + m = xs.length ∧ Pv i τ G, ⟨xs.length, Nat.zero_add _, h0⟩, ?_⟩
  rintro i m τ G ⟨hm, pv⟩
  have sq := hl i τ G (by omega) pv
  rcases Nat.eq_zero_or_pos m with rfl | hp
  · obtain rfl : i = xs.length := hm
    exact .inl ⟨⟨xs, sq, rfl⟩, fin τ G pv⟩
  · have lt : i < xs.length := by omega
    refine .inr ⟨⟨xs, xs[i], sq, List.getElem?_eq_getElem lt⟩, Pv (i + 1), fun τ' G' z => ⟨m - 1, by omega, by omega, z⟩, ?_⟩
    rintro x G' ⟨T, y, rfl, hT, rfl, at_⟩
    exact turn i y τ G T (at_ xs sq) pv hT
/-- a for over enumerate of a list that stays -/
theorem for_enumL {K : PySem.W.Frag} {a : Addr} {xs : List V} {g : TG} {tb : TS} {D : Ends} {σ : L2.St} {H : Hp} (Pv : Nat → L2.St → Hp → Prop) (h0 : Pv 0 σ H) (hl : ∀ i τ G, i ≤ xs.length → Pv i τ G → SqL K G a xs)
    (turn : ∀ i x τ G T, xs[i]? = some x → Pv i τ G → G T = none → g (.ref T) τ (upd G T (.tup [.int (i : Nat), x])) fun τ2 G2 => tb { D with nx := Pv (i + 1), ct := Pv (i + 1), bk := D.nx } τ2 G2) (fin : ∀ τ G, Pv xs.length τ G → D.nx τ G) :
    ∃ W : Nat → Nat → L2.St → Hp → Prop, (∃ m, W 0 m σ H) ∧ ∀ i m τ G, W i m τ G → ((Ite K a).stop i G ∧ D.nx τ G) ∨ ((Ite K a).go i G ∧ ∃ N : L2.St → Hp → Prop, (∀ τ' G', N τ' G' → ∃ m', m' < m ∧ W (i + 1) m' τ' G') ∧
      ∀ x G', (Ite K a).yld i G x G' → g x τ G' fun τ2 G2 => tb { D with nx := N, ct := N, bk := D.nx } τ2 G2) := by
  refine ⟨fun i m τ G => m + i = xs.length ∧ Pv i τ G, ⟨xs.length, rfl, h0⟩, ?_⟩
  rintro i m τ G ⟨hm, pv⟩
  have sq := hl i τ G (by omega) pv
  cases m with
  | zero =>
    obtain rfl : i = xs.length := by omega
    exact .inl ⟨⟨xs, sq, Nat.le_refl _⟩, fin τ G pv⟩
  | succ m =>
    refine .inr ⟨⟨xs, xs[i], sq, List.getElem?_eq_getElem (by omega)⟩, Pv (i + 1), fun τ' G' z => ⟨m, Nat.lt_succ_self m, by omega, z⟩, ?_⟩
    rintro x G' ⟨T, y, rfl, hT, rfl, at_⟩
    exact turn i y τ G T (at_ xs sq) pv hT
/-! ### first_number -/
def Throws (C : Addr) (fs : List (Str × V)) (H : Hp) (E : XK) : Prop := ∀ x Hf, H x = none → Same H Hf → Hf x = some (.xd fs) → E (.ref C) (some x) Hf
theorem Throws.up {C : Addr} {fs : List (Str × V)} {H H1 : Hp} {E : XK} (h : Throws C fs H E) (s : Same H H1) : Throws C fs H1 E := fun x Hf hx s1 f1 => h x Hf (s.free hx) (s.trans s1) f1
def badLen (i : Nat) : List (Str × V) := [("at", .int (i : Int)), ("word", .str "BadLength")]
/-- pairs, one after the other -/
def PsAt (H : Hp) (as : List Addr) (ps : List (Int × Int)) : Prop := as.length = ps.length ∧ ∀ (i : Nat) (x : Addr) (p : Int × Int), as[i]? = some x → ps[i]? = some p → H x = some (.tup [.int p.1, .int p.2])
theorem PsAt.same {H H' : Hp} {as : List Addr} {ps : List (Int × Int)} (h : PsAt H as ps) (s : Same H H') : PsAt H' as ps := ⟨h.1, fun i x p e1 e2 => s _ _ (h.2 i x p e1 e2)⟩
theorem PsAt.at {H : Hp} {as : List Addr} {ps : List (Int × Int)} (h : PsAt H as ps) {i : Nat} {y : V} (e : (as.map V.ref)[i]? = some y) : ∃ x p, y = .ref x ∧ as[i]? = some x ∧ ps[i]? = some p ∧ H x = some (.tup [.int p.1, .int p.2]) := by
  rw [List.getElem?_map] at e
  cases ha : as[i]? with
  | none => rw [ha] at e; cases e
  | some x =>
    rw [ha] at e
    cases e
    have l : i < ps.length := by
      rw [← h.1]
      exact (List.getElem?_eq_some_iff.mp ha).1
    exact ⟨x, ps[i], rfl, rfl, List.getElem?_eq_getElem l, h.2 i x _ ha (List.getElem?_eq_getElem l)⟩
/-- handed in a list or in a tuple -/
def PairsIn (K : PySem.W.Frag) (H : Hp) (y : V) (ps : List (Int × Int)) : Prop := ∃ (l : Addr) (as : List Addr), y = .ref l ∧ (SqL K H l (as.map V.ref) ∨ SqT K H l (as.map V.ref)) ∧ PsAt H as ps
def FirstNum (r v : Int) (ps : List (Int × Int)) (n : Nat) : Prop := (∀ p ∈ ps, OkAt r v p.1 p.2 n) ∧ ∀ m, m < n → ∃ p, p ∈ ps ∧ ¬ OkAt r v p.1 p.2 m
def BadAt (r : Int) (ps : List (Int × Int)) (k : Nat) : Prop := (∃ p, ps[k]? = some p ∧ ¬ 0 < vl p.1 p.2 r) ∧ ∀ i p, i < k → ps[i]? = some p → 0 < vl p.1 p.2 r
theorem nums_are {r v : Int} (r2 : 2 ≤ r) (r99 : r ≤ 99) (hw : isW r v) : ∀ ps : List (Int × Int), (∀ p ∈ ps, 0 < vl p.1 p.2 r ∧ p.2.natAbs < 2 ^ 72) → ∃ js : List Nat, js.length = ps.length ∧ ∀ (i : Nat) (p : Int × Int) (j : Nat), ps[i]? = some p → js[i]? = some j → j ≤ 160 ∧ NumAt r v p.1 p.2 j
  | [], _ => ⟨[], rfl, fun i p j e => by simp at e⟩
  | p :: ps, h => by
    obtain ⟨j, hj, N⟩ := num_is r2 r99 hw (h p List.mem_cons_self).1 (h p List.mem_cons_self).2
    obtain ⟨js, lj, hjs⟩ := nums_are r2 r99 hw ps fun q hq => h q (List.mem_cons_of_mem _ hq)
    refine ⟨j :: js, by simp [lj], fun i q k e1 e2 => ?_⟩
    cases i with
    | zero =>
      cases e1
      cases e2
      exact ⟨hj, N⟩
    | succ i => exact hjs i q k (by simpa using e1) (by simpa using e2)
theorem first_of {r v : Int} (r2 : 2 ≤ r) (r99 : r ≤ 99) (hw : isW r v) {ps : List (Int × Int)} {js : List Nat} (lj : js.length = ps.length) (h : ∀ (i : Nat) (p : Int × Int) (j : Nat), ps[i]? = some p → js[i]? = some j → j ≤ 160 ∧ NumAt r v p.1 p.2 j) {m : Nat} (hm : m ∈ js) (top : ∀ j ∈ js, j ≤ m) : FirstNum r v ps m := by
  refine ⟨fun p hp => ?_, fun k hk => ?_⟩
  · obtain ⟨i, hi⟩ := List.mem_iff_getElem?.mp hp
    have l : i < js.length := by
      rw [lj]
      exact (List.getElem?_eq_some_iff.mp hi).1
    obtain ⟨_, ⟨a, b⟩, _⟩ := h i p js[i] hi (List.getElem?_eq_getElem l)
    have le := top js[i] (List.getElem_mem l)
    have := OkAt.le r2 r99 hw (show OkAt r v p.1 p.2 js[i] from ⟨b, a⟩) (m - js[i])
    rw [show js[i] + (m - js[i]) = m by omega] at this
    exact this
  · obtain ⟨i, hi⟩ := List.mem_iff_getElem?.mp hm
    have l : i < ps.length := by
      rw [← lj]
      exact (List.getElem?_eq_some_iff.mp hi).1
    obtain ⟨_, _, lo⟩ := h i ps[i] m (List.getElem?_eq_getElem l) hi
    exact ⟨ps[i], List.getElem_mem l, fun z => lo k hk ⟨z.2, z.1⟩⟩
section
variable {base : Heap} {K : PySem.W.Frag} {mg : Str → Option Value} {w : World}
def spFirst (T : Txt K mg) : Sp := fun vs H Q E => ∃ (y : V) (r v : Int) (ps : List (Int × Int)), vs = [y, .int r] ∧ PairsIn K H y ps ∧ 2 ≤ r ∧ r ≤ 99 ∧ isW r v ∧ (∀ p ∈ ps, p.1.natAbs < 2 ^ 72 ∧ p.2.natAbs < 2 ^ 72) ∧ ps.length ≤ 1000 ∧
  ((∀ p ∈ ps, 0 < vl p.1 p.2 r) → ∀ n : Nat, FirstNum r v ps n → n ≤ 160 → ∀ H', Same H H' → Q (.int n) H') ∧ (∀ k, BadAt r ps k → Throws T.e_BadLength.C (badLen k) H E)
theorem ok_first_number (T : Txt K mg) : FnOk PySem.Challenge.pw_grainyard_k10_whole_first_numbers w K mg base (L2.CX PySem.Challenge.pw_grainyard_k10_whole_first_numbers w) 9 T.f_first_number T.d_first_number ["pairs", "root"] (spFirst T) := by
  refine T.F_first_number.okX sc_first_number (fun vs H Q E h => ?_) (fun cdv A outer s H vs Q E hr h => ?_)
  · obtain ⟨y, r, v, ps, rfl, _⟩ := h
    rfl
  · obtain ⟨y, r, v, ps, rfl, ⟨l, as, rfl, hl, hps⟩, r2, r99, hw, bd, few, q1, q2⟩ := h
    refine ⟨_, (pss_cons (ps_for (passes_of rfl) rfl (PI.or (pi_enum (by rfl) T.n_enumerate (pa_cons (pv 0) pa_nil)) (pi_enumT (by rfl) T.n_enumerate (pa_cons (pv 0) pa_nil))) (pg_tup (by rfl) (pgs_cons (pg_name (i := 2) sc_first_number.nd rfl (Or.inl rfl)) (pgs_cons (pg_name (i := 3) sc_first_number.nd rfl (Or.inl rfl)) pgs_nil))) (pss_one (ps_if (pt_not (pt_val (pe_call (ok_is_length T) (hr.mono (by decide)) (by rfl) T.g_is_length T.F_is_length.kp T.b_is_length .nil pass0 (pa_cons (pv 3) (pa_cons (pv 1) pa_nil))))) (pss_one (ps_raise rfl (takes_of rfl rfl rfl rfl) (pmk_oex (oex_of T.e_BadLength) T.e_BadLength.iC T.e_BadLength.tI (ini_BadLength T) (hr.mono (by decide)) (bi_BadLength T) .nil pass0 (by rfl) T.e_BadLength.g (pa_cons (pv 2) pa_nil)))) pss_nil)))
      (pss_one (ps_ret (pe_maxD rfl hr.units (by rfl) T.n_max (pa_cons (pe_lc (own := [("pair", 3)]) (g := (gName 3)) (tt := tYes) (by rfl) sc_first_number.nd (pi_seq (pv 0)) (blkOk_by (own := [("pair", 3)]) (N := ["pairs", "root", "at", "pair"]) (sc := defScope s_first_number) (by decide +kernel)) (fun _ _ _ _ _ => (pg_name (i := 3) sc_first_number.nd rfl (Or.inl rfl))) (fun _ _ _ _ _ => pts_nil) (fun _ _ _ _ _ => (pe_call (ok_number_of_length T) (hr.mono (by decide)) (by rfl) T.g_number_of_length T.F_number_of_length.kp T.b_number_of_length .nil pass0 (pa_cons (pv 3) (pa_cons (pv 1) pa_nil))))) pa_nil) pe_int)))), ?_⟩
    have hd64 : r.natAbs < 2 ^ 64 := Nat.lt_of_le_of_lt (show r.natAbs ≤ 99 by omega) (by decide)
    have w72 : ∀ {z : Int}, z.natAbs < 2 ^ 72 → z.natAbs < 2 ^ 9000 := fun h => Nat.lt_of_lt_of_le h (Nat.pow_le_pow_right (by decide) (by decide))
    have fin : ∀ G, Same H G → (∀ j q, j < (as.map V.ref).length → ps[j]? = some q → 0 < vl q.1 q.2 r) → (∀ p ∈ ps, 0 < vl p.1 p.2 r) := fun G s good p hp => by
      obtain ⟨j, hj⟩ := List.mem_iff_getElem?.mp hp
      exact good j p (by rw [List.length_map, hps.1]; exact (List.getElem?_eq_some_iff.mp hj).1) hj
    rcases hl with hl | hl
    all_goals first
    | refine .inl ⟨_, rfl, l, _, rfl, hl, for_enumL (K := K) (a := l) (xs := as.map V.ref) (fun i σ H' => ∃ y2 y3, σ = [some (.ref l), some (.int r), y2, y3] ∧ Same H H' ∧ ∀ j q, j < i → ps[j]? = some q → 0 < vl q.1 q.2 r) ⟨_, _, rfl, Same.refl _, fun j q hj => absurd hj (Nat.not_lt_zero _)⟩ (fun i τ G _ ⟨_, _, _, s, _⟩ => Same.seq s hl) ?_ ?_⟩
    | refine .inr ⟨_, rfl, l, _, rfl, hl, for_enumT (K := K) (a := l) (xs := as.map V.ref) (fun i σ H' => ∃ y2 y3, σ = [some (.ref l), some (.int r), y2, y3] ∧ Same H H' ∧ ∀ j q, j < i → ps[j]? = some q → 0 < vl q.1 q.2 r) ⟨_, _, rfl, Same.refl _, fun j q hj => absurd hj (Nat.not_lt_zero _)⟩ (fun i τ G _ ⟨_, _, _, s, _⟩ => Evl.ex_t s hl) ?_ ?_⟩
    iterate 2
      · rintro i x τ G T1 hx ⟨y2, y3, rfl, s, good⟩ hT
        obtain ⟨a, p, rfl, _, hp, ha⟩ := hps.at hx
        have s1 := s.trans (same_new (o := .tup [.int (i : Nat), .ref a]) hT)
        obtain ⟨b1, b2⟩ := bd p (List.mem_of_getElem? hp)
        refine ⟨T1, _, rfl, SqT.of upd_same, rfl, .int i, _, rfl, .ref a, _, rfl, rfl, ?_⟩
        refine ⟨_, rfl, _, rfl, .ref a, r, p.1, p.2, rfl, ⟨a, rfl, SqT.of (s1 _ _ ha)⟩, hd64, w72 b1, w72 b2, _, rfl, ?_⟩
        by_cases c : 0 < vl p.1 p.2 r
        · rw [sgnI_pos c]
          refine iteF ⟨_, _, rfl, s1, fun j q hj hq => ?_⟩
          rcases Nat.lt_succ_iff_lt_or_eq.mp hj with z | rfl
          · exact good j q z hq
          · cases hp.symm.trans hq
            exact c
        · have e0 : decide (0 < sgnI (vl p.1 p.2 r)) = false := by
            rcases Int.lt_trichotomy (vl p.1 p.2 r) 0 with z | z | z
            · rw [sgnI_neg z]
              rfl
            · rw [z]
              rfl
            · exact absurd z c
          rw [e0]
          exact iteT ⟨_, rfl, mk_use rfl (by decide) fun x Hf hx s2 f2 => (q2 i ⟨⟨p, hp, c⟩, good⟩).up s1 x Hf hx s2 f2⟩
      · rintro τ G ⟨y2, y3, rfl, s, good⟩
        have lens := fin G s good
        obtain ⟨js, lj, hjs⟩ := nums_are r2 r99 hw ps fun p hp => ⟨lens p hp, (bd p hp).2⟩
        have hps' := hps.same s
        first
        | refine .inl ⟨_, rfl, l, rfl, ⟨_, Same.seq s hl⟩, fun D hD => lc_list (K := K) (a := l) (xs := as.map V.ref) (fun i G' => Same G G' ∧ G' D = some (.lst ((js.take i).map fun (j : Nat) => V.int (j : Int)))) ⟨same_new hD, upd_same⟩ (fun i G' _ z => Same.seq (s.trans z.1) hl) ?_ ?_⟩
        | refine .inr ⟨_, rfl, l, rfl, ⟨_, Evl.ex_t s hl⟩, fun D hD => lc_tup (K := K) (a := l) (xs := as.map V.ref) (fun i G' => Same G G' ∧ G' D = some (.lst ((js.take i).map fun (j : Nat) => V.int (j : Int)))) ⟨same_new hD, upd_same⟩ (fun i G' _ z => Evl.ex_t (s.trans z.1) hl) ?_ ?_⟩
        · rintro i x G1 hx ⟨s1, hD1⟩
          obtain ⟨a, p, rfl, _, hp, ha⟩ := hps'.at hx
          obtain ⟨b1, b2⟩ := bd p (List.mem_of_getElem? hp)
          have li : i < js.length := by
            rw [lj]
            exact (List.getElem?_eq_some_iff.mp hp).1
          obtain ⟨hj, N⟩ := hjs i p js[i] hp (List.getElem?_eq_getElem li)
          refine ⟨rfl, _, rfl, _, rfl, .ref a, r, v, p.1, p.2, js[i], rfl, ⟨a, rfl, SqT.of (s1 _ _ ha)⟩, r2, r99, hw, w72 b1, w72 b2, by omega, N, ?_⟩
          refine ⟨_, hD1, by rw [List.length_map, List.length_take]; exact small1000 (by omega), fun a' o z => (upd_ne (ne_of_none z hD)).trans (s1 _ _ z), ?_⟩
          rw [upd_same, List.take_succ, List.getElem?_eq_getElem li, List.map_append]
          rfl
        · rintro G2 ⟨s2, hD2⟩
          have eq : js.take (as.map V.ref).length = js := List.take_of_length_le (by rw [List.length_map, hps.1, lj]; exact Nat.le_refl _)
          rw [eq] at hD2
          refine ⟨D, js.map fun (j : Nat) => (j : Int), rfl, SqL.of (by rw [List.map_map]; exact hD2), fun e0 => ?_, fun m hm top => ?_⟩
          · have j0 : js = [] := List.map_eq_nil_iff.mp e0
            have p0 : ps = [] := List.length_eq_zero_iff.mp (by rw [← lj, j0]; rfl)
            refine q1 lens 0 ⟨fun p hp => (by rw [p0] at hp; cases hp), fun k hk => absurd hk (Nat.not_lt_zero _)⟩ (by omega) _ (s.trans s2)
          · obtain ⟨n, hn, rfl⟩ := List.mem_map.mp hm
            obtain ⟨i, hi⟩ := List.mem_iff_getElem?.mp hn
            have li : i < ps.length := by
              rw [← lj]
              exact (List.getElem?_eq_some_iff.mp hi).1
            exact q1 lens n (first_of r2 r99 hw lj hjs hn fun j hj => by have := top _ (List.mem_map.mpr ⟨j, hj, rfl⟩); omega) (hjs i ps[i] n (List.getElem?_eq_getElem li) hi).1 _ (s.trans s2)
end
/-! ### tuples stay -/
theorem tup_keep {H H' : Hp} {b sb : Addr} (B : Bag H b sb) (k : Keep b H H') (p : Addr) (xs : List V) (h : H p = some (.tup xs)) : H' p = some (.tup xs) := k _ _ (B.tup h) h
theorem tup_put {H : Hp} {l : Addr} {ys zs : List V} (hl : H l = some (.lst ys)) (p : Addr) (xs : List V) (h : H p = some (.tup xs)) : (upd H l (.lst zs)) p = some (.tup xs) := (upd_ne (ne_of h hl (by intro z; cases z))).trans h
theorem tup_same {H H' : Hp} (s : Same H H') (p : Addr) (xs : List V) (h : H p = some (.tup xs)) : H' p = some (.tup xs) := s _ _ h
/-! ### alike, from its parts -/
/-- the pairs F 0, F 1, .. at xs, in a heap -/
def Rows (H : Hp) (F : Nat → Int × Int) (xs : List Addr) : Prop := ∀ (i : Nat) (x : Addr), xs[i]? = some x → H x = some (.tup [.int (F i).1, .int (F i).2])
/-- two pairs in a new tuple -/
def NewTwo (H : Hp) (a b c d : Int) (Q : VK) : Prop := ∀ t e f H', H t = none → Same H H' → H' t = some (.tup [.ref e, .ref f]) → H' e = some (.tup [.int a, .int b]) → H' f = some (.tup [.int c, .int d]) → Q (.ref t) H'
theorem tP_abs (n p : Int) : (tP n p).natAbs = p.natAbs := by
  unfold tP
  split <;> omega
theorem tQ_abs (n p : Int) : (tQ n p).natAbs = p.natAbs := by
  unfold tQ
  split <;> omega
/-! ### the law's own fractions -/
section
variable {base : Heap} {K : PySem.W.Frag} {mg : Str → Option Value} {P : Program} {w : World}
def NewRows (H : Hp) (F : Nat → Int × Int) (cnt : Nat) (Q : VK) : Prop := ∀ (S : Addr) (xs : List Addr) (H' : Hp), H S = none → Same H H' → H' S = some (.lst (xs.map V.ref)) → xs.length = cnt → Rows H' F xs → Q (.ref S) H'
def spLFrac : Sp := fun vs H Q _ => ∃ (r v : Int) (cnt : Nat), vs = [.int r, .int cnt] ∧ 2 ≤ r ∧ r ≤ 99 ∧ isW r v ∧ cnt ≤ 1000 ∧ NewRows H (cfF r v) cnt Q
theorem ok_lfractions (T : Txt K mg) : FnOk P w K mg base CX0 1 T.f_lfractions T.d_lfractions ["_law_root_z", "_law_count"] spLFrac := by
  refine T.F_lfractions.ok sc_lfractions (fun vs H Q E h => ?_) (fun cdv A outer s H vs Q E hr h => ?_)
  · obtain ⟨r, v, cnt, rfl, _⟩ := h
    rfl
  · obtain ⟨r, v, cnt, rfl, r2, r99, hw, hc, q⟩ := h
    refine ⟨_, (pss_cons (ps_set (i := 2) sc_lfractions.nd rfl (Or.inl rfl) pe_int)
      (pss_cons (ps_while PassesOwn.never (pt_cmpR op_le (pe_op op_mul (pe_op op_add (pv 2) pe_int) (pe_op op_add (pv 2) pe_int)) (pv 0) (nomark _)) (pss_one (ps_set (i := 2) sc_lfractions.nd rfl (Or.inl rfl) (pe_op op_add (pv 2) pe_int))))
      (pss_cons (ps_asg (pe_tup (pa_cons pe_int (pa_cons pe_int (pa_cons (pv 2) (pa_cons (pe_tup (pa_cons pe_int (pa_cons pe_int pa_nil))) (pa_cons (pe_tup (pa_cons pe_int (pa_cons pe_int pa_nil))) (pa_cons (pe_lst pa_nil) pa_nil))))))) (pg_tup (by rfl) (pgs_cons (pg_name (i := 4) sc_lfractions.nd rfl (Or.inl rfl)) (pgs_cons (pg_name (i := 5) sc_lfractions.nd rfl (Or.inl rfl)) (pgs_cons (pg_name (i := 6) sc_lfractions.nd rfl (Or.inl rfl)) (pgs_cons (pg_name (i := 7) sc_lfractions.nd rfl (Or.inl rfl)) (pgs_cons (pg_name (i := 8) sc_lfractions.nd rfl (Or.inl rfl)) (pgs_cons (pg_name (i := 9) sc_lfractions.nd rfl (Or.inl rfl)) pgs_nil))))))))
      (pss_cons (ps_for PassesOwn.never rfl (pi_range1 (by rfl) T.n_range (pa_cons (pv 1) pa_nil)) (pg_name (i := 3) sc_lfractions.nd rfl (Or.inl rfl)) (pss_cons (ps_set (i := 10) sc_lfractions.nd rfl (Or.inl rfl) (pe_tup (pa_cons (pe_op op_add (pe_op op_mulW (pv 6) (pe_ix ix_tup (pv 7) pe_int (fun _ _ => rfl))) (pe_ix ix_tup (pv 8) pe_int (fun _ _ => rfl))) (pa_cons (pe_op op_add (pe_op op_mulW (pv 6) (pe_ix ix_tup (pv 7) pe_int (fun _ _ => rfl))) (pe_ix ix_tup (pv 8) pe_int (fun _ _ => rfl))) pa_nil))))
      (pss_cons (ps_par (i := 7) (j := 8) (by rfl) sc_lfractions.nd rfl rfl (by decide) rfl rfl (pa_cons (pv 10) (pa_cons (pv 7) pa_nil)) (by rfl))
      (pss_cons (ps_expr (pe_bm PySem.F.plainAttrs_list PySem.F.slot_list_append PySem.F.type_list_append mt_append (pv 9) (pa_cons (pv 10) pa_nil)))
      (pss_cons (ps_set (i := 4) sc_lfractions.nd rfl (Or.inl rfl) (pe_op op_sub (pe_op op_mul (pv 5) (pv 6)) (pv 4)))
      (pss_cons (ps_set (i := 5) sc_lfractions.nd rfl (Or.inl rfl) (pe_op op_fdiv (pe_op op_sub (pv 0) (pe_op op_mul (pv 4) (pv 4))) (pv 5)))
      (pss_one (ps_set (i := 6) sc_lfractions.nd rfl (Or.inl rfl) (pe_op op_fdiv (pe_op op_add (pv 2) (pv 4)) (pv 5))))))))))
      (pss_one (ps_ret (pv 9))))))), ?_⟩
    obtain ⟨v0, v1, v2⟩ := id hw
    have v9 : v ≤ 9 := by
      rcases Int.lt_or_le 9 v with z | z
      · have := Int.mul_le_mul (show (10 : Int) ≤ v by omega) (show (10 : Int) ≤ v by omega) (by decide) (by omega)
        omega
      · exact z
    refine ⟨fun m σ H' => ∃ g : Int, σ = [some (.int r), some (.int cnt), some (.int g), none, none, none, none, none, none, none, none] ∧ H' = H ∧ 0 ≤ g ∧ g ≤ v ∧ m = (v - g).toNat, ⟨_, 0, rfl, rfl, Int.le_refl _, v0, rfl⟩, ?_⟩
    rintro m σ H' ⟨g, rfl, rfl, g0, g1, rfl⟩
    refine ⟨_, rfl, g, 1, rfl, rfl, _, rfl, g, 1, rfl, rfl, _, _, rfl, rfl, .inl ⟨by omega, by omega⟩, _, rfl, _, _, rfl, rfl, _, rfl, ite2 (fun e => ?_) (fun e => ?_)⟩
    · have e' : (g + 1) * (g + 1) ≤ r := of_decide_eq_true e
      have lt : g < v := by
        rcases Int.lt_or_le g v with z | z
        · exact z
        · have := Int.mul_le_mul (show v + 1 ≤ g + 1 by omega) (show v + 1 ≤ g + 1 by omega) (by omega) (by omega)
          omega
      exact ⟨fun σ' H'' => ∃ m', m' < (v - g).toNat ∧ ∃ g : Int, σ' = [some (.int r), some (.int cnt), some (.int g), none, none, none, none, none, none, none, none] ∧ H'' = H' ∧ 0 ≤ g ∧ g ≤ v ∧ m' = (v - g).toNat, fun _ _ z => z, _, rfl, g, 1, rfl, rfl, _, (by omega : (v - (g + 1)).toNat < (v - g).toNat), g + 1, rfl, rfl, by omega, by omega, rfl⟩
    · have e' : ¬ (g + 1) * (g + 1) ≤ r := fun z => e (decide_eq_true z)
      have gv : g = v := by
        rcases Int.lt_or_le g v with z | z
        · exfalso
          have := Int.mul_le_mul (show g + 1 ≤ v by omega) (show g + 1 ≤ v by omega) (by omega) v0
          omega
        · omega
      subst gv
      clear e e'
      refine ⟨_, rfl, by show 2 ≤ sizeLine; decide, fun l0 n1 => ⟨by show 2 ≤ sizeLine; decide, fun b0 n2 => ⟨by show 0 ≤ sizeLine; decide, fun S nS => ⟨by show 6 ≤ sizeLine; decide, fun t nt => ?_⟩⟩⟩⟩
      have d1 := same_new (o := .tup [.int 1, .int 0]) n1
      have d2 := same_new (o := .tup [.int 0, .int 1]) n2
      have d3 := same_new (o := .lst []) nS
      have d4 := same_new (o := .tup [.int 0, .int 1, .int g, .ref l0, .ref b0, .ref S]) nt
      have fS : H' S = none := (d1.trans d2).free nS
      refine ⟨t, _, rfl, SqT.of upd_same, rfl, .int 0, _, rfl, .int 1, _, rfl, .int g, _, rfl, .ref l0, _, rfl, .ref b0, _, rfl, .ref S, _, rfl, rfl, ?_⟩
      refine ⟨_, rfl, (cnt : Int), rfl, by omega, by omega, for_range (lo := 0) (n := cnt) (fun i σ G => ∃ y3 y10 lx bx xs, σ = [some (.int r), some (.int cnt), some (.int g), y3, some (.int (cfS r g i).1), some (.int (cfS r g i).2.1), some (.int (cfS r g i).2.2), some (.ref lx), some (.ref bx), some (.ref S), y10] ∧ Same H' G ∧
        G lx = some (.tup [.int (cfR r g i).1.1, .int (cfR r g i).1.2]) ∧ G bx = some (.tup [.int (cfR r g i).2.1, .int (cfR r g i).2.2]) ∧ G S = some (.lst (xs.map V.ref)) ∧ xs.length = i ∧ Rows G (cfF r g) xs) ⟨none, none, l0, b0, [], rfl, d1.trans (d2.trans (d3.trans d4)), (d2.trans (d3.trans d4)) _ _ upd_same, (d3.trans d4) _ _ upd_same, d4 _ _ upd_same, rfl, fun i x e => by simp at e⟩ ?_ ?_⟩
      · rintro i σ G hi ⟨y3, y10, lx, bx, xs, rfl, sG, hl, hb, hS, lx', rows⟩
        obtain ⟨⟨b1, b2, b3, b4⟩, c1, c2, c3, c4⟩ := cf_bound r2 r99 hw i
        obtain ⟨m1, m2, t1, t2, k1, k2⟩ := cf_num r2 r99 hw i
        obtain ⟨m1', m2', t1', t2', k1', k2'⟩ := cf_num r2 r99 hw (i + 1)
        have kb : (cfS r g i).2.2.natAbs < 2 ^ 9000 := Nat.lt_of_le_of_lt (show (cfS r g i).2.2.natAbs ≤ 18 by omega) (Nat.lt_of_lt_of_le (show 18 < 2 ^ 5 by decide) (Nat.pow_le_pow_right (by decide) (by decide)))
        refine ⟨_, rfl, _, rfl, lx, _, 0, _, rfl, rfl, SqT.of hl, atI_nat (j := 0) rfl, _, _, rfl, rfl, wide_mul kb (two5000 b1 c1 (by omega)) (by decide) (by decide) (by decide), _, rfl, bx, _, 0, _, rfl, rfl, SqT.of hb, atI_nat (j := 0) rfl, _, _, rfl, rfl,
          _, rfl, _, rfl, lx, _, 1, _, rfl, rfl, SqT.of hl, atI_nat (j := 1) rfl, _, _, rfl, rfl, wide_mul kb (two5000 b2 c2 (by omega)) (by decide) (by decide) (by decide), _, rfl, bx, _, 1, _, rfl, rfl, SqT.of hb, atI_nat (j := 1) rfl, _, _, rfl, rfl, by show 2 ≤ sizeLine; decide, fun x nx => ?_⟩
        have q1 : (cfS r g i).2.2 * (cfR r g i).1.1 + (cfR r g i).2.1 = (cfF r g i).1 := by
          show _ = (cfR r g i).1.1 * (cfS r g i).2.2 + (cfR r g i).2.1
          rw [Int.mul_comm]
        have q2 : (cfS r g i).2.2 * (cfR r g i).1.2 + (cfR r g i).2.2 = (cfF r g i).2 := by
          show _ = (cfR r g i).1.2 * (cfS r g i).2.2 + (cfR r g i).2.2
          rw [Int.mul_comm]
        have dx := same_new (o := .tup [.int ((cfS r g i).2.2 * (cfR r g i).1.1 + (cfR r g i).2.1), .int ((cfS r g i).2.2 * (cfR r g i).1.2 + (cfR r g i).2.2)]) nx
        have hx : (upd G x (.tup [.int ((cfS r g i).2.2 * (cfR r g i).1.1 + (cfR r g i).2.1), .int ((cfS r g i).2.2 * (cfR r g i).1.2 + (cfR r g i).2.2)])) x = some (.tup [.int (cfF r g i).1, .int (cfF r g i).2]) := by
          rw [q1, q2]
          exact upd_same
        have hS' := dx _ _ hS
        have ne : ∀ {p : Addr} {ys : List V}, (upd G x (.tup [.int ((cfS r g i).2.2 * (cfR r g i).1.1 + (cfR r g i).2.1), .int ((cfS r g i).2.2 * (cfR r g i).1.2 + (cfR r g i).2.2)])) p = some (.tup ys) → p ≠ S := fun z e => by
          rw [e, hS'] at z
          cases z
        refine ⟨_, rfl, _, rfl, _, _, rfl, _, rfl, .inl ⟨rfl, _, SqL.of hS'⟩, _, rfl, S, _, _, rfl, rfl, hS', ?_, ?_⟩
        · rw [List.length_map, lx']
          exact small1000 (by omega)
        have f1 : 0 ≤ (cfS r g i).2.1 * (cfS r g i).2.2 - (cfS r g i).1 ∧ (cfS r g i).2.1 * (cfS r g i).2.2 - (cfS r g i).1 ≤ 9 := ⟨m1', m2'⟩
        have f2 : 1 ≤ (r - ((cfS r g i).2.1 * (cfS r g i).2.2 - (cfS r g i).1) * ((cfS r g i).2.1 * (cfS r g i).2.2 - (cfS r g i).1)) / (cfS r g i).2.1 ∧ (r - ((cfS r g i).2.1 * (cfS r g i).2.2 - (cfS r g i).1) * ((cfS r g i).2.1 * (cfS r g i).2.2 - (cfS r g i).1)) / (cfS r g i).2.1 ≤ 99 := ⟨t1', t2'⟩
        refine ⟨_, rfl, _, rfl, _, _, rfl, rfl, .inl ⟨by omega, by omega⟩, _, rfl, _, _, rfl, rfl, _, rfl, _, rfl, _, rfl, _, _, rfl, rfl, .inl ⟨by omega, by omega⟩, _, _, rfl, rfl, _, rfl, _, _, rfl, rfl, ⟨by omega, by omega⟩, _, rfl, _, rfl, _, _, rfl, rfl, _, rfl, _, _, rfl, rfl, ⟨by omega, by omega⟩, ?_⟩
        refine ⟨_, _, x, lx, xs ++ [x], rfl, fun p o e => ?_, (upd_ne (ne hx)).trans hx, (upd_ne (ne (dx _ _ hl))).trans (dx _ _ hl), ?_, by rw [List.length_append, lx']; rfl, fun j y e => ?_⟩
        · exact (upd_ne (ne_of_none e fS)).trans (dx _ _ (sG _ _ e))
        · rw [upd_same, List.map_append]
          rfl
        · rw [List.getElem?_append] at e
          split at e
          · have z := dx _ _ (rows j y e)
            exact (upd_ne (ne z)).trans z
          · have j0 : j - xs.length = 0 := by
              cases z : j - xs.length with
              | zero => rfl
              | succ j' => rw [z] at e; cases e
            rw [j0] at e
            cases e
            rw [show j = i by omega]
            exact (upd_ne (ne hx)).trans hx
      · rintro σ G ⟨y3, y10, lx, bx, xs, rfl, sG, hl, hb, hS, lx', rows⟩
        exact ⟨_, rfl, q S xs G fS sG hS lx' rows⟩
end
section
variable {base : Heap} {K : PySem.W.Frag} {mg : Str → Option Value} {P : Program} {w : World}
def spAnyPair : Sp := fun vs H Q _ => ∃ b sb : Addr, vs = [.ref b] ∧ Bag H b sb ∧ ∀ x y p H', -(10 ^ 6) ≤ x → x ≤ 10 ^ 6 → -(10 ^ 6) ≤ y → y ≤ 10 ^ 6 → H p = none → H' p = some (.tup [.int x, .int y]) → Bag H' b sb → Keep b H H' → Q (.ref p) H'
theorem ok_any_pair (T : Txt K mg) : FnOk P w K mg base CX0 3 T.f_any_pair T.d_any_pair ["_law_bag"] spAnyPair := by
  refine T.F_any_pair.ok sc_any_pair (fun vs H Q E h => ?_) (fun cdv A outer s H vs Q E hr h => ?_)
  · obtain ⟨b, sb, rfl, _⟩ := h
    rfl
  · obtain ⟨b, sb, rfl, B, q⟩ := h
    refine ⟨_, (pss_cons (ps_set (i := 1) sc_any_pair.nd rfl (Or.inl rfl) (pe_call (ok_of T) (hr.mono (by decide)) (by rfl) T.g_of T.F_of.kp T.b_of .nil pass0 (pa_cons (pv 0) (pa_cons (pe_lst (pa_cons pe_int (pa_cons pe_int (pa_cons pe_int (pa_cons pe_int (pa_cons (pe_op op_pow pe_int pe_int) pa_nil)))))) pa_nil))))
      (pss_one (ps_ret (pe_tup (pa_cons (pe_op op_sub (pe_call (ok_pull T) (hr.mono (by decide)) (by rfl) T.g_pull T.F_pull.kp T.b_pull .nil pass0 (pa_cons (pv 0) (pa_cons (pe_op op_add (pe_op op_mul pe_int (pv 1)) pe_int) pa_nil))) (pv 1)) (pa_cons (pe_op op_sub (pe_call (ok_pull T) (hr.mono (by decide)) (by rfl) T.g_pull T.F_pull.kp T.b_pull .nil pass0 (pa_cons (pv 0) (pa_cons (pe_op op_add (pe_op op_mul pe_int (pv 1)) pe_int) pa_nil))) (pv 1)) pa_nil)))))), ?_⟩
    refine ⟨.ref b, rfl, 10, 6, rfl, rfl, ⟨by decide, by decide, by decide⟩, (by show 5 ≤ sizeLine; decide), fun l hl => ?_⟩
    refine ⟨b, sb, l, _, rfl, B.new hl, upd_same, B.ne hl, by decide, by decide, fun i v H1 hv B1 k1 => ?_⟩
    obtain ⟨n, rfl, n0, n1⟩ : ∃ n : Int, v = .int n ∧ 1 ≤ n ∧ n ≤ 10 ^ 6 := by
      match i, hv with
      | 0, hv => cases hv; exact ⟨2, rfl, by decide, by decide⟩
      | 1, hv => cases hv; exact ⟨5, rfl, by decide, by decide⟩
      | 2, hv => cases hv; exact ⟨9, rfl, by decide, by decide⟩
      | 3, hv => cases hv; exact ⟨30, rfl, by decide, by decide⟩
      | 4, hv => cases hv; exact ⟨10 ^ 6, rfl, by decide, by decide⟩
      | n + 5, hv => simp at hv
    have hn : (2 * n + 1).natAbs < 2 ^ 100 := Nat.lt_of_le_of_lt (show (2 * n + 1).natAbs ≤ 2000001 by omega) (by decide)
    refine ⟨.ref b, rfl, _, rfl, 2, n, rfl, rfl, .inl ⟨by decide, by decide⟩, _, 1, rfl, rfl, b, sb, _, rfl, B1, (show (0 : Int) < 2 * n + 1 by omega), hn, fun z H2 z0 z1 B2 k2 => ?_⟩
    refine ⟨_, rfl, z, n, rfl, rfl, .ref b, rfl, _, rfl, 2, n, rfl, rfl, .inl ⟨by decide, by decide⟩, _, 1, rfl, rfl, b, sb, _, rfl, B2, (show (0 : Int) < 2 * n + 1 by omega), hn, fun z' H3 z0' z1' B3 k3 => ?_⟩
    refine ⟨_, rfl, z', n, rfl, rfl, (by show 2 ≤ sizeLine; decide), fun p hp => ?_⟩
    have kk : Keep b H H3 := (keep_new hl).trans (k1.trans (k2.trans k3))
    have hpn : H p = none := by
      cases e : H p with
      | none => rfl
      | some o => exact absurd (kk p o (B3.ne hp) e) (by rw [hp]; simp)
    exact q _ _ p _ (by omega) (by omega) (by omega) (by omega) hpn upd_same (B3.new hp) (kk.trans (keep_new hp))
end
/-! ### a length that is drawn -/
def LenB (d a b : Int) : Prop := 0 < vl a b d ∧ a.natAbs ≤ 10 ^ 6 ∧ b.natAbs ≤ 10 ^ 6
theorem m6w {x : Int} (h : x.natAbs ≤ 10 ^ 6) : x.natAbs < 2 ^ 9000 := Nat.lt_of_le_of_lt h (Nat.lt_of_lt_of_le (show 10 ^ 6 < 2 ^ 64 by decide) (Nat.pow_le_pow_right (by decide) (by decide)))
theorem IsRoot.small {d : Int} (h : IsRoot d) : d.natAbs < 2 ^ 64 := by
  obtain ⟨h1, h2, _⟩ := h
  exact Nat.lt_of_le_of_lt (show d.natAbs ≤ 99 by omega) (by decide)
theorem ab_opp (a : Int) : ab (-a) = ab a := by
  unfold ab
  split <;> split <;> omega
theorem vl_opp (a b d : Int) : vl (-a) (-b) d = -vl a b d := by
  unfold vl
  rw [ab_opp, ab_opp]
  grind
theorem vl_one (n d : Int) (h : 0 < n) : 0 < vl n 0 d := by
  unfold vl
  rw [ab_nn (Int.le_of_lt h)]
  have := Int.mul_pos h h
  grind
section
variable {base : Heap} {K : PySem.W.Frag} {mg : Str → Option Value} {P : Program} {w : World}
/-- a length, drawn -/
def GotLen (b sb : Addr) (d : Int) (H : Hp) (Q : VK) : Prop := ∀ x y p H', LenB d x y → p ≠ b → H' p = some (.tup [.int x, .int y]) → Bag H' b sb → Keep b H H' → Q (.ref p) H'
def spALen : Sp := fun vs H Q _ => ∃ (b sb : Addr) (d : Int), vs = [.ref b, .int d] ∧ Bag H b sb ∧ IsRoot d ∧ GotLen b sb d H Q
theorem sgn_cases (a b d : Int) : (sgnI (vl a b d) = 0 ∧ vl a b d = 0) ∨ (sgnI (vl a b d) = 1 ∧ 0 < vl a b d) ∨ (sgnI (vl a b d) = -1 ∧ 0 < vl (-a) (-b) d) := by
  rcases Int.lt_trichotomy (vl a b d) 0 with h | h | h
  · exact .inr (.inr ⟨sgnI_neg h, by rw [vl_opp]; omega⟩)
  · exact .inl ⟨by rw [h]; rfl, h⟩
  · exact .inr (.inl ⟨sgnI_pos h, h⟩)
theorem ok_a_length (T : Txt K mg) : FnOk P w K mg base CX0 4 T.f_a_length T.d_a_length ["_law_bag", "_law_root_z"] spALen := by
  refine T.F_a_length.ok sc_a_length (fun vs H Q E h => ?_) (fun cdv A outer s H vs Q E hr h => ?_)
  · obtain ⟨b, sb, d, rfl, _⟩ := h
    rfl
  · obtain ⟨b, sb, d, rfl, B, hd, q⟩ := h
    refine ⟨_, (pss_cons (ps_set (i := 2) sc_a_length.nd rfl (Or.inl rfl) (pe_call (ok_any_pair T) (hr.mono (by decide)) (by rfl) T.g_any_pair T.F_any_pair.kp T.b_any_pair .nil pass0 (pa_cons (pv 0) pa_nil)))
      (pss_cons (ps_if (pt_cmpR op_eq (pe_call (ok_lsign T) (hr.mono (by decide)) (by rfl) T.g_lsign T.F_lsign.kp T.b_lsign .nil pass0 (pa_cons (pv 2) (pa_cons (pv 1) pa_nil))) pe_int (nomark _)) (pss_one (ps_ret (pe_tup (pa_cons (pe_op op_add pe_int (pe_call (ok_pull T) (hr.mono (by decide)) (by rfl) T.g_pull T.F_pull.kp T.b_pull .nil pass0 (pa_cons (pv 0) (pa_cons pe_int pa_nil)))) (pa_cons pe_int pa_nil))))) pss_nil)
      (pss_one (ps_ret (pe_ifExp (pt_cmpR op_gt (pe_call (ok_lsign T) (hr.mono (by decide)) (by rfl) T.g_lsign T.F_lsign.kp T.b_lsign .nil pass0 (pa_cons (pv 2) (pa_cons (pv 1) pa_nil))) pe_int (nomark _)) (pv 2) (pe_tup (pa_cons (pe_op op_sub pe_int (pe_ix ix_tup (pv 2) pe_int (fun _ _ => rfl))) (pa_cons (pe_op op_sub pe_int (pe_ix ix_tup (pv 2) pe_int (fun _ _ => rfl))) pa_nil)))))))), ?_⟩
    refine ⟨.ref b, rfl, b, sb, rfl, B, fun x y p H1 a1 a2 a3 a4 n1 h1 B1 k1 => ?_⟩
    have bx : x.natAbs ≤ 10 ^ 6 := by omega
    have bY : y.natAbs ≤ 10 ^ 6 := by omega
    have np := B.ne n1
    refine ⟨.ref p, rfl, .int d, rfl, p, d, x, y, rfl, SqT.of h1, hd.small, m6w bx, m6w bY, ?_⟩
    rcases sgn_cases x y d with ⟨e, z⟩ | ⟨e, z⟩ | ⟨e, z⟩ <;> rw [e]
    · refine ⟨rfl, true, rfl, iteT ⟨.ref b, rfl, b, sb, 9, rfl, B1, by decide, by decide, fun n H2 z0 z1 B2 k2 => ⟨1, n, rfl, rfl, by show 2 ≤ sizeLine; decide, fun p2 hp2 => ?_⟩⟩⟩
      exact q _ _ p2 _ ⟨vl_one (1 + n) d (by omega), by omega, by decide⟩ (B2.ne hp2) upd_same (B2.new hp2) (k1.trans (k2.trans (keep_new hp2)))
    · refine ⟨rfl, false, rfl, iteF ⟨.ref p, rfl, .int d, rfl, p, d, x, y, rfl, SqT.of h1, hd.small, m6w bx, m6w bY, ?_⟩⟩
      rw [e]
      exact ⟨1, 0, rfl, rfl, true, rfl, iteT ⟨_, rfl, q x y p H1 ⟨z, bx, bY⟩ np h1 B1 k1⟩⟩
    · refine ⟨rfl, false, rfl, iteF ⟨.ref p, rfl, .int d, rfl, p, d, x, y, rfl, SqT.of h1, hd.small, m6w bx, m6w bY, ?_⟩⟩
      rw [e]
      refine ⟨-1, 0, rfl, rfl, false, rfl, iteF ⟨_, rfl, p, _, 0, .int x, rfl, rfl, SqT.of h1, atI_nat (j := 0) rfl, 0, x, rfl, rfl, _, rfl, p, _, 1, .int y, rfl, rfl, SqT.of h1, atI_nat (j := 1) rfl, 0, y, rfl, rfl, by show 2 ≤ sizeLine; decide, fun p2 hp2 => ?_⟩⟩
      refine q (0 - x) (0 - y) p2 _ ⟨?_, by omega, by omega⟩ (B1.ne hp2) upd_same (B1.new hp2) (k1.trans (keep_new hp2))
      rw [Int.zero_sub, Int.zero_sub]
      exact z
end
/-! ### pairs that are no lengths -/
section
variable {base : Heap} {K : PySem.W.Frag} {mg : Str → Option Value} {P : Program} {w : World}
def NoLenB (d a b : Int) : Prop := vl a b d ≤ 0 ∧ a.natAbs ≤ 10 ^ 6 ∧ b.natAbs ≤ 10 ^ 6
def spBadPair : Sp := fun vs H Q _ => ∃ (b sb : Addr) (d : Int), vs = [.ref b, .int d] ∧ Bag H b sb ∧ IsRoot d ∧ ∀ x y p H', NoLenB d x y → H' p = some (.tup [.int x, .int y]) → Bag H' b sb → Keep b H H' → Q (.ref p) H'
theorem ok_bad_pair (T : Txt K mg) : FnOk P w K mg base CX0 5 T.f_bad_pair T.d_bad_pair ["_law_bag", "_law_root_z"] spBadPair := by
  refine T.F_bad_pair.ok sc_bad_pair (fun vs H Q E h => ?_) (fun cdv A outer s H vs Q E hr h => ?_)
  · obtain ⟨b, sb, d, rfl, _⟩ := h
    rfl
  · obtain ⟨b, sb, d, rfl, B, hd, q⟩ := h
    refine ⟨_, (pss_cons (ps_set (i := 2) sc_bad_pair.nd rfl (Or.inl rfl) (pe_call (ok_a_length T) (hr.mono (by decide)) (by rfl) T.g_a_length T.F_a_length.kp T.b_a_length .nil pass0 (pa_cons (pv 0) (pa_cons (pv 1) pa_nil))))
      (pss_one (ps_ret (pe_call (ok_of T) (hr.mono (by decide)) (by rfl) T.g_of T.F_of.kp T.b_of .nil pass0 (pa_cons (pv 0) (pa_cons (pe_lst (pa_cons (pe_tup (pa_cons pe_int (pa_cons pe_int pa_nil))) (pa_cons (pe_tup (pa_cons (pe_op op_sub pe_int (pe_ix ix_tup (pv 2) pe_int (fun _ _ => rfl))) (pa_cons (pe_op op_sub pe_int (pe_ix ix_tup (pv 2) pe_int (fun _ _ => rfl))) pa_nil))) pa_nil))) pa_nil)))))), ?_⟩
    refine ⟨.ref b, rfl, .int d, rfl, b, sb, d, rfl, B, hd, fun x y p H1 hl np h1 B1 k1 => ?_⟩
    refine ⟨.ref b, rfl, by show 2 ≤ sizeLine; decide, fun t1 n1 => ?_⟩
    have h1' := (same_new (o := .tup [.int 0, .int 0]) n1) _ _ h1
    refine ⟨_, rfl, p, _, 0, .int x, rfl, rfl, SqT.of h1', atI_nat (j := 0) rfl, 0, x, rfl, rfl, _, rfl, p, _, 1, .int y, rfl, rfl, SqT.of h1', atI_nat (j := 1) rfl, 0, y, rfl, rfl, by show 2 ≤ sizeLine; decide, fun t2 n2 => ⟨by show 2 ≤ sizeLine; decide, fun l nl => ?_⟩⟩
    have e1 := same_new (o := .tup [.int 0, .int 0]) n1
    have e2 := same_new (o := .tup [.int (0 - x), .int (0 - y)]) n2
    have e3 := same_new (o := .lst [.ref t1, .ref t2]) nl
    have ee := e1.trans (e2.trans e3)
    refine ⟨b, sb, l, _, rfl, B1.same ee, upd_same, (B1.same (e1.trans e2)).ne nl, by simp, by simp, fun j v H2 hv B2 k2 => ?_⟩
    have kk : Keep b H H2 := k1.trans ((keep_of ee).trans k2)
    match j, hv with
    | 0, hv =>
      cases hv
      exact q 0 0 t1 H2 ⟨by show (0 : Int) * ab 0 + d * 0 * ab 0 ≤ 0; simp, by decide, by decide⟩ (tup_keep (B1.same ee) k2 _ _ ((e2.trans e3) _ _ upd_same)) B2 kk
    | 1, hv =>
      cases hv
      refine q (0 - x) (0 - y) t2 H2 ⟨?_, ?_, ?_⟩ (tup_keep (B1.same ee) k2 _ _ (e3 _ _ upd_same)) B2 kk
      · rw [Int.zero_sub, Int.zero_sub, vl_opp]
        have := hl.1
        omega
      · have := hl.2.1
        omega
      · have := hl.2.2
        omega
    | n + 2, hv => simp at hv
end
/-! ### the law's own tile lengths -/
section
variable {base : Heap} {K : PySem.W.Frag} {mg : Str → Option Value} {P : Program} {w : World}
/-- the i-th tile length behind the n-th -/
def tileF (r v : Int) (n i : Nat) : Int × Int := (tP ((n : Int) + (i : Int)) (cfF r v (n + i)).1, tQ ((n : Int) + (i : Int)) (cfF r v (n + i)).2)
theorem rows_add {H : Hp} {F : Nat → Int × Int} {xs : List Addr} {x : Addr} (rows : Rows H F xs) (hx : H x = some (.tup [.int (F xs.length).1, .int (F xs.length).2])) : Rows H F (xs ++ [x]) := by
  intro j y e
  rw [List.getElem?_append] at e
  split at e
  · exact rows j y e
  · have j0 : j - xs.length = 0 := by
      cases z : j - xs.length with
      | zero => rfl
      | succ j' => rw [z] at e; cases e
    rw [j0] at e
    cases e
    rw [show j = xs.length by omega]
    exact hx
theorem rows_tup {H : Hp} {F : Nat → Int × Int} {xs : List Addr} {S : Addr} {ys : List V} (rows : Rows H F xs) (hS : ∀ zs, H S ≠ some (.tup zs)) : Rows (upd H S (.lst ys)) F xs := by
  intro j y e
  have z := rows j y e
  exact (upd_ne (fun e => hS _ (e ▸ z))).trans z
def spLPair : Sp := fun vs H Q _ => ∃ (r v : Int) (n : Nat), vs = [.int r, .int n] ∧ 2 ≤ r ∧ r ≤ 99 ∧ isW r v ∧ n ≤ 400 ∧ NewTwo H (tP n (cfF r v n).1) (tQ n (cfF r v n).2) (tP ((n : Int) + 1) (cfF r v (n + 1)).1) (tQ ((n : Int) + 1) (cfF r v (n + 1)).2) Q
theorem ok_tile_pair (T : Txt K mg) : FnOk P w K mg base CX0 2 T.f_tile_pair T.d_tile_pair ["_law_root_z", "_law_number"] spLPair := by
  refine T.F_tile_pair.ok sc_tile_pair (fun vs H Q E h => ?_) (fun cdv A outer s H vs Q E hr h => ?_)
  · obtain ⟨r, v, n, rfl, _⟩ := h
    rfl
  · obtain ⟨r, v, n, rfl, r2, r99, hw, hn, q⟩ := h
    refine ⟨_, (pss_cons (ps_set (i := 2) sc_tile_pair.nd rfl (Or.inl rfl) (pe_lst pa_nil))
      (pss_cons (ps_for PassesOwn.never rfl (pi_tup (pe_tup (pa_cons (pv 1) (pa_cons (pe_op op_add (pv 1) pe_int) pa_nil)))) (pg_name (i := 3) sc_tile_pair.nd rfl (Or.inl rfl)) (pss_cons (ps_asg (pe_ix ix_list (pe_call (ok_lfractions T) (hr.mono (by decide)) (by rfl) T.g_lfractions T.F_lfractions.kp T.b_lfractions .nil pass0 (pa_cons (pv 0) (pa_cons (pe_op op_add (pv 3) pe_int) pa_nil))) (pv 3) (fun _ _ => rfl)) (pg_tup (by rfl) (pgs_cons (pg_name (i := 4) sc_tile_pair.nd rfl (Or.inl rfl)) (pgs_cons (pg_name (i := 5) sc_tile_pair.nd rfl (Or.inl rfl)) pgs_nil))))
      (pss_one (ps_expr (pe_bm PySem.F.plainAttrs_list PySem.F.slot_list_append PySem.F.type_list_append mt_append (pv 2) (pa_cons (pe_ifExp (pt_cmpR op_eq (pe_op op_mod (pv 3) pe_int) pe_int (nomark _)) (pe_tup (pa_cons (pe_op op_sub pe_int (pv 4)) (pa_cons (pv 5) pa_nil))) (pe_tup (pa_cons (pv 4) (pa_cons (pe_op op_sub pe_int (pv 5)) pa_nil)))) pa_nil))))))
      (pss_one (ps_ret (pe_tup (pa_cons (pe_ix ix_list (pv 2) pe_int (fun _ _ => rfl)) (pa_cons (pe_ix ix_list (pv 2) pe_int (fun _ _ => rfl)) pa_nil))))))), ?_⟩
    refine ⟨by show 0 ≤ sizeLine; decide, fun S nS => ⟨_, rfl, _, rfl, (n : Int), 1, rfl, rfl, by show 2 ≤ sizeLine; decide, fun t nt => ?_⟩⟩
    have d1 := same_new (o := .lst []) nS
    have d2 := same_new (o := .tup [.int n, .int ((n : Int) + 1)]) nt
    refine ⟨t, rfl, ⟨_, SqT.of upd_same⟩, for_tup (K := K) (a := t) (xs := [.int n, .int ((n : Int) + 1)]) (fun i σ G => ∃ y3 y4 y5 xs, σ = [some (.int r), some (.int n), some (.ref S), y3, y4, y5] ∧ Same H G ∧ G t = some (.tup [.int n, .int ((n : Int) + 1)]) ∧ G S = some (.lst (xs.map V.ref)) ∧ xs.length = i ∧ Rows G (tileF r v n) xs)
      ⟨none, none, none, [], rfl, d1.trans d2, upd_same, d2 _ _ upd_same, rfl, fun i x e => by simp at e⟩ (fun i σ G _ ⟨_, _, _, _, _, _, z, _⟩ => SqT.of z) ?_ ?_⟩
    · rintro i x σ G hx ⟨y3, y4, y5, xs, rfl, sG, hT, hS, lx, rows⟩
      have i2 : i < 2 := by
        rcases Nat.lt_or_ge i 2 with z | z
        · exact z
        · rw [List.getElem?_eq_none (by exact z)] at hx
          cases hx
      obtain rfl : x = .int ((n : Int) + (i : Int)) := by
        match i, i2, hx with
        | 0, _, hx => cases hx; rw [Int.natCast_zero, Int.add_zero]
        | 1, _, hx => cases hx; rfl
      refine ⟨_, rfl, _, rfl, _, _, rfl, rfl, r, v, n + i + 1, by simp, r2, r99, hw, by omega, fun S2 zs H1 nS2 s1 hS2 lz zrows => ?_⟩
      have l0 : n + i < zs.length := by omega
      have g0 : (zs.map V.ref)[n + i]? = some (.ref zs[n + i]) := by rw [List.getElem?_map, List.getElem?_eq_getElem l0]; rfl
      have h0 := zrows (n + i) _ (List.getElem?_eq_getElem l0)
      refine ⟨_, rfl, S2, _, ((n : Int) + (i : Int)), _, rfl, rfl, SqL.of hS2, by rw [show (n : Int) + (i : Int) = ((n + i : Nat) : Int) by omega]; exact atI_nat g0, zs[n + i], _, rfl, SqT.of h0, rfl, .int _, _, rfl, .int _, _, rfl, rfl, ?_⟩
      have hS1 := s1 _ _ hS
      have key : ∀ p G2, G2 = upd H1 p (.tup [.int (tileF r v n i).1, .int (tileF r v n i).2]) → H1 p = none → (∃ ys, G2 S = some (.lst ys) ∧ ys.length + 1 ≤ sizeLine ∧ ∃ y3 y4 y5 xs', [some (.int r), some (.int n), some (.ref S), some (.int ((n : Int) + (i : Int))), some (.int (cfF r v (n + i)).1), some (.int (cfF r v (n + i)).2)] = [some (V.int r), some (.int n), some (.ref S), y3, y4, y5] ∧ Same H (upd G2 S (.lst (ys ++ [.ref p]))) ∧ (upd G2 S (.lst (ys ++ [.ref p]))) t = some (.tup [.int n, .int ((n : Int) + 1)]) ∧ (upd G2 S (.lst (ys ++ [.ref p]))) S = some (.lst (xs'.map V.ref)) ∧ xs'.length = i + 1 ∧ Rows (upd G2 S (.lst (ys ++ [.ref p]))) (tileF r v n) xs') := by
        rintro p G2 rfl np
        have dx := same_new (o := .tup [.int (tileF r v n i).1, .int (tileF r v n i).2]) np
        have hS' := dx _ _ hS1
        have hl : ∀ zs, (upd H1 p (.tup [.int (tileF r v n i).1, .int (tileF r v n i).2])) S ≠ some (.tup zs) := fun zs z => by
          rw [hS'] at z
          cases z
        have hT' := dx _ _ (s1 _ _ hT)
        have rows' : Rows (upd H1 p (.tup [.int (tileF r v n i).1, .int (tileF r v n i).2])) (tileF r v n) (xs ++ [p]) := rows_add (fun j y e => dx _ _ (s1 _ _ (rows j y e))) (by rw [lx]; exact upd_same)
        refine ⟨_, hS', by rw [List.length_map, lx]; exact small1000 (by omega), _, _, _, xs ++ [p], rfl, fun a o e => ?_, (upd_ne (fun e => hl _ (e ▸ hT'))).trans hT', ?_, by rw [List.length_append, lx]; rfl, rows_tup rows' hl⟩
        · exact (upd_ne (ne_of_none e nS)).trans (dx _ _ (s1 _ _ (sG _ _ e)))
        · rw [upd_same, List.map_append]
          rfl
      refine ⟨_, rfl, .inl ⟨rfl, _, SqL.of hS1⟩, _, rfl, (n : Int) + (i : Int), 2, rfl, rfl, (by show (0 : Int) < 2; decide), rfl, _, rfl, ite2 (fun e => ?_) (fun e => ?_)⟩
      · have z : ((n : Int) + (i : Int)) % 2 = 0 := V.int.inj (of_decide_eq_true e)
        refine ⟨_, rfl, 0, _, rfl, rfl, _, rfl, by show 2 ≤ sizeLine; decide, fun x nx => ?_⟩
        obtain ⟨ys, hy, sz, k⟩ := key x (upd H1 x (.tup [.int (0 - (cfF r v (n + i)).1), .int (cfF r v (n + i)).2])) (by unfold tileF tP tQ; rw [if_pos z, if_pos z, Int.zero_sub]) nx
        exact ⟨S, ys, _, rfl, rfl, hy, sz, k⟩
      · have z : ¬ ((n : Int) + (i : Int)) % 2 = 0 := fun z => e (decide_eq_true (congrArg V.int z))
        refine ⟨_, rfl, _, rfl, 0, _, rfl, rfl, by show 2 ≤ sizeLine; decide, fun x nx => ?_⟩
        obtain ⟨ys, hy, sz, k⟩ := key x (upd H1 x (.tup [.int (cfF r v (n + i)).1, .int (0 - (cfF r v (n + i)).2)])) (by unfold tileF tP tQ; rw [if_neg z, if_neg z, Int.zero_sub]) nx
        exact ⟨S, ys, _, rfl, rfl, hy, sz, k⟩
    · rintro σ G ⟨y3, y4, y5, xs, rfl, sG, hT, hS, lx, rows⟩
      have l0 : 0 < xs.length := by rw [lx]; exact Nat.succ_pos _
      have l1 : 1 < xs.length := by rw [lx]; exact Nat.lt_succ_self 1
      have g0 : (xs.map V.ref)[0]? = some (.ref xs[0]) := by rw [List.getElem?_map, List.getElem?_eq_getElem l0]; rfl
      have g1 : (xs.map V.ref)[1]? = some (.ref xs[1]) := by rw [List.getElem?_map, List.getElem?_eq_getElem l1]; rfl
      have h0 := rows 0 _ (List.getElem?_eq_getElem l0)
      have h1 := rows 1 _ (List.getElem?_eq_getElem l1)
      unfold tileF at h0 h1
      rw [Int.natCast_zero, Int.add_zero] at h0
      refine ⟨_, rfl, S, _, 0, _, rfl, rfl, SqL.of hS, atI_nat (j := 0) g0, _, rfl, S, _, 1, _, rfl, rfl, SqL.of hS, atI_nat (j := 1) g1, by show 2 ≤ sizeLine; decide, fun u nu => ?_⟩
      have du := same_new (o := .tup [.ref xs[0], .ref xs[1]]) nu
      exact q u _ _ _ (sG.free nu) (sG.trans du) upd_same (du _ _ h0) (du _ _ h1)
end
/-! ### the law's own coordinates -/
section
variable {base : Heap} {K : PySem.W.Frag} {mg : Str → Option Value} {P : Program} {w : World}
def spCoord (K : PySem.W.Frag) : Sp := fun vs H Q _ => ∃ (rr : V) (a b r v : Int) (n : Nat), vs = [rr, .int r, .int n] ∧ PairAt K H rr a b ∧ a.natAbs < 2 ^ 9000 ∧ b.natAbs < 2 ^ 9000 ∧ 2 ≤ r ∧ r ≤ 99 ∧ isW r v ∧ n ≤ 400 ∧
  NewPair H (a * (cfF r v (n + 1)).2 + b * (cfF r v (n + 1)).1) (a * (cfF r v n).2 + b * (cfF r v n).1) Q
theorem cfF_ok {r v : Int} (r2 : 2 ≤ r) (r99 : r ≤ 99) (hw : isW r v) {n : Nat} (hn : n ≤ 500) : 0 ≤ (cfF r v n).1 ∧ 0 ≤ (cfF r v n).2 ∧ (cfF r v n).1.natAbs < 2 ^ 9000 ∧ (cfF r v n).2.natAbs < 2 ^ 9000 := by
  obtain ⟨⟨a, b, _, _⟩, c, d, _, _⟩ := cf_bound r2 r99 hw (n + 1)
  exact ⟨a, b, two5000 a c (by omega), two5000 b d (by omega)⟩
def spLScaled (K : PySem.W.Frag) : Sp := fun vs H Q _ => ∃ (r : V) (a b n : Int), vs = [r, .int n] ∧ PairAt K H r a b ∧ a.natAbs < 2 ^ 9000 ∧ b.natAbs < 2 ^ 9000 ∧ n.natAbs < 2 ^ 9000 ∧ NewPair H (a * n) (b * n) Q
theorem ok_lscaled (T : Txt K mg) : FnOk P w K mg base CX0 1 T.f_lscaled T.d_lscaled ["_law_pair", "_law_number"] (spLScaled K) := by
  refine T.F_lscaled.ok sc_lscaled (fun vs H Q E h => ?_) (fun cdv A outer s H vs Q E hr h => ?_)
  · obtain ⟨r, a, b, n, rfl, _⟩ := h
    rfl
  · obtain ⟨r, a, b, n, rfl, ⟨t, rfl, ht⟩, ba, bb, bn, q⟩ := h
    refine ⟨_, (pss_one (ps_ret (pe_tup (pa_cons (pe_op op_mulW (pe_ix ix_tup (pv 0) pe_int (fun _ _ => rfl)) (pv 1)) (pa_cons (pe_op op_mulW (pe_ix ix_tup (pv 0) pe_int (fun _ _ => rfl)) (pv 1)) pa_nil))))), ?_⟩
    exact ⟨_, rfl, t, _, 0, _, rfl, rfl, ht, atI_nat (j := 0) rfl, _, rfl, a, n, rfl, rfl, wide_mul ba bn (by decide) (by decide) (by decide), _, rfl, t, _, 1, _, rfl, rfl, ht, atI_nat (j := 1) rfl, _, rfl, b, n, rfl, rfl, wide_mul bb bn (by decide) (by decide) (by decide), by show 2 ≤ sizeLine; decide, fun p hp => q p _ hp (same_new hp) upd_same⟩
theorem ok_coordinates (T : Txt K mg) : FnOk P w K mg base CX0 2 T.f_coordinates T.d_coordinates ["_law_pair", "_law_root_z", "_law_number"] (spCoord K) := by
  refine T.F_coordinates.ok sc_coordinates (fun vs H Q E h => ?_) (fun cdv A outer s H vs Q E hr h => ?_)
  · obtain ⟨rr, a, b, r, v, n, rfl, _⟩ := h
    rfl
  · obtain ⟨rr, a, b, r, v, n, rfl, ⟨t, rfl, ht⟩, ba, bb, r2, r99, hw, hn, k⟩ := h
    obtain ⟨p0, q0, bp, bq⟩ := cfF_ok r2 r99 hw (show n ≤ 500 by omega)
    obtain ⟨p10, q10, bp1, bq1⟩ := cfF_ok r2 r99 hw (show n + 1 ≤ 500 by omega)
    refine ⟨_, (pss_cons (ps_set (i := 3) sc_coordinates.nd rfl (Or.inl rfl) (pe_call (ok_lfractions T) (hr.mono (by decide)) (by rfl) T.g_lfractions T.F_lfractions.kp T.b_lfractions .nil pass0 (pa_cons (pv 1) (pa_cons (pe_op op_add (pv 2) pe_int) pa_nil))))
      (pss_cons (ps_par (i := 4) (j := 5) (by rfl) sc_coordinates.nd rfl rfl (by decide) rfl rfl (pa_cons (pe_ix ix_list (pv 3) (pv 2) (fun _ _ => rfl)) (pa_cons (pe_ix ix_list (pv 3) (pe_op op_add (pv 2) pe_int) (fun _ _ => rfl)) pa_nil)) (by rfl))
      (pss_one (ps_ret (pe_tup (pa_cons (pe_op op_add (pe_op op_mulW (pe_ix ix_tup (pv 0) pe_int (fun _ _ => rfl)) (pe_ix ix_tup (pv 5) pe_int (fun _ _ => rfl))) (pe_op op_mulW (pe_ix ix_tup (pv 0) pe_int (fun _ _ => rfl)) (pe_ix ix_tup (pv 5) pe_int (fun _ _ => rfl)))) (pa_cons (pe_op op_add (pe_op op_mulW (pe_ix ix_tup (pv 0) pe_int (fun _ _ => rfl)) (pe_ix ix_tup (pv 4) pe_int (fun _ _ => rfl))) (pe_op op_mulW (pe_ix ix_tup (pv 0) pe_int (fun _ _ => rfl)) (pe_ix ix_tup (pv 4) pe_int (fun _ _ => rfl)))) pa_nil))))))), ?_⟩
    refine ⟨_, rfl, _, rfl, (n : Int), 2, rfl, rfl, r, v, n + 2, by simp, r2, r99, hw, by omega, fun S xs H1 nS s1 hS lx rows => ?_⟩
    have l0 : n < xs.length := by omega
    have l1 : n + 1 < xs.length := by omega
    have g0 : (xs.map V.ref)[n]? = some (.ref xs[n]) := by rw [List.getElem?_map, List.getElem?_eq_getElem l0]; rfl
    have g1 : (xs.map V.ref)[n + 1]? = some (.ref xs[n + 1]) := by rw [List.getElem?_map, List.getElem?_eq_getElem l1]; rfl
    have h0 := rows n _ (List.getElem?_eq_getElem l0)
    have h1 := rows (n + 1) _ (List.getElem?_eq_getElem l1)
    have ht1 : SqT K H1 t [.int a, .int b] := Evl.ex_t (show Evl.Ex H H1 from s1) ht
    refine ⟨_, rfl, _, rfl, S, _, n, _, rfl, rfl, SqL.of hS, atI_nat (j := n) g0, _, rfl, _, rfl, (n : Int), 1, rfl, rfl, S, _, ((n : Int) + 1), _, rfl, rfl, SqL.of hS, atI_nat (j := n + 1) g1, _, _, rfl, ?_⟩
    refine ⟨_, rfl, t, _, 0, _, rfl, rfl, ht1, atI_nat (j := 0) rfl, _, rfl, xs[n + 1], _, 1, _, rfl, rfl, SqT.of h1, atI_nat (j := 1) rfl, a, _, rfl, rfl, wide_mul ba bq1 (by decide) (by decide) (by decide), _, rfl, t, _, 1, _, rfl, rfl, ht1, atI_nat (j := 1) rfl, _, rfl, xs[n + 1], _, 0, _, rfl, rfl, SqT.of h1, atI_nat (j := 0) rfl, b, _, rfl, rfl, wide_mul bb bp1 (by decide) (by decide) (by decide), _, _, rfl, rfl, ?_⟩
    refine ⟨_, rfl, t, _, 0, _, rfl, rfl, ht1, atI_nat (j := 0) rfl, _, rfl, xs[n], _, 1, _, rfl, rfl, SqT.of h0, atI_nat (j := 1) rfl, a, _, rfl, rfl, wide_mul ba bq (by decide) (by decide) (by decide), _, rfl, t, _, 1, _, rfl, rfl, ht1, atI_nat (j := 1) rfl, _, rfl, xs[n], _, 0, _, rfl, rfl, SqT.of h0, atI_nat (j := 0) rfl, b, _, rfl, rfl, wide_mul bb bp (by decide) (by decide) (by decide), _, _, rfl, rfl, ?_⟩
    exact ⟨by show 2 ≤ sizeLine; decide, fun x nx => k x _ (s1.free nx) (s1.trans (same_new nx)) upd_same⟩
end
/-! ### lengths that stand close to zero -/
def LenL (d a b : Int) : Prop := 0 < vl a b d ∧ a.natAbs < 2 ^ 72 ∧ b.natAbs < 2 ^ 72
theorem LenB.big {d a b : Int} (h : LenB d a b) : LenL d a b := ⟨h.1, Nat.lt_of_le_of_lt h.2.1 (by decide), Nat.lt_of_le_of_lt h.2.2 (by decide)⟩
theorem ab_times {a k : Int} (hk : 0 ≤ k) : ab (a * k) = ab a * k := by
  rcases Int.lt_or_le a 0 with h | h
  · rw [ab_neg h]
    rcases Int.lt_or_le 0 k with z | z
    · rw [ab_neg (Int.mul_neg_of_neg_of_pos h z)]
      grind
    · rw [show k = 0 by omega]
      simp [ab]
  · rw [ab_nn h, ab_nn (Int.mul_nonneg h hk)]
theorem vl_times {a b d k : Int} (hk : 0 ≤ k) : vl (a * k) (b * k) d = vl a b d * (k * k) := by
  unfold vl
  rw [ab_times hk, ab_times hk]
  grind
section
variable {base : Heap} {K : PySem.W.Frag} {mg : Str → Option Value} {P : Program} {w : World}
def spOfU : Sp := fun vs H Q _ => ∃ (b sb t : Addr) (xs : List V), vs = [.ref b, .ref t] ∧ Bag H b sb ∧ H t = some (.tup xs) ∧ 0 < xs.length ∧ xs.length ≤ 1000 ∧ ∀ (i : Nat) (v : V) (H' : Hp), xs[i]? = some v → Bag H' b sb → Keep b H H' → Q v H'
theorem ok_ofU (T : Txt K mg) : FnOk P w K mg base CX0 2 T.f_of T.d_of ["_law_bag", "_law_some"] spOfU := by
  refine T.F_of.ok sc_of (fun vs H Q E h => ?_) (fun cdv A outer s H vs Q E hr h => ?_)
  · obtain ⟨b, sb, t, xs, rfl, _⟩ := h
    rfl
  · obtain ⟨b, sb, t, xs, rfl, B, ht, h0, h1, q⟩ := h
    refine ⟨_, pss_one (ps_ret (pe_ix ix_tup (pv 1) (pe_call (ok_pull T) (hr.mono (by decide)) (by rfl) T.g_pull T.F_pull.kp T.b_pull .nil pass0 (pa_cons (pv 0) (pa_cons (pe_callB call_len_seq (by rfl) T.n_len (by decide +kernel) (pa_cons (pv 1) pa_nil)) pa_nil))) (fun _ _ => rfl))), ?_⟩
    have hn : ((xs.length : Int)).natAbs < 2 ^ 100 := Nat.lt_of_le_of_lt (show (xs.length : Int).natAbs ≤ 1000 by omega) (by decide)
    refine ⟨.ref t, rfl, .ref b, rfl, .ref t, rfl, t, xs, rfl, .inr (SqT.of ht), b, sb, _, rfl, B, (by show (0 : Int) < (xs.length : Int); omega), hn, fun z H' z0 z1 B' k' => ?_⟩
    obtain ⟨v, e1, e2⟩ := at_some z0 z1
    exact ⟨t, xs, z, v, rfl, rfl, SqT.of (tup_keep B k' _ _ ht), e2, q _ _ _ e1 B' k'⟩
def GotLL (b sb : Addr) (d : Int) (H : Hp) (Q : VK) : Prop := ∀ x y p H', LenL d x y → p ≠ b → H' p = some (.tup [.int x, .int y]) → Bag H' b sb → Keep b H H' → Q (.ref p) H'
def spTiny : Sp := fun vs H Q _ => ∃ (b sb : Addr) (d : Int), vs = [.ref b, .int d] ∧ Bag H b sb ∧ IsRoot d ∧ GotLL b sb d H Q
theorem ok_tiny (T : Txt K mg) : FnOk P w K mg base CX0 3 T.f_tiny T.d_tiny ["_law_bag", "_law_root_z"] spTiny := by
  refine T.F_tiny.ok sc_tiny (fun vs H Q E h => ?_) (fun cdv A outer s H vs Q E hr h => ?_)
  · obtain ⟨b, sb, d, rfl, _⟩ := h
    rfl
  · obtain ⟨b, sb, d, rfl, B, hd, q⟩ := h
    refine ⟨_, (pss_one (ps_ret (pe_call (ok_lscaled T) (hr.mono (by decide)) (by rfl) T.g_lscaled T.F_lscaled.kp T.b_lscaled .nil pass0 (pa_cons (pe_call (ok_ofU T) (hr.mono (by decide)) (by rfl) T.g_of T.F_of.kp T.b_of .nil pass0 (pa_cons (pv 0) (pa_cons (pe_call (ok_tile_pair T) (hr.mono (by decide)) (by rfl) T.g_tile_pair T.F_tile_pair.kp T.b_tile_pair .nil pass0 (pa_cons (pv 1) (pa_cons (pe_call (ok_pull T) (hr.mono (by decide)) (by rfl) T.g_pull T.F_pull.kp T.b_pull .nil pass0 (pa_cons (pv 0) (pa_cons pe_int pa_nil))) pa_nil))) pa_nil))) (pa_cons (pe_op op_add pe_int (pe_call (ok_pull T) (hr.mono (by decide)) (by rfl) T.g_pull T.F_pull.kp T.b_pull .nil pass0 (pa_cons (pv 0) (pa_cons pe_int pa_nil)))) pa_nil))))), ?_⟩
    obtain ⟨r2, r99, v, v0, v1, v2⟩ := id hd
    have hw : isW d v := ⟨v0, v1, v2⟩
    refine ⟨.ref b, rfl, .int d, rfl, .ref b, rfl, b, sb, 12, rfl, B, by decide, by decide, fun n0 H1 z0 z1 B1 k1 => ?_⟩
    obtain ⟨n, rfl⟩ := Int.eq_ofNat_of_zero_le z0
    refine ⟨d, v, n, rfl, r2, r99, hw, by omega, fun t e f H2 nt s2 ht he hf => ?_⟩
    refine ⟨b, sb, t, _, rfl, B1.same s2, ht, by simp, by simp, fun i u H3 hu B3 k3 => ?_⟩
    obtain ⟨x, k, rfl, hk, hx⟩ : ∃ (x : Addr) (k : Nat), u = .ref x ∧ k ≤ 12 ∧ H2 x = some (.tup [.int (tP k (cfF d v k).1), .int (tQ k (cfF d v k).2)]) := by
      match i, hu with
      | 0, hu => cases hu; exact ⟨e, n, rfl, by omega, he⟩
      | 1, hu => cases hu; exact ⟨f, n + 1, rfl, by omega, hf⟩
      | m + 2, hu => simp at hu
    have hx3 := tup_keep (B1.same s2) k3 _ _ hx
    have kk : Keep b H H3 := k1.trans ((keep_of s2).trans k3)
    obtain ⟨⟨p0, q0, _, _⟩, c1, c2, _, _⟩ := cf_bound r2 r99 hw (k + 1)
    have p0 : 0 ≤ (cfF d v k).1 := p0
    have q0 : 0 ≤ (cfF d v k).2 := q0
    have le66 : ∀ y : Int, 0 ≤ y → y < 2 ^ (5 * (k + 1) + 1) → y.natAbs < 2 ^ 66 := fun y y0 h => by
      have e1 : y.natAbs < 2 ^ (5 * (k + 1) + 1) := by
        have : ((y.natAbs : Nat) : Int) < ((2 ^ (5 * (k + 1) + 1) : Nat) : Int) := by
          rw [Int.natAbs_of_nonneg y0, Int.natCast_pow]
          exact h
        exact_mod_cast this
      exact Nat.lt_of_lt_of_le e1 (Nat.pow_le_pow_right (by decide) (by omega))
    have hp := le66 _ p0 c1
    have hq := le66 _ q0 c2
    have pos := tile_pos r2 r99 hw k
    have bp : (tP (k : Int) (cfF d v k).1).natAbs < 2 ^ 66 := by rw [tP_abs]; exact hp
    have bq : (tQ (k : Int) (cfF d v k).2).natAbs < 2 ^ 66 := by rw [tQ_abs]; exact hq
    generalize tP (k : Int) (cfF d v k).1 = xx at *
    generalize tQ (k : Int) (cfF d v k).2 = yy at *
    have up : ∀ {z : Int} {m : Nat}, m ≤ 9000 → z.natAbs < 2 ^ m → z.natAbs < 2 ^ 9000 := fun {z m} hm h => Nat.lt_of_lt_of_le h (Nat.pow_le_pow_right (by decide) hm)
    refine ⟨.ref b, rfl, b, sb, 4, rfl, B3, by decide, by decide, fun j0 H4 y0 y1 B4 k4 => ⟨1, j0, rfl, rfl, ?_⟩⟩
    have hx4 := tup_keep B3 k4 _ _ hx3
    refine ⟨.ref x, xx, yy, 1 + j0, rfl, ⟨x, rfl, SqT.of hx4⟩, up (by decide) bp, up (by decide) bq, up (m := 5) (by decide) (by omega), fun p H5 np s5 hp5 => ?_⟩
    refine q (xx * (1 + j0)) (yy * (1 + j0)) p H5 ⟨?_, ?_, ?_⟩ (B4.ne np) hp5 (B4.same s5) (kk.trans (k4.trans (keep_of s5)))
    · rw [vl_times (by omega)]
      exact Int.mul_pos pos (Int.mul_pos (by omega) (by omega))
    · exact Nat.lt_trans (wide_lt (b := 5) bp (by omega)) (by decide)
    · exact Nat.lt_trans (wide_lt (b := 5) bq (by omega)) (by decide)
end
/-! ### a lambda with one parameter that has a default, handed to a def that calls it -/
/-- its own names are no names of the def around it; none of them is captured -/
structure LamD (N : List Str) (sc scope : Scope) (b : Str) : Prop where
  kind : scope.kind = .function
  co : scope.isCoroutine = false
  gen : scope.isGenerator = false
  par : scope.names.lookup b = some .local
  own : ∀ y ∈ scope.names, (y.2 = .local → y.1 ∉ N) ∧ y.2 ≠ .cell
  free : ∀ y ∈ scope.names, y.2 = .free → sc.names.lookup y.1 = some .cell ∨ sc.names.lookup y.1 = some .free
theorem LamD.has {X : Cx} {scope : Scope} {N : List Str} {b : Str} (L : LamD N X.env.scope scope b) (ok : X.Ok) : ∀ y ∈ scope.names, y.2 = .free → ∃ c, X.env.cells.lookup y.1 = some c := by
  intro y m e
  exact ok.has _ (L.free y m e)
theorem no_frame {X : Cx} {pins : List (Addr × Obj)} {σ : L2.St} {H : Hp} {s : Shared} (I : Inv X pins σ H s) {b : Addr} (ge : s.heap.objs.size ≤ b) : b ∉ frs X.stack := by
  intro m
  rcases List.mem_cons.mp (I.stkSub _ m) with z | z
  · have lt := I.lt
    rw [← z] at lt
    exact Nat.lt_irrefl _ (Nat.lt_of_lt_of_le lt ge)
  · exact I.nofs ge z
section
variable {X : Cx} {pins : List (Addr × Obj)} {σ : L2.St} {H : Hp} {s : Shared}
/-- what stands behind the making: the function at f, its defaults at D -/
structure MadeD (X : Cx) (H1 : Hp) (s' : Shared) (params : Arguments) (body : Expr) (scope : Scope) (f c' D : Addr) (u : Value) : Prop where
  at_f : ∃ doc pm ctv, s'.heap.get? f = some (PySem.W.kdv_obj "<lambda>" (X.env.qual ++ "<lambda>") params (.expr body) scope (cloFrom X.env.cells scope.names []) (.ref D) doc pm c' ctv)
  at_D : s'.heap.get? D = some (PySem.W.kdv_tup [u])
  nf : H1 f = none
  nD : H1 D = none
  ff : f ∉ frs X.stack
  fD : D ∉ frs X.stack
  cd : H1 c' = some (LamX.CodeO c' (X.env.qual ++ "<lambda>"))
theorem lamd_make {T : List (Addr × Str)} {c P : Addr} {params : Arguments} {body d : Expr} {v0 : V} {scope : Scope} {pos : Pos} {Q : Value → Shared → Prop} (I : Inv X pins σ H s) (TB : LamX.TabB X.base X.mg c P) (hcode : X.env.code = .ref c)
    (hm : (P, X.env.qual ++ "<lambda>") ∈ T) (hu : ∀ p ∈ T, p.1 = P → p.2 = X.env.qual ++ "<lambda>") (hT : LamX.Tabs T H) (hk0 : params.kw_defaults = []) (hd : params.defaults = [d]) (pd : PE X d (tC v0)) (hfree : ∀ y ∈ scope.names, y.2 = .free → ∃ c, X.env.cells.lookup y.1 = some c)
    (h : ∀ (f c' D : Addr) (u : Value) (H1 : Hp) (s' : Shared), Inv X pins σ H1 s' → LamX.ExtN H H1 → LamX.Tabs T H1 → MadeD X H1 s' params body scope f c' D u → Q (.ref f) s') :
    wpAny (model X.prog X.w) X.A (eval (.Lambda params body scope pos) X.env) Q X.xe s := by
  refine PySem.W.kdv_lam (by rw [hd]; rfl) hk0 ?_
  rw [hd]
  refine PySem.W.kdv_all1 (thn (pd.run pins s σ H (fun _ H' => H' = H) I rfl) ?_)
  rintro u s1 ⟨v, H', I1, _, rfl⟩
  refine PySem.W.kdv_all0 ?_
  rw [makeFunction_eq]
  simp only [List.zip_nil_right, List.filterMap_nil, List.isEmpty_nil, if_true, pure_bind, List.isEmpty_cons, Bool.false_eq_true, if_false]
  refine wpAny_bind (wpAny_newTextTuple ?_)
  have I2 : Inv X pins σ H' { s1 with heap := s1.heap.push (PySem.W.kdv_tup [u]) } := I1.kept fun b o e => Heap.get?_push_of_some _ e
  have szD : s1.heap.objs.size < (s1.heap.push (PySem.W.kdv_tup [u])).objs.size := by
    rw [Heap.size_push]
    omega
  have at_D : (s1.heap.push (PySem.W.kdv_tup [u])).get? s1.heap.objs.size = some (PySem.W.kdv_tup [u]) := Heap.get?_push_size _ rfl
  have noD : H' s1.heap.objs.size = none := I1.hok.fresh (Nat.le_refl _)
  have frD := no_frame I1 (Nat.le_refl s1.heap.objs.size)
  generalize s1.heap.objs.size = D at *
  generalize hs2 : ({ s1 with heap := s1.heap.push (PySem.W.kdv_tup [u]) } : Shared) = s2 at *
  have e2 : s2.heap = s1.heap.push (PySem.W.kdv_tup [u]) := by rw [← hs2]
  rw [← e2] at szD at_D
  clear hs2 e2
  obtain ⟨ps, hP, ht, ha⟩ := hT _ hm
  have bP : s2.heap.BuiltinsAt X.mg P := TB.bm.keeps I2.bk
  have atP : s2.heap.get? P = some { cls := .none, data := .fields ps } := I2.hok P _ hP
  have DP : D ≠ P := fun z => by rw [z, hP] at noD; cases noD
  cases found : codeAmong pos ps.toList with
  | some cv =>
    obtain ⟨c', rfl, hco⟩ := ha pos cv found
    refine PySem.W.kdv_makeTailHit (mg := X.mg) (c := c) (P := P) (ps := ps) (closure_ok hfree) I2.ok.glob (I2.mod.glob.keeps I2.bk) hcode (TB.code.keeps I2.bk) atP ht found bP ?_
    intro ctv doc h' tk keep sz
    refine h h'.objs.size c' D u H' _ (I2.kept fun b o e => Heap.get?_push_of_some _ (keep b o e)) (LamX.ExtN.refl _) hT ⟨⟨_, _, _, Heap.get?_push_size _ rfl⟩, Heap.get?_push_of_some _ (keep _ _ at_D), I2.hok.fresh sz, noD, no_frame I2 sz, frD, hco⟩
  | none =>
    refine PySem.W.kdv_makeTail (mg := X.mg) (c := c) (P := P) (ps := ps) (closure_ok hfree) I2.ok.glob (I2.mod.glob.keeps I2.bk) hcode (TB.code.keeps I2.bk) atP ht found TB.gP bP ?_
    rintro c' ctv doc h' tk hx ge lt ⟨c2, oc, vs, t, e2, hoc, hdat, hv⟩ htb
    cases e2
    have newC : H' c' = none := I2.hok.fresh ge
    have sz : s2.heap.objs.size ≤ h'.objs.size := by omega
    have J := LamX.inv_table (t' := tk) (more := #[rawInt pos.line, rawInt pos.col, .ref c']) (h' := h'.push (PySem.W.kdv_obj "<lambda>" (X.env.qual ++ "<lambda>") params (.expr body) scope (cloFrom X.env.cells scope.names []) (.ref D) doc ((X.mg "__name__").getD .none) c' ctv)) I2 hP
      (fun b o hb e => Heap.get?_push_of_some _ (hx b o hb e)) (Heap.get?_push_of_some _ htb) ge ⟨oc, vs, t, Heap.get?_push_of_some _ hoc, hdat, hv⟩
    have ext : LamX.ExtN H' (upd (upd H' P (.tbl (ps ++ #[rawInt pos.line, rawInt pos.col, .ref c']))) c' (LamX.CodeO c' (X.env.qual ++ "<lambda>"))) := by
      intro b o e n
      have bP : b ≠ P := fun z => by rw [z, hP] at e; exact n _ (Option.some.inj e).symm
      rw [upd_ne (ne_of_none e newC), upd_ne bP]
      exact e
    refine h h'.objs.size c' D u _ _ J ext (fun p hp => ?_) ⟨⟨_, _, _, Heap.get?_push_size _ rfl⟩, Heap.get?_push_of_some _ (hx _ _ DP at_D), ?_, ?_, no_frame I2 sz, frD, upd_same⟩
    · by_cases isP : p.1 = P
      · rw [hu p hp isP, isP]
        have lst : (ps ++ #[rawInt pos.line, rawInt pos.col, .ref c']).toList = ps.toList ++ [rawInt pos.line, rawInt pos.col, .ref c'] := by simp
        refine ⟨ps ++ #[rawInt pos.line, rawInt pos.col, .ref c'], by rw [upd_ne (ne_of_none hP newC), upd_same], lst ▸ PySem.TriplesOk_snoc _ _ _ _ ht, fun p' cv am => ?_⟩
        rcases LamX.among_app _ ht (lst ▸ am) with z | z
        · obtain ⟨c0, z1, z2⟩ := ha p' cv z
          exact ⟨c0, z1, ext _ _ z2 LamX.codeO_ne⟩
        · exact ⟨c', z, upd_same⟩
      · obtain ⟨ps', a1, a2, a3⟩ := hT p hp
        refine ⟨ps', by rw [upd_ne (ne_of_none a1 newC), upd_ne isP]; exact a1, a2, fun p' cv am => ?_⟩
        obtain ⟨c0, z1, z2⟩ := a3 p' cv am
        exact ⟨c0, z1, ext _ _ z2 LamX.codeO_ne⟩
    · rw [upd_ne (Nat.ne_of_gt lt), upd_ne (Nat.ne_of_gt (Nat.lt_of_lt_of_le (Heap.lt_size atP) sz))]
      exact I2.hok.fresh sz
    · rw [upd_ne (Nat.ne_of_lt (Nat.lt_of_lt_of_le szD ge)), upd_ne DP]
      exact noD
end
section
variable {X : Cx} {pins : List (Addr × Obj)} {σ : L2.St} {H HZ : Hp} {s s1 : Shared}
theorem lamd_start {A : Around} {outer : List Env} {E : XK} {scope : Scope} {f c' : Addr} {h₁ : Heap} {tk : Nat} {b : Str} {m : Str → Option Value} (I : Inv X pins σ H s) (L : LamD X.N X.env.scope scope b) (e0 : Env0 X.prog X.w X.K X.mg X.base A outer s1 HZ) (hd : A.handled = none)
    (un : Un (frs X.stack) [] H HZ s.heap s1.heap) (hns : h₁.Ns s1.heap.objs.size m) (kp : ∀ b o, s1.heap.get? b = some o → h₁.get? b = some o) :
    Inv (LamX.lamCx X A outer s1 HZ E scope f c') [] σ HZ { s1 with heap := h₁, toks := tk } := by
  have caught : ∀ {y c}, (cloFrom X.env.cells scope.names []).lookup y = some c → X.env.cells.lookup y = some c := by
    intro y c e
    rcases cloFrom_mem (PySem.mem_of_lookup e) with z | ⟨z1, z2⟩
    · cases z
    obtain ⟨c1, hc⟩ := L.has I.ok _ z1 rfl
    have hc : X.env.cells.lookup y = some c1 := hc
    rw [hc, z2, hc]
    rfl
  have held : ∀ {y}, scope.names.lookup y = some .free → ∃ c, (cloFrom X.env.cells scope.names []).lookup y = some c := by
    intro y e
    exact mem_lookup (cloFrom_has (cells := X.env.cells) (acc := []) (show (y, NameKind.free) ∈ scope.names from PySem.mem_of_lookup e))
  have stays : ∀ {c : Addr} {v : Option Value}, H c = none → s.heap.IsCell c v → h₁.IsCell c v := by
    rintro c v n ⟨o, ho, hd⟩
    obtain ⟨sl, q⟩ := un.any ho n (List.not_mem_nil)
    exact ⟨_, kp _ _ q, hd⟩
  constructor
  · constructor
    · exact e0.mod
    · exact L.kind
    · rfl
    · rfl
    · exact Nat.le_refl _
    · exact fun y z c e1 e2 => I.ok.inj y z c (caught e1) (caught e2)
    · intro y hy
      rcases (show scope.names.lookup y = some .cell ∨ scope.names.lookup y = some .free from hy) with z | z
      · exact absurd rfl (L.own _ (PySem.mem_of_lookup z)).2
      · exact held z
    · intro y c z
      exact nomatch (show false = true from z)
    · exact fun _ => hd
    · exact Around.frames_deeper e0.frames
    · exact .inr ⟨rfl, rfl⟩
    · exact fun b z => nomatch (show b ∈ ([] : List Addr) from z)
    · exact e0.bs
    · exact e0.bsz
    · exact fun b _ _ z => nomatch (show b ∈ ([] : List Addr) from z)
    · exact fun b z => nomatch (show b ∈ ([] : List Addr) from z)
    · exact e0.funs
    · exact e0.frf
  · rfl
  · exact e0.bare
  · exact Un.kept kp
  · refine ⟨_, hns, fun i y v e1 e2 e3 => ?_⟩
    rcases (show Vis scope y from e3) with z | z | z
    · exact absurd (List.mem_of_getElem? (show X.N[i]? = some y from e1)) ((L.own _ (PySem.mem_of_lookup z)).1 rfl)
    · exact absurd rfl (L.own _ (PySem.mem_of_lookup z)).2
    · have from_ := L.free _ (PySem.mem_of_lookup z) rfl
      obtain ⟨_, _, look⟩ := I.loc
      obtain ⟨u, r, q⟩ := look i y v e1 e2 (from_.elim (fun k => .inr (.inl k)) fun k => .inr (.inr k))
      obtain ⟨c2, h2⟩ := held z
      refine ⟨u, r, .inr ⟨.inr z, c2, h2, ?_⟩⟩
      rcases q with ⟨k, _⟩ | ⟨_, c3, e', isC⟩
      · exfalso
        have k : X.env.scope.names.lookup y = some .local := k
        rcases from_ with k2 | k2 <;> rw [show X.env.scope.names.lookup y = _ from k2] at k <;> cases k
      · rw [caught h2] at e'
        cases e'
        exact stays (I.freeC y _ (caught h2)) isC
  · intro y c e
    obtain ⟨v, isC⟩ := I.cell y c (caught e)
    exact ⟨v, stays (I.freeC y c (caught e)) isC⟩
  · exact e0.hok.fresh (Nat.le_refl _)
  · intro y c e
    obtain ⟨v, o, ho, _⟩ := I.cell y c (caught e)
    exact un.free c o ho (I.freeC y c (caught e)) (List.not_mem_nil)
  · exact fun q z => nomatch (show q ∈ ([] : List (Addr × Obj)) from z)
  · exact e0.hok.kept kp
  · exact I.len
theorem pe_actD {CXg : CXT} {Eg : XK} {Ng : List Str} {qg : Str} {sg : Scope} {g f c' D : Addr} {u cdg : Value} {params : Arguments} {body : Expr} {scope : Scope} {k i : Nat} {a b : Str} {pn : List (Addr × Obj)} {xe : Value → Shared → Prop} {W : WX} {E : XK} {tb : TE} {p1 p2 : Pos}
    (I : Inv X pins σ H s) (L : LamD X.N X.env.scope scope b) (made : MadeD X H s params body scope f c' D u)
    (hbind : ∀ (q : Str) (cl : List (Str × Addr)) (D : Addr) (u doc pm cv ctv : Value), ∃ k, bindArgs (PySem.W.kdv_fn "<lambda>" q params (.expr body) scope cl (.ref D) doc pm cv ctv) ⟨[], []⟩ = seqItems? (.ref D) >>= k ∧ k (some #[u]) = pure [(b, u)])
    (tk : Takes ((cxOf CXg X.prog X.w X.K X.mg X.base Ng qg sg g cdg X.A X.stack s H Eg).tr pn xe) W) (hW : ∀ cls d σ' H', E cls d H' → W cls d σ' H') (hr : Room (k + 1) (X.A.deeper (envOfC qg sg s.heap.objs.size g cdg)))
    (hbody : ∀ (A : Around) (outer : List Env) (s : Shared) (H : Hp), Room k (A.deeper (LamX.lamEnv X scope s.heap.objs.size f c')) → PE (LamX.lamCx X A outer s H E scope f c') body tb)
    (hN : Ng[i]? = some a) (hv : Vis sg a) (hd : (a == ("__debug__" : Str)) = false := by decide) (hcd : (a == ("__classdict__" : Str)) = false := by decide) :
    PE ((cxOf CXg X.prog X.w X.K X.mg X.base Ng qg sg g cdg X.A X.stack s H Eg).tr pn xe) (.Call (.Name a p1) [] [] p2)
      (fun σZ HZ Q => σZ[i]? = some (some (.ref f)) ∧ HZ c' = some (LamX.CodeO c' (X.env.qual ++ "<lambda>")) ∧ tb σ HZ Q) := by
  constructor
  rintro pinsZ sZ σZ HZ Q IZ ⟨hs, hc, ht⟩
  apply wpAny_Call_Name_kw
  refine thn ((pe_var (pos := p1) (i := i) hN hv hd hcd).run pinsZ sZ σZ HZ (fun v H1 => v = .ref f ∧ H1 = HZ) IZ ⟨.ref f, hs, rfl, rfl⟩) ?_
  rintro u1 s1 ⟨v, H1, I1, r1, rfl, rfl⟩
  cases (show u1 = Value.ref f from r1)
  obtain ⟨doc, pm, ctv, at_f⟩ := made.at_f
  have of1 := I1.base.keep f _ at_f made.nf made.ff (fun z => nomatch (show f ∈ ([] : List Addr) from z))
  have oD := I1.base.keep D _ made.at_D made.nD made.fD (fun z => nomatch (show D ∈ ([] : List Addr) from z))
  refine PySem.W.callWith_F0 ⟨_, _, _, _, of1⟩ ?_
  have un : Un (frs X.stack) [] H H1 s.heap s1.heap := I1.base
  obtain ⟨⟨oc, vs, t, hoc, hdc, hvc⟩, _, _⟩ := I1.hok c' _ hc
  obtain ⟨kb, b1, b2⟩ := hbind (X.env.qual ++ "<lambda>") (cloFrom X.env.cells scope.names []) D u doc pm (.ref c') ctv
  have bd : BindsTo s1 (PySem.W.kdv_fn "<lambda>" (X.env.qual ++ "<lambda>") params (.expr body) scope (cloFrom X.env.cells scope.names []) (.ref D) doc pm (.ref c') ctv) ⟨[], []⟩ [(b, u)] := BindsTo.of_defaults rfl oD rfl b1 b2
  have rc : codeAny (model X.prog X.w) (X.A.deeper (envOfC qg sg s.heap.objs.size g cdg)) (.call (.ref f) ⟨[], []⟩) (CR (L2.CX X.prog X.w) (envOfC qg sg s.heap.objs.size g cdg :: X.stack) X.prog X.w H1 s1 Q E) s1 := by
    refine PySem.W.kla_callFunE hr.depth of1 rfl L.co L.gen rfl ⟨c', oc, vs, t, rfl, hoc, hdc, hvc⟩ (bd _ _ _ _ ?_)
    refine wpAny_newFunctionEnv (fun y hy => (L.own y hy).2) (fun y hy => ?_) (fun h₁ hns hsb => ⟨I1.nolimit.fresh _ hsb, ?_⟩) L.kind
    · cases List.mem_singleton.mp hy
      exact L.par
    show codeAny _ _ (.expr body (LamX.lamEnv X scope s1.heap.objs.size f c')) _ _
    have kp : ∀ b o, s1.heap.get? b = some o → h₁.get? b = some o := fun b o e => hsb.extBut b o (Nat.ne_of_lt (Heap.lt_size e)) (Heap.get?_push_of_some _ e)
    have J : Inv (LamX.lamCx X (X.A.deeper (envOfC qg sg s.heap.objs.size g cdg)) (envOfC qg sg s.heap.objs.size g cdg :: X.stack) s1 H1 E scope f c') [] σ H1 { s1 with heap := h₁, toks := s1.toks + [(b, u)].length } :=
      lamd_start I L I1.env0 hr.hd un hns kp
    apply PySem.W.kla_codeExpr
    refine wpAny_mono ((hbody _ _ s1 H1 (hr.deeper _)).run [] _ _ H1 Q J ht) ?_ (fun _ _ z => z)
    rintro v' s' ⟨w', H', J', rv, q⟩
    exact ⟨w', H', J'.os, J'.bare, J'.base, J'.hok, rv, q⟩
  have hx : Passes (L2.CX X.prog X.w) ((cxOf CXg X.prog X.w X.K X.mg X.base Ng qg sg g cdg X.A X.stack s H Eg).tr pn xe) E := passes_call tk hW
  refine wpAny_call (codeAny_mono rc fun r s' hq => ?_)
  cases r with
  | error e => exact hx pinsZ σZ H1 s1 e s' I1 hq
  | ok fl =>
    cases fl with
    | ret u => exact I1.after hq
    | next => exact False.elim hq
    | brk => exact False.elim hq
    | cont => exact False.elim hq
end
/-- x(lambda b=..: body) -/
theorem pe_lamcallD {X : Cx} {T : List (Addr × Str)} {TT : (XK → Hp → VK → Prop) → Hp → VK → Prop} {x a b : Str} {g c P : Addr} {k : Nat} {pg : Arguments} {bg : List Stmt} {sg : Scope} {dV kV doc pm cdv ct oc : Value} {an od : Option Addr} {osl : Array (Option Value)} {Ng : List Str}
    {params : Arguments} {body d : Expr} {v0 : V} {scope : Scope} {t : XK → TE} {p lpos pos : Pos} (hg : Gl X x) (hm : X.mg x = some (.ref g)) (hk : PySem.W.keepIn X.K (.ref g) = true)
    (lk : X.K.lookup g = some ⟨oc, od, .func (PySem.W.fnOf x x pg bg sg dV kV doc pm an cdv ct), osl⟩) (hcg : PySem.W.codeIn X.K cdv x = true) (hb : L2.Binds X.K (PySem.W.fnOf x x pg bg sg dV kV doc pm an cdv ct) [a] []) (Sg : FnScope Ng [a] sg) (hNg : Ng[0]? = some a) (hva : Vis sg a)
    (hG : LamX.GivesTo X Ng x sg g cdv bg a (X.env.qual ++ "<lambda>") TT)
    (TB : LamX.TabB X.base X.mg c P) (hcode : X.env.code = .ref c) (hmT : (P, X.env.qual ++ "<lambda>") ∈ T) (hu : ∀ p ∈ T, p.1 = P → p.2 = X.env.qual ++ "<lambda>") (hr : Room (k + 2) X.A) (L : LamD X.N X.env.scope scope b) (hk0 : params.kw_defaults = []) (hd0 : params.defaults = [d]) (pd : PE X d (tC v0))
    (hbind : ∀ (q : Str) (cl : List (Str × Addr)) (D : Addr) (u doc pm cv ctv : Value), ∃ k, bindArgs (PySem.W.kdv_fn "<lambda>" q params (.expr body) scope cl (.ref D) doc pm cv ctv) ⟨[], []⟩ = seqItems? (.ref D) >>= k ∧ k (some #[u]) = pure [(b, u)])
    (hbody : ∀ (A : Around) (outer : List Env) (s : Shared) (H : Hp) (E : XK) (f c' : Addr), Room k (A.deeper (LamX.lamEnv X scope s.heap.objs.size f c')) → PE (LamX.lamCx X A outer s H E scope f c') body (t E))
    (hdb : (x == ("__debug__" : Str)) = false := by decide) (hd : (a == ("__debug__" : Str)) = false := by decide) (hcd : (a == ("__classdict__" : Str)) = false := by decide) :
    PE X (.Call (.Name x p) [.Lambda params body scope lpos] [] pos) (LamX.tLam T TT t) := by
  constructor
  rintro pins s σ H Q I ⟨hT, h⟩
  apply wpAny_Call_Name_kw
  refine ld_glob I hg hm ?_ hdb
  refine PySem.W.callWith_K (h₀ := X.base) I.ok.mod.kin hk ?_ (by rfl) (by rfl)
  show wpAny _ _ (spliced ((false, eval (.Lambda params body scope lpos) X.env) :: backTo pos (starEach [] X.env))) _ _ s
  apply Calls.spliced_cons
  refine lamd_make I TB hcode hmT hu hT hk0 hd0 pd (L.has I.ok) ?_
  intro f c' D u H1 s' I1 eN T1 made
  refine Calls.spliced_nil ⟨I1.kIn, ?_⟩
  have rc : codeAny (model X.prog X.w) X.A (.call (.ref g) ⟨[.ref f], []⟩) (CR C8.CX0 X.stack X.prog X.w H1 s' Q C8.E0) s' := by
    refine LamX.run_ofS (N := Ng) (ps := [a]) (us := [.ref f]) (vs := [.ref f]) lk hcg Sg hr I1.env0 (hb s' [.ref f] I1.kIn rfl) (.cons rfl .nil) rfl fun hr' => ?_
    obtain ⟨t', ht', hq'⟩ := hG f c' s' H1 Q (fun E H' Q' => t E σ H' Q') (fun W pn xe E p1 p2 tk hW => pe_actD (i := 0) I1 L made hbind tk hW hr' (fun A outer s H hr2 => hbody A outer s H E f c' hr2) hNg hva hd hcd) made.cd (h H1 eN T1)
    exact ⟨t', ht'.nox, hq'⟩
  refine wpAny_call (codeAny_mono rc fun r s2 hq => ?_)
  cases r with
  | error e => exact (show False from hq).elim
  | ok fl =>
    cases fl with
    | ret u => exact I1.after hq
    | next => exact False.elim hq
    | brk => exact False.elim hq
    | cont => exact False.elim hq
/-! ### what is asked of the def that asks -/
section
variable {X : Cx} {k : Nat} {c P0 : Addr} {params : Arguments} {body d : Expr} {v0 : V} {scope : Scope} {t : XK → TE} {p lpos pos : Pos} {b : Str}
theorem one_tab {P0 : Addr} {q : Str} : ∀ p ∈ [(P0, q)], p.1 = P0 → p.2 = q := by
  intro p hp _
  rw [List.mem_singleton.mp hp]
theorem pe_try (T : Txt X.K X.mg) (hg : Gl X "_law_try") (TB : LamX.TabB X.base X.mg c P0) (hcode : X.env.code = .ref c) (hr : Room (k + 3) X.A) (L : LamX.LamS X.env.scope scope) (hdef : defaultsOf params X.env = ([], []))
    (hbind : ∀ (q : Str) (cl : List (Str × Addr)) (pm cv ctv : Value), bindArgs (PySem.W.kla_fn "<lambda>" q params body scope cl pm cv ctv) ⟨[], []⟩ = pure [])
    (hbody : ∀ (A : Around) (outer : List Env) (s : Shared) (H : Hp) (E : XK) (f c' : Addr), Room (k + 1) (A.deeper (LamX.lamEnv X scope s.heap.objs.size f c')) → PE (LamX.lamCx X A outer s H E scope f c') body (t E)) :
    PE X (.Call (.Name "_law_try" p) [.Lambda params body scope lpos] [] pos) (LamX.tLam [(P0, X.env.qual ++ "<lambda>")] (TTry X.K T.r_GrainError) t) := by
  obtain ⟨oc2, od2, kV2, doc2, pm2, an2, cdv2, ct2, osl2, eT, lkT, cdT⟩ := T.F_try.ex
  have bT := T.b_try
  rw [eT] at bT
  rw [eT] at lkT
  exact LamX.pe_lamcall hg T.g_try T.F_try.kp lkT cdT bT sc_try rfl (Or.inl rfl) (try_gives T rfl rfl (k := k) hr) TB hcode (List.mem_singleton.mpr rfl) one_tab hr L hdef hbind hbody
theorem pass_never {X : Cx} {P : Program} {w : World} : Passes (L2.CX P w) X (fun _ _ _ => False) := by
  intro pins σ H s e s' I z
  obtain ⟨_, _, _, _, _, _, _, _, _, _, _, _, he⟩ := z
  exact he.elim
end
/-! ### an error of the first kind, told -/
section
variable {P : Program} {K : PySem.W.Frag} {mg : Str → Option Value} {G : Addr} {st : Stmt} {nm qual : Str} {B newId initId : String} {bmB : List Value}
theorem exm_er (T : Er P K mg B newId initId bmB [.ref G] st nm qual) {cg : ClassData} (hg : PySem.W.clsIn K G = some cg) (tg : PySem.W.typeIn K (.ref G) = some (.type "type")) (sb : PySem.W.subIn K (.ref G) (.type "BaseException") = some true) : PySem.W.exmOne K (.ref T.C) (.ref G) = some true := by
  unfold PySem.W.exmOne
  rw [if_pos (by rw [sb]; rfl)]
  unfold PySem.W.kitCls
  dsimp only
  rw [hg, tg, if_pos (show ((some cg).isSome && some (Value.type "type") == some (Value.type "type")) = true from show (true && some (Value.type "type") == some (Value.type "type")) = true by decide +kernel)]
  show PySem.W.mroIn K T.C (.ref G) = _
  obtain ⟨cd, hc, _, hm⟩ := T.cl
  unfold PySem.W.mroIn
  rw [hc, Option.bind_some, hm]
  show some ((Value.ref T.C :: ([Value.ref G] ++ _)).contains (.ref G)) = some true
  congr 1
  rw [List.contains_cons, List.cons_append, List.contains_cons, beq_self_eq_true]
  simp
theorem raised_er (T : Er P K mg B newId initId bmB [.ref G] st nm qual) {cg : ClassData} (hg : PySem.W.clsIn K G = some cg) (tg : PySem.W.typeIn K (.ref G) = some (.type "type")) (sb : PySem.W.subIn K (.ref G) (.type "BaseException") = some true)
    {w : Str} {fs : List (Str × V)} {v : V} (no : ∀ f v, fs.lookup f = some v → PySem.W.findIn K (.ref T.C) f = some none) (wd : fs.lookup ("word" : Str) = some (.str w)) (fv : fieldVal w fs = some v)
    {Q : VK} {d : Addr} {Hf : Hp} (hd : Hf d = some (.xd fs)) (q : Told Q w v Hf) : Raised K G Q (.ref T.C) (some d) Hf :=
  ⟨exm_er T hg tg sb, w, fs, v, ⟨⟨_, d, rfl, rfl, xfc_of T, hd, no⟩, wd⟩, fv, q⟩
theorem no_two {C : Addr} {f1 : Str} {v1 v2 : V} (h1 : PySem.W.findIn K (.ref C) f1 = some none) (h2 : PySem.W.findIn K (.ref C) "word" = some none) : ∀ f v, List.lookup f [(f1, v1), (("word" : Str), v2)] = some v → PySem.W.findIn K (.ref C) f = some none := by
  intro f v e
  simp only [List.lookup] at e
  split at e
  · rename_i z
    rw [eq_of_beq z]
    exact h1
  · split at e
    · rename_i z
      rw [eq_of_beq z]
      exact h2
    · cases e
theorem no_one {C : Addr} {v2 : V} (h2 : PySem.W.findIn K (.ref C) "word" = some none) : ∀ f v, List.lookup f [(("word" : Str), v2)] = some v → PySem.W.findIn K (.ref C) f = some none := by
  intro f v e
  simp only [List.lookup] at e
  split at e
  · rename_i z
    rw [eq_of_beq z]
    exact h2
  · cases e
end
/-! ### what stays where lambdas are made -/
theorem Bag.extN {H H' : Hp} {b sb : Addr} (B : Bag H b sb) (e : LamX.ExtN H H') : Bag H' b sb := by
  obtain ⟨ns, i, j, m, c, h1, h2, h3, h4, h5, h6⟩ := B
  exact ⟨ns, i, j, m, c, e _ _ h1 (fun _ z => by cases z), e _ _ h2 (fun _ z => by cases z), h3, h4, h5, h6⟩
theorem lst_extN {H H' : Hp} {a : Addr} {xs : List V} (h : H a = some (.lst xs)) (e : LamX.ExtN H H') : H' a = some (.lst xs) := e _ _ h (fun _ z => by cases z)
theorem tup_extN {H H' : Hp} {a : Addr} {xs : List V} (h : H a = some (.tup xs)) (e : LamX.ExtN H H') : H' a = some (.tup xs) := e _ _ h (fun _ z => by cases z)
theorem tabs_keep {H H' : Hp} {b sb : Addr} {T : List (Addr × Str)} (t : LamX.Tabs T H) (B : Bag H b sb) (k : Keep b H H') : LamX.Tabs T H' := by
  intro p hp
  obtain ⟨ps, h1, h2, h3⟩ := t p hp
  obtain ⟨ns, i, j, m, c, B⟩ := B
  refine ⟨ps, k _ _ (ne_of h1 B.hb (by intro z; cases z)) h1, h2, fun pos cv hc => ?_⟩
  obtain ⟨c', e1, e2⟩ := h3 pos cv hc
  exact ⟨c', e1, k _ _ (ne_of e2 B.hb (by intro z; unfold LamX.CodeO at z; cases z)) e2⟩
def pairD (x : Int × Int) : PyData := .tuple [.int x.1, .int x.2]
theorem pairs_can (ps : List (Int × Int)) : SeqAt.shaped (.list (ps.map pairD)) = true ∧ PyData.eqv (.list (ps.map pairD)) (.list (ps.map pairD)) = true := by
  have g : PyData.canLayAll0 (ps.map pairD) = true ∧ PyData.depthAll (ps.map pairD) ≤ 3 ∧ PyData.plainAll (ps.map pairD) = true := by
    induction ps with
    | nil => exact ⟨by simp [PyData.canLayAll0], by simp [PyData.depthAll], by simp [PyData.plainAll]⟩
    | cons t ts ih =>
      obtain ⟨h1, h2, h3⟩ := ih
      exact ⟨by simp [pairD, PyData.canLayAll0, PyData.canLay0, h1], by simp [pairD, PyData.depthAll, PyData.depth]; omega, by simp [pairD, PyData.plainAll, PyData.plain, h3]⟩
  obtain ⟨h1, h2, h3⟩ := g
  refine ⟨?_, PySem.SeqAt.eqv_refl_plain _ (by simp [PyData.plain, h3])⟩
  unfold SeqAt.shaped
  rw [Bool.and_eq_true]
  refine ⟨by simp [PyData.canLay0, h1], decide_eq_true ?_⟩
  simp only [PyData.depth]
  omega
theorem flat_one {α : Type} (v : α) : ∀ n : Nat, (List.replicate n [v]).flatten = List.replicate n v
  | 0 => rfl
  | n + 1 => by rw [List.replicate_succ, List.replicate_succ, List.flatten_cons, flat_one v n]; rfl
theorem cut_to {xs : List V} {n : Nat} (h : n ≤ xs.length) : cutV xs none (some (n : Int)) = xs.take n := by
  unfold cutV
  rw [HT.sIx_none, HT.sIx_nat, Nat.min_eq_left h]
  rfl
theorem cut_from {xs : List V} {n : Nat} (h : n ≤ xs.length) : cutV xs (some (n : Int)) none = xs.drop n := by
  unfold cutV
  rw [HT.sIx_none, HT.sIx_nat, Nat.min_eq_left h, List.take_of_length_le (by rw [List.length_drop]; exact Nat.le_refl _)]
/-! ### the lengths that are drawn -/
abbrev qn : Str := "law" ++ ".<locals>." ++ "<lambda>"
structure Lot (P0 b sb : Addr) (d : Int) (L : Addr) (as : List Addr) (ps : List (Int × Int)) (H : Hp) : Prop where
  bg : Bag H b sb
  tb : LamX.Tabs [(P0, qn)] H
  ls : H L = some (.lst (as.map V.ref))
  nb : L ≠ b
  pt : PsAt H as ps
  ok : ∀ p ∈ ps, LenL d p.1 p.2
  few : as.length ≤ 6
section
variable {P0 b sb : Addr} {d : Int} {L : Addr} {as : List Addr} {ps : List (Int × Int)} {H H' : Hp}
theorem Lot.same (S : Lot P0 b sb d L as ps H) (s : Same H H') : Lot P0 b sb d L as ps H' := ⟨S.bg.same s, S.tb.ext s, s _ _ S.ls, S.nb, S.pt.same s, S.ok, S.few⟩
theorem Lot.keep (S : Lot P0 b sb d L as ps H) (k : Keep b H H') (B' : Bag H' b sb) : Lot P0 b sb d L as ps H' :=
  ⟨B', tabs_keep S.tb S.bg k, k _ _ S.nb S.ls, S.nb, ⟨S.pt.1, fun i x p e1 e2 => tup_keep S.bg k _ _ (S.pt.2 i x p e1 e2)⟩, S.ok, S.few⟩
theorem Lot.ext (S : Lot P0 b sb d L as ps H) (e : LamX.ExtN H H') (t : LamX.Tabs [(P0, qn)] H') : Lot P0 b sb d L as ps H' :=
  ⟨S.bg.extN e, t, lst_extN S.ls e, S.nb, ⟨S.pt.1, fun i x p e1 e2 => tup_extN (S.pt.2 i x p e1 e2) e⟩, S.ok, S.few⟩
/-- one more length -/
theorem Lot.more {x : Addr} {p : Int × Int} (S : Lot P0 b sb d L as ps H) (nsb : L ≠ sb) (nP : L ≠ P0) (l5 : as.length ≤ 5) (hx : H x = some (.tup [.int p.1, .int p.2])) (hp : LenL d p.1 p.2) : Lot P0 b sb d L (as ++ [x]) (ps ++ [p]) (upd H L (.lst (as.map V.ref ++ [.ref x]))) := by
  have tu : ∀ y xs, H y = some (.tup xs) → (upd H L (.lst (as.map V.ref ++ [.ref x]))) y = some (.tup xs) := fun y xs e => tup_put S.ls y xs e
  refine ⟨S.bg.put S.nb nsb, ?_, by rw [upd_same, List.map_append]; rfl, S.nb, ⟨by rw [List.length_append, List.length_append, S.pt.1]; rfl, fun i y q e1 e2 => ?_⟩, fun q hq => ?_, by rw [List.length_append]; show as.length + 1 ≤ 6; omega⟩
  · intro p hp
    obtain ⟨qs, h1, h2, h3⟩ := S.tb p hp
    refine ⟨qs, (upd_ne (ne_of h1 S.ls (by intro z; cases z))).trans h1, h2, fun pos cv hc => ?_⟩
    obtain ⟨c', e1, e2⟩ := h3 pos cv hc
    exact ⟨c', e1, (upd_ne (ne_of e2 S.ls (by intro z; unfold LamX.CodeO at z; cases z))).trans e2⟩
  · rw [List.getElem?_append] at e1 e2
    rw [← S.pt.1] at e2
    split at e1
    · rename_i l
      rw [if_pos l] at e2
      exact tu _ _ (S.pt.2 i y q e1 e2)
    · rename_i l
      rw [if_neg l] at e2
      have i0 : i - as.length = 0 := by
        cases z : i - as.length with
        | zero => rfl
        | succ k => rw [z] at e1; cases e1
      rw [i0] at e1 e2
      cases e1
      cases e2
      exact tu _ _ hx
  · rcases List.mem_append.mp hq with z | z
    · exact S.ok q z
    · rw [List.mem_singleton.mp z]
      exact hp
theorem Lot.dps {K : PySem.W.Frag} : ∀ {as : List Addr} {ps : List (Int × Int)}, PsAt H as ps → DpAll K H (as.map V.ref) (ps.map pairD)
  | [], [], _ => .nil
  | [], _ :: _, h => by cases h.1
  | _ :: _, [], h => by cases h.1
  | a :: as, p :: ps, h => .cons (.tup (SqT.of (h.2 0 a p rfl rfl)) (.cons (.int _) (.cons (.int _) .nil))) (Lot.dps ⟨Nat.succ.inj h.1, fun i x q e1 e2 => h.2 (i + 1) x q (by simpa using e1) (by simpa using e2)⟩)
end
/-- of each pair, whether both coordinates at a number are not negative -/
def okB (r v a b : Int) (k : Nat) : Bool := decide (0 ≤ cN r v a b k ∧ 0 ≤ cN r v a b (k + 1))
def okl (r v : Int) (k : Nat) (ps : List (Int × Int)) : List Bool := ps.map fun p => okB r v p.1 p.2 k
theorem okl_all {r v : Int} {k : Nat} {ps : List (Int × Int)} (h : ∀ p ∈ ps, OkAt r v p.1 p.2 k) : (okl r v k ps).all id = true := by
  unfold okl
  rw [List.all_eq_true]
  intro x hx
  obtain ⟨p, hp, rfl⟩ := List.mem_map.mp hx
  show okB r v p.1 p.2 k = true
  unfold okB
  exact decide_eq_true (And.intro (h p hp).1 (h p hp).2)
theorem okl_no {r v : Int} {k : Nat} {ps : List (Int × Int)} (h : ∃ p, p ∈ ps ∧ ¬ OkAt r v p.1 p.2 k) : (okl r v k ps).all id = false := by
  obtain ⟨p, hp, n⟩ := h
  unfold okl
  rw [Bool.eq_false_iff]
  intro z
  have := List.all_eq_true.mp z _ (List.mem_map.mpr ⟨p, hp, rfl⟩)
  have g := of_decide_eq_true (p := 0 ≤ cN r v p.1 p.2 k ∧ 0 ≤ cN r v p.1 p.2 (k + 1)) this
  exact n ⟨g.1, g.2⟩
theorem okl_succ {r v : Int} {k j : Nat} {ps : List (Int × Int)} {p : Int × Int} (hp : ps[j]? = some p) : okl r v k (ps.take (j + 1)) = okl r v k (ps.take j) ++ [okB r v p.1 p.2 k] := by
  unfold okl
  rw [List.take_succ, hp, List.map_append]
  rfl
theorem min_ok {r v a b m : Int} {k : Nat} (hm : m ∈ [cN r v a b (k + 1), cN r v a b k]) (lo : ∀ y ∈ [cN r v a b (k + 1), cN r v a b k], m ≤ y) : decide (0 ≤ m) = okB r v a b k := by
  have h1 := lo (cN r v a b (k + 1)) (by simp)
  have h2 := lo (cN r v a b k) (by simp)
  have h3 : m = cN r v a b (k + 1) ∨ m = cN r v a b k := by simpa using hm
  unfold okB
  rcases Int.lt_or_le m 0 with c | c
  · rw [decide_eq_false (by omega), decide_eq_false]
    rintro ⟨q1, q2⟩
    rcases h3 with h3 | h3 <;> omega
  · rw [decide_eq_true c, decide_eq_true ⟨by omega, by omega⟩]
theorem w72 {z : Int} (h : z.natAbs < 2 ^ 72) : z.natAbs < 2 ^ 9000 := Nat.lt_of_lt_of_le h (Nat.pow_le_pow_right (by decide) (by decide))
theorem bad_one {r : Int} {ps : List (Int × Int)} {k k' : Nat} (h : BadAt r ps k) (h' : BadAt r ps k') : k = k' := by
  obtain ⟨⟨p, hp, n⟩, g⟩ := h
  obtain ⟨⟨p', hp', n'⟩, g'⟩ := h'
  rcases Nat.lt_trichotomy k k' with z | z | z
  · exact absurd (g' k p z hp) n
  · exact z
  · exact absurd (g k' p' z hp') n'
/-- a pair that is no length, put between lengths -/
theorem bad_in {d x y : Int} {ps qs : List (Int × Int)} {n : Nat} (h : ∀ p ∈ ps, 0 < vl p.1 p.2 d) (hn : n ≤ ps.length) (no : ¬ 0 < vl x y d) : BadAt d (ps.take n ++ ((x, y) :: qs)) n := by
  have l : (ps.take n).length = n := by rw [List.length_take]; omega
  refine ⟨⟨(x, y), ?_, no⟩, fun i p hi hp => ?_⟩
  · rw [List.getElem?_append_right (by omega), l, Nat.sub_self]
    rfl
  · rw [List.getElem?_append_left (by omega)] at hp
    exact h p (List.mem_of_mem_take (List.mem_of_getElem? hp))
theorem PsAt.app {H : Hp} {as bs : List Addr} {ps qs : List (Int × Int)} (h : PsAt H as ps) (h' : PsAt H bs qs) : PsAt H (as ++ bs) (ps ++ qs) := by
  refine ⟨by rw [List.length_append, List.length_append, h.1, h'.1], fun i x p e1 e2 => ?_⟩
  rw [List.getElem?_append] at e1 e2
  rw [← h.1] at e2
  split at e1
  · rename_i l
    rw [if_pos l] at e2
    exact h.2 i x p e1 e2
  · rename_i l
    rw [if_neg l] at e2
    exact h'.2 _ x p e1 e2
theorem PsAt.cut {H : Hp} {as : List Addr} {ps : List (Int × Int)} (n : Nat) (h : PsAt H as ps) : PsAt H (as.take n) (ps.take n) ∧ PsAt H (as.drop n) (ps.drop n) := by
  refine ⟨⟨by rw [List.length_take, List.length_take, h.1], fun i x p e1 e2 => ?_⟩, ⟨by rw [List.length_drop, List.length_drop, h.1], fun i x p e1 e2 => ?_⟩⟩
  · rw [List.getElem?_take] at e1 e2
    split at e1
    · rename_i l
      rw [if_pos l] at e2
      exact h.2 i x p e1 e2
    · cases e1
  · rw [List.getElem?_drop] at e1 e2
    exact h.2 _ x p e1 e2
theorem PsAt.rep {H : Hp} {a : Addr} {p : Int × Int} (h : H a = some (.tup [.int p.1, .int p.2])) (k : Nat) : PsAt H (List.replicate k a) (List.replicate k p) := by
  refine ⟨by rw [List.length_replicate, List.length_replicate], fun i x q e1 e2 => ?_⟩
  rw [List.getElem?_replicate] at e1 e2
  split at e1
  · rename_i l
    rw [if_pos l] at e2
    cases e1
    cases e2
    exact h
  · cases e1
theorem PsAt.one {H : Hp} {a : Addr} {p : Int × Int} {as : List Addr} {ps : List (Int × Int)} (h : H a = some (.tup [.int p.1, .int p.2])) (t : PsAt H as ps) : PsAt H (a :: as) (p :: ps) := by
  have := (PsAt.rep h 1).app t
  exact this
theorem dlen {K : PySem.W.Frag} {H : Hp} {p : Addr} {n : Int} (h : H p = some (.tup [.str "BadLength", .int n])) : Dp K H (.ref p) (.tuple [.str "BadLength", .int n]) := .tup (SqT.of h) (.cons (.str _) (.cons (.int n) .nil))
theorem slen (n : Int) : SeqAt.shaped (.tuple [.str "BadLength", .int n]) = true := by kernel_rfl
theorem elen (n : Int) : PyData.eqv (.tuple [.str "BadLength", .int n]) (.tuple [.str "BadLength", .int n]) = true := PySem.SeqAt.eqv_refl_plain _ (by simp [PyData.plain, PyData.plainAll])
section
variable {K : PySem.W.Frag} {mg : Str → Option Value}
theorem told_len (T : Txt K mg) {H : Hp} {n : Nat} {Q : VK} (q : ∀ H' p, Same H H' → H' p = some (.tup [.str "BadLength", .int n]) → Q (.ref p) H') : Throws T.e_BadLength.C (badLen n) H (Raised K T.r_GrainError Q) := by
  intro x Hf nx sf fx
  obtain ⟨cg, hg, _⟩ := T.c_GrainError
  exact raised_er T.e_BadLength hg T.t_GrainError T.sb_GrainError (no_two T.x_BadLength_at T.x_BadLength_word) rfl rfl fx fun H' p s' hp => q H' p (sf.trans s') hp
end
/-! ### the law -/
section
variable {base : Heap} {K : PySem.W.Frag} {mg : Str → Option Value} {w : World}
def spLaw (K : PySem.W.Frag) (P0 : Addr) : Sp := fun vs H Q _ => ∃ (a : Addr) (ns : List Int), vs = [.ref a] ∧ SqL K H a (ns.map V.int) ∧ ns.length ≤ 63 ∧ H P0 = some (.tbl #[]) ∧ ∀ H', Q (.bl true) H'
theorem ok_law {f c P0 : Addr} {oc kV doc pm ct : Value} {od an : Option Addr} {osl : Array (Option Value)} (lk : K.lookup f = some ⟨oc, od, .func (PySem.W.fnOf "law" "law" (defArgs s_law) (defBody s_law) (defScope s_law) .none kV doc pm an (.ref c) ct), osl⟩) (hcd : PySem.W.codeIn K (.ref c) "law" = true)
    (TB : LamX.TabB base mg c P0) (T : Txt K mg) : FnOk PySem.Challenge.pw_grainyard_k10_whole_first_numbers w K mg base CX0 16 f (PySem.W.fnOf "law" "law" (defArgs s_law) (defBody s_law) (defScope s_law) .none kV doc pm an (.ref c) ct) ["_law_script"] (spLaw K P0) := by
  refine fn_of lk hcd sc_law (fun vs H Q E h => ?_) (fun A outer s H vs Q E hr h => ?_)
  · obtain ⟨a, ns, rfl, _⟩ := h
    rfl
  · obtain ⟨a, ns, rfl, hS, hlen, hP, q⟩ := h
    refine ⟨_, PSs.nox (pss_cons (ps_set (i := 1) sc_law.nd rfl (Or.inr rfl) (pe_call (ok_source T) (hr.mono (by decide)) (by rfl) T.g_source T.F_source.kp T.b_source .nil pass0 (pa_cons (pv 0) pa_nil)))
      (pss_cons (ps_for PassesOwn.never rfl (pi_range1 (by rfl) T.n_range (pa_cons pe_int pa_nil)) (pg_name (i := 2) sc_law.nd rfl (Or.inl rfl)) (pss_cons (ps_set (i := 3) sc_law.nd rfl (Or.inr rfl) (pe_call (ok_a_root T) (hr.mono (by decide)) (by rfl) T.g_a_root T.F_a_root.kp T.b_a_root .nil pass0 (pa_cons (pv 1) pa_nil)))
      (pss_cons (ps_setLc (i := 4) (own := [("_law_k", 11)]) (g := (gName 11)) (tt := tYes) (by rfl) sc_law.nd rfl rfl (sw_true rfl rfl rfl (by decide +kernel)) (pi_range1 (by rfl) T.n_range (pa_cons (pe_call (ok_pull T) (hr.mono (by decide)) (by rfl) T.g_pull T.F_pull.kp T.b_pull .nil pass0 (pa_cons (pv 1) (pa_cons pe_int pa_nil))) pa_nil)) (blkOk_by (own := [("_law_k", 11)]) (N := ["_law_script", "_law_bag", "_law_turn", "_law_root_z", "_law_pairs_z", "_law_handed", "_law_found", "_law_lower", "_law_wrong", "_law_at", "_law_bad", "_law_k", "_law_pair"]) (sc := defScope s_law) (by decide +kernel)) (fun _ _ _ _ _ => (pg_name (i := 11) sc_law.nd rfl (Or.inl rfl))) (fun _ _ _ _ _ => pts_nil) (fun _ _ _ _ _ => (pe_call (ok_of T) (hr.mono (by decide)) (by rfl) T.g_of T.F_of.kp T.b_of .nil pass0 (pa_cons (pv 1) (pa_cons (pe_lst (pa_cons (pe_call (ok_a_length T) (hr.mono (by decide)) (by rfl) T.g_a_length T.F_a_length.kp T.b_a_length .nil pass0 (pa_cons (pv 1) (pa_cons (pv 3) pa_nil))) (pa_cons (pe_call (ok_tiny T) (hr.mono (by decide)) (by rfl) T.g_tiny T.F_tiny.kp T.b_tiny .nil pass0 (pa_cons (pv 1) (pa_cons (pv 3) pa_nil))) pa_nil))) pa_nil)))))
      (pss_cons (ps_set (i := 5) sc_law.nd rfl (Or.inl rfl) (pe_callTy call_list_of (by rfl) T.n_list (by decide +kernel) (pa_cons (pv 4) pa_nil)))
      (pss_cons (ps_set (i := 6) sc_law.nd rfl (Or.inr rfl) (pe_call (ok_first_number T) (hr.mono (by decide)) (by rfl) T.g_first_number T.F_first_number.kp T.b_first_number .nil pass_never (pa_cons (pe_call (ok_of T) (hr.mono (by decide)) (by rfl) T.g_of T.F_of.kp T.b_of .nil pass0 (pa_cons (pv 1) (pa_cons (pe_lst (pa_cons (pv 5) (pa_cons (pe_callTy call_tuple_of (by rfl) T.n_tuple (by decide +kernel) (pa_cons (pv 5) pa_nil)) pa_nil))) pa_nil))) (pa_cons (pv 3) pa_nil))))
      (pss_cons (ps_if (PW.pt (pw_or (pt_not (pt_val (pe_callB call_isi (by rfl) T.n_isinstance (by decide +kernel) (pa_cons (pv 6) (pa_cons (pe_bltn (v := .ty "int") (by rfl) T.n_int (by decide +kernel) rfl) pa_nil))))) (pw_or (pt_cmpR op_lt (pv 6) pe_int (nomark _)) (pw_or1 (pt_cmpR (op_neD hr.units) (pv 5) (pv 4) (nomark _)))))) (pss_one (ps_ret pe_bl)) pss_nil)
      (pss_cons (ps_if (pt_not (pt_val (pe_callB (cr_all rfl) (by rfl) T.n_all (by decide +kernel) (pa_cons (pe_lc (own := [("_law_pair", 12)]) (g := (gName 12)) (tt := tYes) (by rfl) sc_law.nd (pi_list (pv 4)) (blkOk_by (own := [("_law_pair", 12)]) (N := ["_law_script", "_law_bag", "_law_turn", "_law_root_z", "_law_pairs_z", "_law_handed", "_law_found", "_law_lower", "_law_wrong", "_law_at", "_law_bad", "_law_k", "_law_pair"]) (sc := defScope s_law) (by decide +kernel)) (fun _ _ _ _ _ => (pg_name (i := 12) sc_law.nd rfl (Or.inl rfl))) (fun _ _ _ _ _ => pts_nil) (fun _ _ _ _ _ => (pe_cmpR op_ge (pe_callB (cr_minT (K := K) rfl rfl hr.units) (by rfl) T.n_min (by decide +kernel) (pa_cons (pe_call (ok_coordinates T) (hr.mono (by decide)) (by rfl) T.g_coordinates T.F_coordinates.kp T.b_coordinates .nil pass0 (pa_cons (pv 12) (pa_cons (pv 3) (pa_cons (pv 6) pa_nil)))) pa_nil)) pe_int (nomark _)))) pa_nil)))) (pss_one (ps_ret pe_bl)) pss_nil)
      (pss_cons (ps_for PassesOwn.never rfl (pi_range1 (by rfl) T.n_range (pa_cons (pv 6) pa_nil)) (pg_name (i := 7) sc_law.nd rfl (Or.inr rfl)) (pss_one (ps_if (pt_val (pe_callB (cr_all rfl) (by rfl) T.n_all (by decide +kernel) (pa_cons (pe_lc (own := [("_law_pair", 12)]) (g := (gName 12)) (tt := tYes) (by rfl) sc_law.nd (pi_list (pv 4)) (blkOk_by (own := [("_law_pair", 12)]) (N := ["_law_script", "_law_bag", "_law_turn", "_law_root_z", "_law_pairs_z", "_law_handed", "_law_found", "_law_lower", "_law_wrong", "_law_at", "_law_bad", "_law_k", "_law_pair"]) (sc := defScope s_law) (by decide +kernel)) (fun _ _ _ _ _ => (pg_name (i := 12) sc_law.nd rfl (Or.inl rfl))) (fun _ _ _ _ _ => pts_nil) (fun _ _ _ _ _ => (pe_cmpR op_ge (pe_callB (cr_minT (K := K) rfl rfl hr.units) (by rfl) T.n_min (by decide +kernel) (pa_cons (pe_call (ok_coordinates T) (hr.mono (by decide)) (by rfl) T.g_coordinates T.F_coordinates.kp T.b_coordinates .nil pass0 (pa_cons (pv 12) (pa_cons (pv 3) (pa_cons (pv 7) pa_nil)))) pa_nil)) pe_int (nomark _)))) pa_nil))) (pss_one (ps_ret pe_bl)) pss_nil)))
      (pss_cons (ps_par (i := 9) (j := 10) (by rfl) sc_law.nd rfl rfl (by decide) rfl rfl (pa_cons (pe_call (ok_pull T) (hr.mono (by decide)) (by rfl) T.g_pull T.F_pull.kp T.b_pull .nil pass0 (pa_cons (pv 1) (pa_cons (pe_op op_add (pe_callB call_len_seq (by rfl) T.n_len (by decide +kernel) (pa_cons (pv 4) pa_nil)) pe_int) pa_nil))) (pa_cons (pe_call (ok_bad_pair T) (hr.mono (by decide)) (by rfl) T.g_bad_pair T.F_bad_pair.kp T.b_bad_pair .nil pass0 (pa_cons (pv 1) (pa_cons (pv 3) pa_nil))) pa_nil)) (by rfl))
      (pss_cons (ps_set (i := 8) sc_law.nd rfl (Or.inr rfl) (pe_op op_cat (pe_op op_cat (pe_op op_cat (pe_slice sl_list (pv 4) po_none (po_some (pv 9))) (pe_lst (pa_cons (pv 10) pa_nil))) (pe_slice sl_list (pv 4) (po_some (pv 9)) po_none)) (pe_op op_rep (pe_lst (pa_cons (pe_tup (pa_cons pe_int (pa_cons pe_int pa_nil))) pa_nil)) (pe_call (ok_pull T) (hr.mono (by decide)) (by rfl) T.g_pull T.F_pull.kp T.b_pull .nil pass0 (pa_cons (pv 1) (pa_cons pe_int pa_nil))))))
      (pss_one (ps_if (pt_cmpR (op_neD hr.units) (pe_try (k := 12) T (by rfl) TB rfl (hr.mono (by decide)) (LamX.lamS_by (sc := defScope s_law) (by decide +kernel)) rfl (fun _ _ _ _ _ => rfl) (fun A outer s H E f c' hr2 => (pe_call (ok_first_number (w := w) T) (hr2.mono (by decide)) (by rfl) T.g_first_number T.F_first_number.kp T.b_first_number .nil (passes_call (takes_of rfl rfl rfl rfl) (fun _ _ _ _ h => h)) (pa_cons (pv 8) (pa_cons (pv 3) pa_nil))))) (pe_tup (pa_cons pe_str (pa_cons (pv 9) pa_nil))) (nomark _)) (pss_one (ps_ret pe_bl)) pss_nil))))))))))))
      (pss_one (ps_ret (pe_and (pe_cmpR op_eq (pe_call (ok_first_number T) (hr.mono (by decide)) (by rfl) T.g_first_number T.F_first_number.kp T.b_first_number .nil pass_never (pa_cons (pe_lst pa_nil) (pa_cons pe_int pa_nil))) pe_int (nomark _)) (pe_one (pe_cmpR op_eq (pe_kwOnly (ok_first_number T) (hr.mono (by decide)) (by rfl) T.g_first_number T.F_first_number.kp T.kb_first_number_root_pairs pass_never (pk_cons pe_int (pk_cons (pe_lst (pa_cons (pe_tup (pa_cons pe_int (pa_cons pe_int pa_nil))) (pa_cons (pe_tup (pa_cons (pe_un un_neg pe_int) (pa_cons pe_int pa_nil))) pa_nil))) pk_nil))) pe_int (nomark _)))))))), ?_⟩
    refine ⟨_, rfl, a, ns, rfl, hS, hlen, fun b sb H1 nb s1 B1 => ?_⟩
    have tb1 : LamX.Tabs [(P0, qn)] H1 := fun p hp => by
      rw [List.mem_singleton.mp hp]
      exact LamX.TabS.nil (s1 _ _ hP)
    refine ⟨4, rfl, by decide, by decide, for_range (lo := 0) (n := 4) (fun i σ H' => (∃ y2 y3 y4 y5 y6 y7 y8 y9 y10 y11 y12, σ = [some (.ref a), some (.ref b), y2, y3, y4, y5, y6, y7, y8, y9, y10, y11, y12]) ∧ Bag H' b sb ∧ LamX.Tabs [(P0, qn)] H') ⟨⟨none, none, none, none, none, none, none, none, none, none, none, rfl⟩, B1, tb1⟩ ?_ ?_⟩
    · rintro i σ H2 hi ⟨⟨y2, y3, y4, y5, y6, y7, y8, y9, y10, y11, y12, rfl⟩, B2, tb2⟩
      refine ⟨_, rfl, b, sb, rfl, B2, fun d H3 hd B3 k3 => ?_⟩
      have tb3 := tabs_keep tb2 B2 k3
      obtain ⟨r2, r99, v, v0, v1, v2⟩ := id hd
      have hw : isW d v := ⟨v0, v1, v2⟩
      refine ⟨_, rfl, b, sb, 7, rfl, B3, by decide, by decide, fun m0 H4 m1 m2 B4 k4 => ?_⟩
      obtain ⟨m, rfl⟩ := Int.eq_ofNat_of_zero_le m1
      have tb4 := tabs_keep tb3 B3 k4
      have hP4 : H4 P0 ≠ none := by
        obtain ⟨ps, h1, _⟩ := tb4 (P0, qn) (List.mem_singleton.mpr rfl)
        rw [h1]
        intro z
        cases z
      refine ⟨(m : Int), rfl, by omega, by omega, fun D nD => ?_⟩
      have nDP : D ≠ P0 := fun z => hP4 (z ▸ nD)
      refine lc_range (lo := 0) (n := m) (fun j G => ∃ as ps, as.length = j ∧ Lot P0 b sb d D as ps G) ⟨[], [], rfl, B4.new nD, tb4.ext (same_new nD), upd_same, B4.ne nD, ⟨rfl, fun i x p e => by simp at e⟩, (fun p hp => nomatch hp), Nat.zero_le _⟩ ?_ ?_
      · rintro j G hj ⟨as, ps, rfl, S⟩
        refine ⟨rfl, _, rfl, .ref b, rfl, .int d, rfl, b, sb, d, rfl, S.bg, hd, fun x y p G1 hl np h1 B1' k1' => ?_⟩
        refine ⟨.ref b, rfl, .int d, rfl, b, sb, d, rfl, B1', hd, fun x2 y2' p2 G2 hl2 np2 h2 B2' k2' => ⟨by show 2 ≤ sizeLine; decide, fun l nl => ?_⟩⟩
        have e1 := same_new (o := .lst [.ref p, .ref p2]) nl
        refine ⟨b, sb, l, _, rfl, B2'.same e1, upd_same, B2'.ne nl, by simp, by simp, fun k u G3 hu B3' k3' => ?_⟩
        have kk : Keep b G G3 := k1'.trans (k2'.trans ((keep_of e1).trans k3'))
        have S3 := S.keep kk B3'
        obtain ⟨z, q, rfl, hq, hz⟩ : ∃ (z : Addr) (q : Int × Int), u = .ref z ∧ LenL d q.1 q.2 ∧ G3 z = some (.tup [.int q.1, .int q.2]) := by
          match k, hu with
          | 0, hu => cases hu; exact ⟨p, (x, y), rfl, hl.big, tup_keep (B2'.same e1) k3' _ _ (e1 _ _ (tup_keep B1' k2' _ _ h1))⟩
          | 1, hu => cases hu; exact ⟨p2, (x2, y2'), rfl, hl2, tup_keep (B2'.same e1) k3' _ _ (e1 _ _ h2)⟩
          | n + 2, hu => simp at hu
        exact ⟨_, S3.ls, by rw [List.length_map]; exact small1000 (by omega), as ++ [z], ps ++ [q], by simp, S3.more (B4.ne2 nD) nDP (by omega) hz hq⟩
      rintro H5 ⟨as, ps, la, S5⟩
      clear k4 k3 B4 B3 B2 tb4 tb3 tb2 nD nDP hP4 m1 m2
      have lens : ∀ p ∈ ps, 0 < vl p.1 p.2 d := fun p hp => (S5.ok p hp).1
      have lp : ps.length ≤ 6 := by rw [← S5.pt.1]; exact S5.few
      refine ⟨_, rfl, D, _, rfl, .inl (SqL.of S5.ls), fun Ld nLd => ?_⟩
      have eL := same_new (o := .lst (as.map V.ref)) nLd
      have S6 := S5.same eL
      have hLd : upd H5 Ld (.lst (as.map V.ref)) Ld = some (.lst (as.map V.ref)) := upd_same
      have nLb : Ld ≠ b := S5.bg.ne nLd
      generalize upd H5 Ld (.lst (as.map V.ref)) = H6 at S6 hLd ⊢
      clear eL nLd S5
      refine ⟨_, rfl, _, rfl, _, rfl, Ld, _, rfl, .inl ⟨SqL.of hLd, fun tt ntt => ⟨by show 2 ≤ sizeLine; decide, fun l2 nl2 => ?_⟩⟩⟩
      have e1 := same_new (o := .tup (as.map V.ref)) ntt
      have e2 := same_new (o := .lst [.ref Ld, .ref tt]) nl2
      have e12 := e1.trans e2
      have S7 := S6.same e12
      refine ⟨b, sb, l2, _, rfl, S7.bg, upd_same, S6.bg.same e1 |>.ne nl2, by simp, by simp, fun k u H7 hu B7 k7 => ?_⟩
      have S8 := S7.keep k7 B7
      have hLd8 := k7 _ _ nLb (e12 _ _ hLd)
      have htt : H7 tt = some (.tup (as.map V.ref)) := tup_keep S7.bg k7 _ _ (e2 _ _ upd_same)
      have hin : PairsIn K H7 u ps := by
        match k, hu with
        | 0, hu => cases hu; exact ⟨Ld, as, rfl, .inl (SqL.of hLd8), S8.pt⟩
        | 1, hu => cases hu; exact ⟨tt, as, rfl, .inr (SqT.of htt), S8.pt⟩
        | n + 2, hu => simp at hu
      refine ⟨_, rfl, u, d, v, ps, rfl, hin, r2, r99, hw, fun p hp => (S8.ok p hp).2, by omega, fun _ n hN n160 H8 s8 => ?_, fun k z => ?_⟩
      rotate_left
      · obtain ⟨⟨p, hp, no⟩, _⟩ := z
        exact absurd (lens p (List.mem_of_getElem? hp)) no
      have S9 := S8.same s8
      have hLd9 := s8 _ _ hLd8
      clear S8 S7 S6 hLd hLd8 htt hin hu e12 e1 e2 k7 B7 s8 nl2 ntt
      refine ⟨_, rfl, .int (n : Int), .ty "int", _, _, true, rfl, ClsV.ty _, TyX.base (TyOf.int _), kit_ty (by decide +kernel), _, rfl, iteF ?_⟩
      refine ⟨_, rfl, (n : Int), 0, rfl, rfl, _, rfl, ite2 (fun e => absurd (of_decide_eq_true e) (by omega)) (fun _ => ?_)⟩
      obtain ⟨sh, eq⟩ := pairs_can ps
      refine ⟨_, rfl, _, rfl, _, _, .lst (SqL.of hLd9) (Lot.dps S9.pt), .lst (SqL.of S9.ls) (Lot.dps S9.pt), sh, sh, false, (by rw [eq]; rfl), iteF ?_⟩
      clear sh eq hLd9 nLb
      refine ⟨_, rfl, D, rfl, ⟨_, SqL.of S9.ls⟩, fun D2 nD2 => lc_list (K := K) (a := D) (xs := as.map V.ref) (fun j G => Same H8 G ∧ G D2 = some (.lst ((okl d v n (ps.take j)).map V.bl))) ⟨same_new nD2, upd_same⟩ (fun j G _ z => SqL.of (z.1 _ _ S9.ls)) ?_ ?_⟩
      · rintro j x G hx ⟨sG, hD⟩
        obtain ⟨z, p, rfl, _, hp, hz⟩ := S9.pt.at hx
        obtain ⟨_, b1, b2⟩ := S9.ok p (List.mem_of_getElem? hp)
        refine ⟨rfl, _, rfl, _, rfl, _, rfl, .ref z, p.1, p.2, d, v, n, rfl, ⟨z, rfl, SqT.of (sG _ _ hz)⟩, w72 b1, w72 b2, r2, r99, hw, by omega, fun t G1 nt sg ht => ?_⟩
        refine ⟨t, [cN d v p.1 p.2 (n + 1), cN d v p.1 p.2 n], rfl, SqT.of ht, by simp, fun mm hm low => ⟨mm, 0, rfl, rfl, ?_⟩⟩
        dsimp only
        rw [min_ok hm low]
        refine ⟨_, sg _ _ hD, by rw [List.length_map]; unfold okl; rw [List.length_map, List.length_take]; exact small1000 (by omega), fun a' o zz => (upd_ne (ne_of_none zz nD2)).trans (sg _ _ (sG _ _ zz)), ?_⟩
        rw [upd_same, okl_succ hp, List.map_append]
        rfl
      rintro H9 ⟨s9, hD⟩
      refine ⟨D2, okl d v n ps, rfl, SqL.of (by rw [hD, List.take_of_length_le (by rw [List.length_map, S9.pt.1]; exact Nat.le_refl _)]), ?_⟩
      rw [okl_all hN.1]
      refine ⟨true, rfl, iteF ?_⟩
      have S10 := S9.same s9
      clear S9 s9 hD nD2
      refine ⟨_, rfl, (n : Int), rfl, by omega, by omega, for_range (lo := 0) (n := n) (fun k σ G => ∃ y7, σ = [some (.ref a), some (.ref b), some (.int (0 + (i : Int))), some (.int d), some (.ref D), some (.ref Ld), some (.int (n : Int)), y7, y8, y9, y10, y11, y12] ∧ Lot P0 b sb d D as ps G) ⟨_, rfl, S10⟩ ?_ ?_⟩
      · rintro k σ G hk ⟨y7', rfl, S⟩
        refine ⟨_, rfl, D, rfl, ⟨_, SqL.of S.ls⟩, fun D3 nD3 => lc_list (K := K) (a := D) (xs := as.map V.ref) (fun j G' => Same G G' ∧ G' D3 = some (.lst ((okl d v k (ps.take j)).map V.bl))) ⟨same_new nD3, upd_same⟩ (fun j G' _ z => SqL.of (z.1 _ _ S.ls)) ?_ ?_⟩
        · rintro j x G' hx ⟨sG, hD⟩
          obtain ⟨z, p, rfl, _, hp, hz⟩ := S.pt.at hx
          obtain ⟨_, b1, b2⟩ := S.ok p (List.mem_of_getElem? hp)
          refine ⟨rfl, _, rfl, _, rfl, _, rfl, .ref z, p.1, p.2, d, v, k, by rw [Int.zero_add]; rfl, ⟨z, rfl, SqT.of (sG _ _ hz)⟩, w72 b1, w72 b2, r2, r99, hw, by omega, fun t G1 nt sg ht => ?_⟩
          refine ⟨t, [cN d v p.1 p.2 (k + 1), cN d v p.1 p.2 k], rfl, SqT.of ht, by simp, fun mm hm low => ⟨mm, 0, rfl, rfl, ?_⟩⟩
          dsimp only
          rw [min_ok hm low]
          refine ⟨_, sg _ _ hD, by rw [List.length_map]; unfold okl; rw [List.length_map, List.length_take]; exact small1000 (by omega), fun a' o zz => (upd_ne (ne_of_none zz nD3)).trans (sg _ _ (sG _ _ zz)), ?_⟩
          rw [upd_same, okl_succ hp, List.map_append]
          rfl
        rintro G2 ⟨s2, hD⟩
        refine ⟨D3, okl d v k ps, rfl, SqL.of (by rw [hD, List.take_of_length_le (by rw [List.length_map, S.pt.1]; exact Nat.le_refl _)]), ?_⟩
        rw [okl_no (hN.2 k hk)]
        exact ⟨false, rfl, iteF ⟨_, rfl, S.same s2⟩⟩
      rintro σ G ⟨y7', rfl, S⟩
      clear S10
      refine ⟨.ref b, rfl, _, rfl, D, _, rfl, .inl (SqL.of S.ls), _, 1, rfl, rfl, b, sb, _, rfl, S.bg, by omega, Nat.lt_of_le_of_lt (show _ ≤ 10 by rw [List.length_map]; have := S.few; omega) (by decide), fun c0 G1 c1 c2 B1' k1' => ?_⟩
      obtain ⟨n1, rfl⟩ := Int.eq_ofNat_of_zero_le c1
      refine ⟨.ref b, rfl, .int d, rfl, b, sb, d, rfl, B1', hd, fun x y po G2 hno hpo B2' k2' => ?_⟩
      have S2 := S.keep (k1'.trans k2') B2'
      rw [List.length_map] at c2
      have hn1 : n1 ≤ as.length := by omega
      clear S k1' k2' B1' B2' c1
      have hc1 : cutV (as.map V.ref) none (some (n1 : Int)) = (as.take n1).map V.ref := by rw [cut_to (by rw [List.length_map]; exact hn1), List.map_take]
      have hc2 : cutV (as.map V.ref) (some (n1 : Int)) none = (as.drop n1).map V.ref := by rw [cut_from (by rw [List.length_map]; exact hn1), List.map_drop]
      have l6 := S2.few
      refine ⟨_, _, rfl, _, rfl, _, rfl, (n1 : Int), rfl, D, _, rfl, SqL.of S2.ls, fun p1 m1 => ?_⟩
      rw [hc1]
      have e1 := same_new (o := .lst ((as.take n1).map V.ref)) m1
      refine ⟨_, rfl, by show 1 ≤ sizeLine; decide, fun p2 m2 => ?_⟩
      have e2 := same_new (o := .lst [.ref po]) m2
      refine ⟨p1, p2, _, _, rfl, rfl, e2 _ _ upd_same, upd_same, Nat.le_of_lt (small1000 (by rw [List.length_map, List.length_take]; show _ + 1 ≤ 1000; omega)), fun p3 m3 => ?_⟩
      have e3 := same_new (o := .lst ((as.take n1).map V.ref ++ [.ref po])) m3
      have e13 := e1.trans (e2.trans e3)
      have S3 := S2.same e13
      refine ⟨_, rfl, _, rfl, (n1 : Int), rfl, D, _, rfl, SqL.of S3.ls, fun p4 m4 => ?_⟩
      rw [hc2]
      have e4 := same_new (o := .lst ((as.drop n1).map V.ref)) m4
      refine ⟨p3, p4, _, _, rfl, rfl, e4 _ _ upd_same, upd_same, Nat.le_of_lt (small1000 (by simp; omega)), fun p5 m5 => ?_⟩
      have e5 := same_new (o := .lst (((as.take n1).map V.ref ++ [.ref po]) ++ (as.drop n1).map V.ref)) m5
      have e45 := e4.trans e5
      have np5 : p5 ≠ b := (S3.same e4).bg.ne m5
      have S5 := S3.same e45
      have hpo5 := e45 _ _ (e13 _ _ hpo)
      have hp5 := upd_same (H := upd (upd (upd (upd G2 p1 (.lst ((as.take n1).map V.ref))) p2 (.lst [.ref po])) p3 (.lst ((as.take n1).map V.ref ++ [.ref po]))) p4 (.lst ((as.drop n1).map V.ref))) (a := p5) (o := .lst (((as.take n1).map V.ref ++ [.ref po]) ++ (as.drop n1).map V.ref))
      generalize upd (upd (upd (upd (upd G2 p1 (.lst ((as.take n1).map V.ref))) p2 (.lst [.ref po])) p3 (.lst ((as.take n1).map V.ref ++ [.ref po]))) p4 (.lst ((as.drop n1).map V.ref))) p5 (.lst (((as.take n1).map V.ref ++ [.ref po]) ++ (as.drop n1).map V.ref)) = G5 at S5 hpo5 hp5 ⊢
      clear e45 e13 e5 e4 e3 e2 e1 S3 S2 m1 m2 m3 m4 m5 hc1 hc2 hpo
      refine ⟨by show 2 ≤ sizeLine; decide, fun q1 m6 => ⟨by show 1 ≤ sizeLine; decide, fun q2 m7 => ?_⟩⟩
      have e6 := same_new (o := .tup [.int 0, .int 0]) m6
      have e7 := same_new (o := .lst [.ref q1]) m7
      have e67 := e6.trans e7
      have nq2 : q2 ≠ b := (S5.same e6).bg.ne m7
      have S7 := S5.same e67
      refine ⟨_, rfl, b, sb, 2, rfl, S7.bg, by decide, by decide, fun kq Hk k0 k1 Bk kk => ?_⟩
      obtain ⟨kn, rfl⟩ := Int.eq_ofNat_of_zero_le k0
      have hq2 := kk _ _ nq2 (upd_same (H := upd G5 q1 (.tup [.int 0, .int 0])) (a := q2) (o := .lst [.ref q1]))
      have hq1 := tup_keep S7.bg kk _ _ (e7 _ _ (upd_same (a := q1) (o := .tup [.int 0, .int 0])))
      have hp5k := kk _ _ np5 (e67 _ _ hp5)
      have hpok := tup_keep S7.bg kk _ _ (e67 _ _ hpo5)
      have Sk := S7.keep kk Bk
      clear S7 S5 kk e67 e7 e6 hp5 hpo5 m6 m7 Bk
      refine ⟨q2, (kn : Int), _, rfl, rfl, hq2, by omega, by omega, Nat.le_of_lt (small1000 (by show 1 * kn ≤ 1000; omega)), fun q3 m8 => ?_⟩
      rw [flat_one, show Int.toNat (kn : Int) = kn from rfl]
      have e8 := same_new (o := .lst (List.replicate kn (V.ref q1))) m8
      refine ⟨p5, q3, _, _, rfl, rfl, e8 _ _ hp5k, upd_same, Nat.le_of_lt (small1000 (by simp; omega)), fun lw nlw => ?_⟩
      have e9 := same_new (o := .lst ((((as.take n1).map V.ref ++ [.ref po]) ++ (as.drop n1).map V.ref) ++ List.replicate kn (V.ref q1))) nlw
      have e89 := e8.trans e9
      have S9 := Sk.same e89
      have nlb : lw ≠ b := (Sk.same e8).bg.ne nlw
      have hlw : upd (upd Hk q3 (.lst (List.replicate kn (V.ref q1)))) lw (.lst ((((as.take n1).map V.ref ++ [.ref po]) ++ (as.drop n1).map V.ref) ++ List.replicate kn (V.ref q1))) lw = some (.lst ((as.take n1 ++ (po :: (as.drop n1 ++ List.replicate kn q1))).map V.ref)) := by
        rw [upd_same]
        simp [List.map_append, List.map_replicate]
      have hpt : PsAt (upd (upd Hk q3 (.lst (List.replicate kn (V.ref q1)))) lw (.lst ((((as.take n1).map V.ref ++ [.ref po]) ++ (as.drop n1).map V.ref) ++ List.replicate kn (V.ref q1)))) (as.take n1 ++ (po :: (as.drop n1 ++ List.replicate kn q1))) (ps.take n1 ++ ((x, y) :: (ps.drop n1 ++ List.replicate kn (0, 0)))) :=
        (S9.pt.cut n1).1.app (.one (e89 _ _ hpok) ((S9.pt.cut n1).2.app (.rep (e89 _ _ hq1) kn)))
      generalize upd (upd Hk q3 (.lst (List.replicate kn (V.ref q1)))) lw (.lst ((((as.take n1).map V.ref ++ [.ref po]) ++ (as.drop n1).map V.ref) ++ List.replicate kn (V.ref q1))) = G9 at S9 hlw hpt ⊢
      clear e89 e9 e8 Sk nlw m8 hpok hp5k hq1 hq2
      have bad : BadAt d (ps.take n1 ++ ((x, y) :: (ps.drop n1 ++ List.replicate kn (0, 0)))) n1 := bad_in lens (by rw [← S9.pt.1]; exact hn1) (by have := hno.1; omega)
      have big : ∀ p ∈ ps.take n1 ++ ((x, y) :: (ps.drop n1 ++ List.replicate kn (0, 0))), p.1.natAbs < 2 ^ 72 ∧ p.2.natAbs < 2 ^ 72 := fun p hp => by
        rcases List.mem_append.mp hp with hp | hp
        · exact (S9.ok p (List.mem_of_mem_take hp)).2
        · rcases List.mem_cons.mp hp with rfl | hp
          · exact ⟨Nat.lt_of_le_of_lt hno.2.1 (by decide), Nat.lt_of_le_of_lt hno.2.2 (by decide)⟩
          · rcases List.mem_append.mp hp with hp | hp
            · exact (S9.ok p (List.mem_of_mem_drop hp)).2
            · rw [(List.mem_replicate.mp hp).2]
              exact ⟨by decide, by decide⟩
      have few : (ps.take n1 ++ ((x, y) :: (ps.drop n1 ++ List.replicate kn (0, 0)))).length ≤ 1000 := by simp; omega
      generalize ps.take n1 ++ ((x, y) :: (ps.drop n1 ++ List.replicate kn (0, 0))) = fs at bad big few hpt
      generalize as.take n1 ++ (po :: (as.drop n1 ++ List.replicate kn q1)) = bs at hlw hpt
      refine ⟨S9.tb, fun Ha ea tba => ⟨_, rfl, _, rfl, .ref lw, d, v, fs, rfl, ⟨lw, bs, rfl, .inl (SqL.of (lst_extN hlw ea)), ⟨hpt.1, fun i x p e1 e2 => tup_extN (hpt.2 i x p e1 e2) ea⟩⟩, r2, r99, hw, big, few, fun good => ?_, fun k z => ?_⟩⟩
      · obtain ⟨⟨p, hp, no⟩, _⟩ := bad
        exact absurd (good p (List.mem_of_getElem? hp)) no
      obtain rfl := bad_one bad z
      refine told_len T fun Hb pb sb1 hpb => ?_
      have Sb := (S9.ext ea tba).same sb1
      refine ⟨_, rfl, by show 2 ≤ sizeLine; decide, fun u nu => ?_⟩
      have cu := same_new (o := .tup [.str "BadLength", .int (n1 : Int)]) nu
      refine ⟨_, _, dlen (cu _ _ hpb), dlen upd_same, slen _, slen _, false, by rw [elen]; rfl, iteF ?_⟩
      exact ⟨⟨_, _, _, _, _, _, _, _, _, _, _, rfl⟩, Sb.bg.same cu, Sb.tb.ext cu⟩
    · rintro σ G ⟨⟨y2, y3, y4, y5, y6, y7, y8, y9, y10, y11, y12, rfl⟩, BG, tbG⟩
      have w2 : isW 2 1 := ⟨by decide, by decide, by decide⟩
      refine ⟨by show 0 ≤ sizeLine; decide, fun l nl => ⟨.ref l, 2, 1, [], rfl, ⟨l, [], rfl, .inl (SqL.of upd_same), rfl, fun i x p e => by simp at e⟩, by decide, by decide, w2, (fun p hp => nomatch hp), by decide, fun _ n hN n160 H3 s3 => ?_, fun k z => ?_⟩⟩
      rotate_left
      · obtain ⟨⟨p, hp, _⟩, _⟩ := z
        simp at hp
      obtain rfl : n = 0 := by
        rcases Nat.eq_zero_or_pos n with z | z
        · exact z
        · obtain ⟨p, hp, _⟩ := hN.2 0 z
          cases hp
      refine ⟨rfl, true, rfl, iteT ⟨by show 2 ≤ sizeLine; decide, fun t1 n1 => ⟨7, rfl, by show 2 ≤ sizeLine; decide, fun t2 n2 => ⟨by show 2 ≤ sizeLine; decide, fun l2 nl2 => ?_⟩⟩⟩⟩
      have c1 := same_new (o := .tup [.int 1, .int 0]) n1
      have c2 := same_new (o := .tup [.int (-7), .int 5]) n2
      have c3 := same_new (o := .lst [.ref t1, .ref t2]) nl2
      have pl : ∀ p ∈ [((1 : Int), (0 : Int)), (-7, 5)], 0 < vl p.1 p.2 2 ∧ p.1.natAbs < 2 ^ 72 ∧ p.2.natAbs < 2 ^ 72 := fun p hp => by
        have hp : p = (1, 0) ∨ p = (-7, 5) := by simpa using hp
        rcases hp with rfl | rfl
        · exact ⟨by decide, by decide, by decide⟩
        · exact ⟨by decide, by decide, by decide⟩
      refine ⟨rfl, .ref l2, 2, 1, [(1, 0), (-7, 5)], rfl, ⟨l2, [t1, t2], rfl, .inl (SqL.of upd_same), rfl, fun i x p e1 e2 => ?_⟩, by decide, by decide, w2, fun p hp => (pl p hp).2, by decide, fun _ n hN n160 H4 s4 => ?_, fun k z => ?_⟩
      · match i, e1, e2 with
        | 0, e1, e2 => cases e1; cases e2; exact (c2.trans c3) _ _ upd_same
        | 1, e1, e2 => cases e1; cases e2; exact c3 _ _ upd_same
        | k + 2, e1, e2 => simp at e1
      · obtain rfl : n = 1 := by
          have n0 : n ≠ 0 := fun z => by
            subst z
            exact absurd (hN.1 (-7, 5) (by simp)).1 (by decide)
          rcases Nat.lt_or_ge 1 n with z | z
          · obtain ⟨p, hp, no⟩ := hN.2 1 z
            have hp : p = (1, 0) ∨ p = (-7, 5) := by simpa using hp
            rcases hp with rfl | rfl
            · exact absurd ⟨by decide, by decide⟩ no
            · exact absurd ⟨by decide, by decide⟩ no
          · omega
        exact ⟨rfl, q _⟩
      · obtain ⟨⟨p, hp, no⟩, _⟩ := z
        exact absurd (pl p (List.mem_of_getElem? hp)).1 no
end
theorem all_mk {w : World} {K : PySem.W.Frag} {h : Heap} {mg : Str → Option Value} {fa : Addr} (X : K.In h) (G : h.Ns mainGlobals mg) (hfa : mg "law" = some (.ref fa)) {l : PySem.W.OpenLaw} (hprog : l.prog = PySem.Challenge.pw_grainyard_k10_whole_first_numbers) {cL PL : Addr}
    {od0 an0 : Option Addr} {sl0 : Array (Option Value)} {kV0 oc0 dc0 pm0 cd0 ct0 : Value} {f0 : Addr}
    (a0 : PySem.W.nsIn K mainGlobals "whole_root" = some (some (.ref f0))) (l0 : K.lookup f0 = some ⟨oc0, od0, .func (PySem.W.fnOf "whole_root" "whole_root" (defArgs s_whole_root) (defBody s_whole_root) (defScope s_whole_root) .none kV0 dc0 pm0 an0 cd0 ct0), sl0⟩) (c0 : PySem.W.codeIn K cd0 "whole_root" = true) (k0 : PySem.W.keepIn K (.ref f0) = true)
    {od1 an1 : Option Addr} {sl1 : Array (Option Value)} {kV1 oc1 dc1 pm1 cd1 ct1 : Value} {f1 : Addr}
    (a1 : PySem.W.nsIn K mainGlobals "sign" = some (some (.ref f1))) (l1 : K.lookup f1 = some ⟨oc1, od1, .func (PySem.W.fnOf "sign" "sign" (defArgs s_sign) (defBody s_sign) (defScope s_sign) .none kV1 dc1 pm1 an1 cd1 ct1), sl1⟩) (c1 : PySem.W.codeIn K cd1 "sign" = true) (k1 : PySem.W.keepIn K (.ref f1) = true)
    {od2 an2 : Option Addr} {sl2 : Array (Option Value)} {kV2 oc2 dc2 pm2 cd2 ct2 : Value} {f2 : Addr}
    (a2 : PySem.W.nsIn K mainGlobals "is_length" = some (some (.ref f2))) (l2 : K.lookup f2 = some ⟨oc2, od2, .func (PySem.W.fnOf "is_length" "is_length" (defArgs s_is_length) (defBody s_is_length) (defScope s_is_length) .none kV2 dc2 pm2 an2 cd2 ct2), sl2⟩) (c2 : PySem.W.codeIn K cd2 "is_length" = true) (k2 : PySem.W.keepIn K (.ref f2) = true)
    {od3 an3 : Option Addr} {sl3 : Array (Option Value)} {kV3 oc3 dc3 pm3 cd3 ct3 : Value} {f3 : Addr}
    (a3 : PySem.W.nsIn K mainGlobals "added" = some (some (.ref f3))) (l3 : K.lookup f3 = some ⟨oc3, od3, .func (PySem.W.fnOf "added" "added" (defArgs s_added) (defBody s_added) (defScope s_added) .none kV3 dc3 pm3 an3 cd3 ct3), sl3⟩) (c3 : PySem.W.codeIn K cd3 "added" = true) (k3 : PySem.W.keepIn K (.ref f3) = true)
    {od4 an4 : Option Addr} {sl4 : Array (Option Value)} {kV4 oc4 dc4 pm4 cd4 ct4 : Value} {f4 : Addr}
    (a4 : PySem.W.nsIn K mainGlobals "scaled" = some (some (.ref f4))) (l4 : K.lookup f4 = some ⟨oc4, od4, .func (PySem.W.fnOf "scaled" "scaled" (defArgs s_scaled) (defBody s_scaled) (defScope s_scaled) .none kV4 dc4 pm4 an4 cd4 ct4), sl4⟩) (c4 : PySem.W.codeIn K cd4 "scaled" = true) (k4 : PySem.W.keepIn K (.ref f4) = true)
    {od5 an5 : Option Addr} {sl5 : Array (Option Value)} {kV5 oc5 dc5 pm5 cd5 ct5 : Value} {f5 : Addr}
    (a5 : PySem.W.nsIn K mainGlobals "floor_of" = some (some (.ref f5))) (l5 : K.lookup f5 = some ⟨oc5, od5, .func (PySem.W.fnOf "floor_of" "floor_of" (defArgs s_floor_of) (defBody s_floor_of) (defScope s_floor_of) .none kV5 dc5 pm5 an5 cd5 ct5), sl5⟩) (c5 : PySem.W.codeIn K cd5 "floor_of" = true) (k5 : PySem.W.keepIn K (.ref f5) = true)
    {od6 an6 : Option Addr} {sl6 : Array (Option Value)} {kV6 oc6 dc6 pm6 cd6 ct6 : Value} {f6 : Addr}
    (a6 : PySem.W.nsIn K mainGlobals "endless_fractions" = some (some (.ref f6))) (l6 : K.lookup f6 = some ⟨oc6, od6, .func (PySem.W.fnOf "endless_fractions" "endless_fractions" (defArgs s_endless_fractions) (defBody s_endless_fractions) (defScope s_endless_fractions) .none kV6 dc6 pm6 an6 cd6 ct6), sl6⟩) (c6 : PySem.W.codeIn K cd6 "endless_fractions" = true) (k6 : PySem.W.keepIn K (.ref f6) = true)
    {od7 an7 : Option Addr} {sl7 : Array (Option Value)} {kV7 oc7 dc7 pm7 cd7 ct7 : Value} {f7 : Addr}
    (a7 : PySem.W.nsIn K mainGlobals "number_of_length" = some (some (.ref f7))) (l7 : K.lookup f7 = some ⟨oc7, od7, .func (PySem.W.fnOf "number_of_length" "number_of_length" (defArgs s_number_of_length) (defBody s_number_of_length) (defScope s_number_of_length) .none kV7 dc7 pm7 an7 cd7 ct7), sl7⟩) (c7 : PySem.W.codeIn K cd7 "number_of_length" = true) (k7 : PySem.W.keepIn K (.ref f7) = true)
    {od8 an8 : Option Addr} {sl8 : Array (Option Value)} {kV8 oc8 dc8 pm8 cd8 ct8 : Value} {f8 : Addr}
    (a8 : PySem.W.nsIn K mainGlobals "first_number" = some (some (.ref f8))) (l8 : K.lookup f8 = some ⟨oc8, od8, .func (PySem.W.fnOf "first_number" "first_number" (defArgs s_first_number) (defBody s_first_number) (defScope s_first_number) .none kV8 dc8 pm8 an8 cd8 ct8), sl8⟩) (c8 : PySem.W.codeIn K cd8 "first_number" = true) (k8 : PySem.W.keepIn K (.ref f8) = true)
    {od9 an9 : Option Addr} {sl9 : Array (Option Value)} {kV9 oc9 dc9 pm9 cd9 ct9 : Value} {f9 : Addr}
    (a9 : PySem.W.nsIn K mainGlobals "_law_source" = some (some (.ref f9))) (l9 : K.lookup f9 = some ⟨oc9, od9, .func (PySem.W.fnOf "_law_source" "_law_source" (defArgs s_source) (defBody s_source) (defScope s_source) .none kV9 dc9 pm9 an9 cd9 ct9), sl9⟩) (c9 : PySem.W.codeIn K cd9 "_law_source" = true) (k9 : PySem.W.keepIn K (.ref f9) = true)
    {od10 an10 : Option Addr} {sl10 : Array (Option Value)} {kV10 oc10 dc10 pm10 cd10 ct10 : Value} {f10 : Addr}
    (a10 : PySem.W.nsIn K mainGlobals "_law_pull" = some (some (.ref f10))) (l10 : K.lookup f10 = some ⟨oc10, od10, .func (PySem.W.fnOf "_law_pull" "_law_pull" (defArgs s_pull) (defBody s_pull) (defScope s_pull) .none kV10 dc10 pm10 an10 cd10 ct10), sl10⟩) (c10 : PySem.W.codeIn K cd10 "_law_pull" = true) (k10 : PySem.W.keepIn K (.ref f10) = true)
    {od11 an11 : Option Addr} {sl11 : Array (Option Value)} {kV11 oc11 dc11 pm11 cd11 ct11 : Value} {f11 : Addr}
    (a11 : PySem.W.nsIn K mainGlobals "_law_of" = some (some (.ref f11))) (l11 : K.lookup f11 = some ⟨oc11, od11, .func (PySem.W.fnOf "_law_of" "_law_of" (defArgs s_of) (defBody s_of) (defScope s_of) .none kV11 dc11 pm11 an11 cd11 ct11), sl11⟩) (c11 : PySem.W.codeIn K cd11 "_law_of" = true) (k11 : PySem.W.keepIn K (.ref f11) = true)
    {od12 an12 : Option Addr} {sl12 : Array (Option Value)} {kV12 oc12 dc12 pm12 cd12 ct12 : Value} {f12 : Addr}
    (a12 : PySem.W.nsIn K mainGlobals "_law_roots" = some (some (.ref f12))) (l12 : K.lookup f12 = some ⟨oc12, od12, .func (PySem.W.fnOf "_law_roots" "_law_roots" (defArgs s_roots) (defBody s_roots) (defScope s_roots) .none kV12 dc12 pm12 an12 cd12 ct12), sl12⟩) (c12 : PySem.W.codeIn K cd12 "_law_roots" = true) (k12 : PySem.W.keepIn K (.ref f12) = true)
    {od13 an13 : Option Addr} {sl13 : Array (Option Value)} {kV13 oc13 dc13 pm13 cd13 ct13 : Value} {f13 : Addr}
    (a13 : PySem.W.nsIn K mainGlobals "_law_a_root" = some (some (.ref f13))) (l13 : K.lookup f13 = some ⟨oc13, od13, .func (PySem.W.fnOf "_law_a_root" "_law_a_root" (defArgs s_a_root) (defBody s_a_root) (defScope s_a_root) .none kV13 dc13 pm13 an13 cd13 ct13), sl13⟩) (c13 : PySem.W.codeIn K cd13 "_law_a_root" = true) (k13 : PySem.W.keepIn K (.ref f13) = true)
    {od14 an14 : Option Addr} {sl14 : Array (Option Value)} {kV14 oc14 dc14 pm14 cd14 ct14 : Value} {f14 : Addr}
    (a14 : PySem.W.nsIn K mainGlobals "_law_any_pair" = some (some (.ref f14))) (l14 : K.lookup f14 = some ⟨oc14, od14, .func (PySem.W.fnOf "_law_any_pair" "_law_any_pair" (defArgs s_any_pair) (defBody s_any_pair) (defScope s_any_pair) .none kV14 dc14 pm14 an14 cd14 ct14), sl14⟩) (c14 : PySem.W.codeIn K cd14 "_law_any_pair" = true) (k14 : PySem.W.keepIn K (.ref f14) = true)
    {od15 an15 : Option Addr} {sl15 : Array (Option Value)} {kV15 oc15 dc15 pm15 cd15 ct15 : Value} {f15 : Addr}
    (a15 : PySem.W.nsIn K mainGlobals "_law_sign" = some (some (.ref f15))) (l15 : K.lookup f15 = some ⟨oc15, od15, .func (PySem.W.fnOf "_law_sign" "_law_sign" (defArgs s_lsign) (defBody s_lsign) (defScope s_lsign) .none kV15 dc15 pm15 an15 cd15 ct15), sl15⟩) (c15 : PySem.W.codeIn K cd15 "_law_sign" = true) (k15 : PySem.W.keepIn K (.ref f15) = true)
    {od16 an16 : Option Addr} {sl16 : Array (Option Value)} {kV16 oc16 dc16 pm16 cd16 ct16 : Value} {f16 : Addr}
    (a16 : PySem.W.nsIn K mainGlobals "_law_a_length" = some (some (.ref f16))) (l16 : K.lookup f16 = some ⟨oc16, od16, .func (PySem.W.fnOf "_law_a_length" "_law_a_length" (defArgs s_a_length) (defBody s_a_length) (defScope s_a_length) .none kV16 dc16 pm16 an16 cd16 ct16), sl16⟩) (c16 : PySem.W.codeIn K cd16 "_law_a_length" = true) (k16 : PySem.W.keepIn K (.ref f16) = true)
    {od17 an17 : Option Addr} {sl17 : Array (Option Value)} {kV17 oc17 dc17 pm17 cd17 ct17 : Value} {f17 : Addr}
    (a17 : PySem.W.nsIn K mainGlobals "_law_scaled" = some (some (.ref f17))) (l17 : K.lookup f17 = some ⟨oc17, od17, .func (PySem.W.fnOf "_law_scaled" "_law_scaled" (defArgs s_lscaled) (defBody s_lscaled) (defScope s_lscaled) .none kV17 dc17 pm17 an17 cd17 ct17), sl17⟩) (c17 : PySem.W.codeIn K cd17 "_law_scaled" = true) (k17 : PySem.W.keepIn K (.ref f17) = true)
    {od18 an18 : Option Addr} {sl18 : Array (Option Value)} {kV18 oc18 dc18 pm18 cd18 ct18 : Value} {f18 : Addr}
    (a18 : PySem.W.nsIn K mainGlobals "_law_fractions" = some (some (.ref f18))) (l18 : K.lookup f18 = some ⟨oc18, od18, .func (PySem.W.fnOf "_law_fractions" "_law_fractions" (defArgs s_lfractions) (defBody s_lfractions) (defScope s_lfractions) .none kV18 dc18 pm18 an18 cd18 ct18), sl18⟩) (c18 : PySem.W.codeIn K cd18 "_law_fractions" = true) (k18 : PySem.W.keepIn K (.ref f18) = true)
    {od19 an19 : Option Addr} {sl19 : Array (Option Value)} {kV19 oc19 dc19 pm19 cd19 ct19 : Value} {f19 : Addr}
    (a19 : PySem.W.nsIn K mainGlobals "_law_tile_pair" = some (some (.ref f19))) (l19 : K.lookup f19 = some ⟨oc19, od19, .func (PySem.W.fnOf "_law_tile_pair" "_law_tile_pair" (defArgs s_tile_pair) (defBody s_tile_pair) (defScope s_tile_pair) .none kV19 dc19 pm19 an19 cd19 ct19), sl19⟩) (c19 : PySem.W.codeIn K cd19 "_law_tile_pair" = true) (k19 : PySem.W.keepIn K (.ref f19) = true)
    {od20 an20 : Option Addr} {sl20 : Array (Option Value)} {kV20 oc20 dc20 pm20 cd20 ct20 : Value} {f20 : Addr}
    (a20 : PySem.W.nsIn K mainGlobals "_law_tiny" = some (some (.ref f20))) (l20 : K.lookup f20 = some ⟨oc20, od20, .func (PySem.W.fnOf "_law_tiny" "_law_tiny" (defArgs s_tiny) (defBody s_tiny) (defScope s_tiny) .none kV20 dc20 pm20 an20 cd20 ct20), sl20⟩) (c20 : PySem.W.codeIn K cd20 "_law_tiny" = true) (k20 : PySem.W.keepIn K (.ref f20) = true)
    {od21 an21 : Option Addr} {sl21 : Array (Option Value)} {kV21 oc21 dc21 pm21 cd21 ct21 : Value} {f21 : Addr}
    (a21 : PySem.W.nsIn K mainGlobals "_law_coordinates" = some (some (.ref f21))) (l21 : K.lookup f21 = some ⟨oc21, od21, .func (PySem.W.fnOf "_law_coordinates" "_law_coordinates" (defArgs s_coordinates) (defBody s_coordinates) (defScope s_coordinates) .none kV21 dc21 pm21 an21 cd21 ct21), sl21⟩) (c21 : PySem.W.codeIn K cd21 "_law_coordinates" = true) (k21 : PySem.W.keepIn K (.ref f21) = true)
    {od22 an22 : Option Addr} {sl22 : Array (Option Value)} {kV22 oc22 dc22 pm22 cd22 ct22 : Value} {f22 : Addr}
    (a22 : PySem.W.nsIn K mainGlobals "_law_bad_pair" = some (some (.ref f22))) (l22 : K.lookup f22 = some ⟨oc22, od22, .func (PySem.W.fnOf "_law_bad_pair" "_law_bad_pair" (defArgs s_bad_pair) (defBody s_bad_pair) (defScope s_bad_pair) .none kV22 dc22 pm22 an22 cd22 ct22), sl22⟩) (c22 : PySem.W.codeIn K cd22 "_law_bad_pair" = true) (k22 : PySem.W.keepIn K (.ref f22) = true)
    {od23 an23 : Option Addr} {sl23 : Array (Option Value)} {kV23 oc23 dc23 pm23 cd23 ct23 : Value} {f23 : Addr}
    (a23 : PySem.W.nsIn K mainGlobals "_law_field_of" = some (some (.ref f23))) (l23 : K.lookup f23 = some ⟨oc23, od23, .func (PySem.W.fnOf "_law_field_of" "_law_field_of" (defArgs s_field_of) (defBody s_field_of) (defScope s_field_of) .none kV23 dc23 pm23 an23 cd23 ct23), sl23⟩) (c23 : PySem.W.codeIn K cd23 "_law_field_of" = true) (k23 : PySem.W.keepIn K (.ref f23) = true)
    {od24 an24 : Option Addr} {sl24 : Array (Option Value)} {kV24 oc24 dc24 pm24 cd24 ct24 : Value} {f24 : Addr}
    (a24 : PySem.W.nsIn K mainGlobals "_law_try" = some (some (.ref f24))) (l24 : K.lookup f24 = some ⟨oc24, od24, .func (PySem.W.fnOf "_law_try" "_law_try" (defArgs s_try) (defBody s_try) (defScope s_try) .none kV24 dc24 pm24 an24 cd24 ct24), sl24⟩) (c24 : PySem.W.codeIn K cd24 "_law_try" = true) (k24 : PySem.W.keepIn K (.ref f24) = true)
    {od25 an25 : Option Addr} {sl25 : Array (Option Value)} {kV25 oc25 dc25 pm25 ct25 : Value} {f25 : Addr}
    (a25 : PySem.W.nsIn K mainGlobals "law" = some (some (.ref f25))) (l25 : K.lookup f25 = some ⟨oc25, od25, .func (PySem.W.fnOf "law" "law" (defArgs s_law) (defBody s_law) (defScope s_law) .none kV25 dc25 pm25 an25 (.ref cL) ct25), sl25⟩) (c25 : PySem.W.codeIn K (.ref cL) "law" = true) (k25 : PySem.W.keepIn K (.ref f25) = true)
    (z0 : PySem.W.nsIn K mainGlobals "ValueError" = some none)
    (z1 : PySem.W.nsIn K mainGlobals "LookupError" = some none)
    (z2 : PySem.W.nsIn K mainGlobals "IndexError" = some none)
    (z3 : PySem.W.nsIn K mainGlobals "enumerate" = some none)
    (z4 : PySem.W.nsIn K mainGlobals "max" = some none)
    (z5 : PySem.W.nsIn K mainGlobals "range" = some none)
    (z6 : PySem.W.nsIn K mainGlobals "sum" = some none)
    (z7 : PySem.W.nsIn K mainGlobals "list" = some none)
    (z8 : PySem.W.nsIn K mainGlobals "int" = some none)
    (z9 : PySem.W.nsIn K mainGlobals "abs" = some none)
    (z10 : PySem.W.nsIn K mainGlobals "len" = some none)
    (z11 : PySem.W.nsIn K mainGlobals "all" = some none)
    (z12 : PySem.W.nsIn K mainGlobals "isinstance" = some none)
    (z13 : PySem.W.nsIn K mainGlobals "tuple" = some none)
    (z14 : PySem.W.nsIn K mainGlobals "min" = some none)
    (hn : PySem.W.specialIn K (.builtin "object.__class__") "__get__" = some (some (.builtin "getset_descriptor.__get__"))) (ht : PySem.W.takesIn K (.builtin "object.__class__") = some true)
    {CGrainError : Addr} {DGrainError : ClassData} (aGrainError : PySem.W.nsIn K mainGlobals "GrainError" = some (some (.ref CGrainError))) (cGrainError : PySem.W.clsIn K CGrainError = some DGrainError) (nGrainError : DGrainError.name = "GrainError") (tGrainError : PySem.W.typeIn K (.ref CGrainError) = some (.type "type")) (sbGrainError : PySem.W.subIn K (.ref CGrainError) (.type "BaseException") = some true)
    {CGrainMissing : Addr} {DGrainMissing : ClassData} (aGrainMissing : PySem.W.nsIn K mainGlobals "GrainMissing" = some (some (.ref CGrainMissing))) (cGrainMissing : PySem.W.clsIn K CGrainMissing = some DGrainMissing) (nGrainMissing : DGrainMissing.name = "GrainMissing") (tGrainMissing : PySem.W.typeIn K (.ref CGrainMissing) = some (.type "type")) (sbGrainMissing : PySem.W.subIn K (.ref CGrainMissing) (.type "BaseException") = some true)
    (E_BadLength : ErW PySem.Challenge.pw_grainyard_k10_whole_first_numbers K mg "ValueError" "ValueError.__new__" "ValueError.__init__" [.type "ValueError", .type "Exception", .type "BaseException", .type "object"] [.ref CGrainError] i_BadLength "BadLength" "BadLength.__init__" ["word", "at"])
    (E_NothingLeft : ErW PySem.Challenge.pw_grainyard_k10_whole_first_numbers K mg "IndexError" "IndexError.__new__" "IndexError.__init__" [.type "IndexError", .type "LookupError", .type "Exception", .type "BaseException", .type "object"] [] i_NothingLeft "NothingLeft" "NothingLeft.__init__" ["word"])
    (tabL : h.get? PL = some { cls := .none, data := .fields #[] }) (noL : K.lookup PL = none) (hdL : PySem.W.codeHdIn K cL PL = true) : LamX.LawAtS l w K CX0 16 63 "_law_script" mg fa h := by
  have e := hfa.symm.trans (PySem.W.mg_of X G a25)
  cases e
  have F0 := fun_mk (st := s_whole_root) l0 c0 k0
  have b0 := F0.binds (ps := ["number"]) fun _ _ _ _ _ _ us hl => match us, hl with | [_], _ => rfl
  have F1 := fun_mk (st := s_sign) l1 c1 k1
  have b1 := F1.binds (ps := ["pair", "root"]) fun _ _ _ _ _ _ us hl => match us, hl with | [_, _], _ => rfl
  have F2 := fun_mk (st := s_is_length) l2 c2 k2
  have b2 := F2.binds (ps := ["pair", "root"]) fun _ _ _ _ _ _ us hl => match us, hl with | [_, _], _ => rfl
  have F3 := fun_mk (st := s_added) l3 c3 k3
  have F4 := fun_mk (st := s_scaled) l4 c4 k4
  have b4 := F4.binds (ps := ["pair", "number"]) fun _ _ _ _ _ _ us hl => match us, hl with | [_, _], _ => rfl
  have F5 := fun_mk (st := s_floor_of) l5 c5 k5
  have b5 := F5.binds (ps := ["pair", "root"]) fun _ _ _ _ _ _ us hl => match us, hl with | [_, _], _ => rfl
  have F6 := fun_mk (st := s_endless_fractions) l6 c6 k6
  have b6 := F6.binds (ps := ["root"]) fun _ _ _ _ _ _ us hl => match us, hl with | [_], _ => rfl
  have F7 := fun_mk (st := s_number_of_length) l7 c7 k7
  have b7 := F7.binds (ps := ["length", "root"]) fun _ _ _ _ _ _ us hl => match us, hl with | [_, _], _ => rfl
  have F8 := fun_mk (st := s_first_number) l8 c8 k8
  have b8 := F8.binds (ps := ["pairs", "root"]) fun _ _ _ _ _ _ us hl => match us, hl with | [_, _], _ => rfl
  have F9 := fun_mk (st := s_source) l9 c9 k9
  have b9 := F9.binds (ps := ["_law_script"]) fun _ _ _ _ _ _ us hl => match us, hl with | [_], _ => rfl
  have F10 := fun_mk (st := s_pull) l10 c10 k10
  have b10 := F10.binds (ps := ["_law_bag", "_law_size"]) fun _ _ _ _ _ _ us hl => match us, hl with | [_, _], _ => rfl
  have F11 := fun_mk (st := s_of) l11 c11 k11
  have b11 := F11.binds (ps := ["_law_bag", "_law_some"]) fun _ _ _ _ _ _ us hl => match us, hl with | [_, _], _ => rfl
  have F12 := fun_mk (st := s_roots) l12 c12 k12
  have b12 := F12.binds (ps := []) fun _ _ _ _ _ _ us hl => match us, hl with | [], _ => rfl
  have F13 := fun_mk (st := s_a_root) l13 c13 k13
  have b13 := F13.binds (ps := ["_law_bag"]) fun _ _ _ _ _ _ us hl => match us, hl with | [_], _ => rfl
  have F14 := fun_mk (st := s_any_pair) l14 c14 k14
  have b14 := F14.binds (ps := ["_law_bag"]) fun _ _ _ _ _ _ us hl => match us, hl with | [_], _ => rfl
  have F15 := fun_mk (st := s_lsign) l15 c15 k15
  have b15 := F15.binds (ps := ["_law_pair", "_law_root_z"]) fun _ _ _ _ _ _ us hl => match us, hl with | [_, _], _ => rfl
  have F16 := fun_mk (st := s_a_length) l16 c16 k16
  have b16 := F16.binds (ps := ["_law_bag", "_law_root_z"]) fun _ _ _ _ _ _ us hl => match us, hl with | [_, _], _ => rfl
  have F17 := fun_mk (st := s_lscaled) l17 c17 k17
  have b17 := F17.binds (ps := ["_law_pair", "_law_number"]) fun _ _ _ _ _ _ us hl => match us, hl with | [_, _], _ => rfl
  have F18 := fun_mk (st := s_lfractions) l18 c18 k18
  have b18 := F18.binds (ps := ["_law_root_z", "_law_count"]) fun _ _ _ _ _ _ us hl => match us, hl with | [_, _], _ => rfl
  have F19 := fun_mk (st := s_tile_pair) l19 c19 k19
  have b19 := F19.binds (ps := ["_law_root_z", "_law_number"]) fun _ _ _ _ _ _ us hl => match us, hl with | [_, _], _ => rfl
  have F20 := fun_mk (st := s_tiny) l20 c20 k20
  have b20 := F20.binds (ps := ["_law_bag", "_law_root_z"]) fun _ _ _ _ _ _ us hl => match us, hl with | [_, _], _ => rfl
  have F21 := fun_mk (st := s_coordinates) l21 c21 k21
  have b21 := F21.binds (ps := ["_law_pair", "_law_root_z", "_law_number"]) fun _ _ _ _ _ _ us hl => match us, hl with | [_, _, _], _ => rfl
  have F22 := fun_mk (st := s_bad_pair) l22 c22 k22
  have b22 := F22.binds (ps := ["_law_bag", "_law_root_z"]) fun _ _ _ _ _ _ us hl => match us, hl with | [_, _], _ => rfl
  have F23 := fun_mk (st := s_field_of) l23 c23 k23
  have b23 := F23.binds (ps := ["_law_e"]) fun _ _ _ _ _ _ us hl => match us, hl with | [_], _ => rfl
  have F24 := fun_mk (st := s_try) l24 c24 k24
  have b24 := F24.binds (ps := ["_law_ask"]) fun _ _ _ _ _ _ us hl => match us, hl with | [_], _ => rfl
  have F25 := fun_mk (st := s_law) l25 c25 k25
  have T : Txt K mg := {
    f_whole_root := f0
    d_whole_root := _
    F_whole_root := F0
    g_whole_root := PySem.W.mg_of X G a0
    b_whole_root := b0
    f_sign := f1
    d_sign := _
    F_sign := F1
    g_sign := PySem.W.mg_of X G a1
    b_sign := b1
    f_is_length := f2
    d_is_length := _
    F_is_length := F2
    g_is_length := PySem.W.mg_of X G a2
    b_is_length := b2
    f_added := f3
    d_added := _
    F_added := F3
    g_added := PySem.W.mg_of X G a3
    f_scaled := f4
    d_scaled := _
    F_scaled := F4
    g_scaled := PySem.W.mg_of X G a4
    b_scaled := b4
    f_floor_of := f5
    d_floor_of := _
    F_floor_of := F5
    g_floor_of := PySem.W.mg_of X G a5
    b_floor_of := b5
    f_endless_fractions := f6
    d_endless_fractions := _
    F_endless_fractions := F6
    g_endless_fractions := PySem.W.mg_of X G a6
    b_endless_fractions := b6
    f_number_of_length := f7
    d_number_of_length := _
    F_number_of_length := F7
    g_number_of_length := PySem.W.mg_of X G a7
    b_number_of_length := b7
    f_first_number := f8
    d_first_number := _
    F_first_number := F8
    g_first_number := PySem.W.mg_of X G a8
    b_first_number := b8
    f_source := f9
    d_source := _
    F_source := F9
    g_source := PySem.W.mg_of X G a9
    b_source := b9
    f_pull := f10
    d_pull := _
    F_pull := F10
    g_pull := PySem.W.mg_of X G a10
    b_pull := b10
    f_of := f11
    d_of := _
    F_of := F11
    g_of := PySem.W.mg_of X G a11
    b_of := b11
    f_roots := f12
    d_roots := _
    F_roots := F12
    g_roots := PySem.W.mg_of X G a12
    b_roots := b12
    f_a_root := f13
    d_a_root := _
    F_a_root := F13
    g_a_root := PySem.W.mg_of X G a13
    b_a_root := b13
    f_any_pair := f14
    d_any_pair := _
    F_any_pair := F14
    g_any_pair := PySem.W.mg_of X G a14
    b_any_pair := b14
    f_lsign := f15
    d_lsign := _
    F_lsign := F15
    g_lsign := PySem.W.mg_of X G a15
    b_lsign := b15
    f_a_length := f16
    d_a_length := _
    F_a_length := F16
    g_a_length := PySem.W.mg_of X G a16
    b_a_length := b16
    f_lscaled := f17
    d_lscaled := _
    F_lscaled := F17
    g_lscaled := PySem.W.mg_of X G a17
    b_lscaled := b17
    f_lfractions := f18
    d_lfractions := _
    F_lfractions := F18
    g_lfractions := PySem.W.mg_of X G a18
    b_lfractions := b18
    f_tile_pair := f19
    d_tile_pair := _
    F_tile_pair := F19
    g_tile_pair := PySem.W.mg_of X G a19
    b_tile_pair := b19
    f_tiny := f20
    d_tiny := _
    F_tiny := F20
    g_tiny := PySem.W.mg_of X G a20
    b_tiny := b20
    f_coordinates := f21
    d_coordinates := _
    F_coordinates := F21
    g_coordinates := PySem.W.mg_of X G a21
    b_coordinates := b21
    f_bad_pair := f22
    d_bad_pair := _
    F_bad_pair := F22
    g_bad_pair := PySem.W.mg_of X G a22
    b_bad_pair := b22
    f_field_of := f23
    d_field_of := _
    F_field_of := F23
    g_field_of := PySem.W.mg_of X G a23
    b_field_of := b23
    f_try := f24
    d_try := _
    F_try := F24
    g_try := PySem.W.mg_of X G a24
    b_try := b24
    n_ValueError := PySem.W.mg_none_of X G z0
    n_LookupError := PySem.W.mg_none_of X G z1
    n_IndexError := PySem.W.mg_none_of X G z2
    n_enumerate := PySem.W.mg_none_of X G z3
    n_max := PySem.W.mg_none_of X G z4
    n_range := PySem.W.mg_none_of X G z5
    n_sum := PySem.W.mg_none_of X G z6
    n_list := PySem.W.mg_none_of X G z7
    n_int := PySem.W.mg_none_of X G z8
    n_abs := PySem.W.mg_none_of X G z9
    n_len := PySem.W.mg_none_of X G z10
    n_all := PySem.W.mg_none_of X G z11
    n_isinstance := PySem.W.mg_none_of X G z12
    n_tuple := PySem.W.mg_none_of X G z13
    n_min := PySem.W.mg_none_of X G z14
    kb_first_number_root_pairs := kbn_first_number_root_pairs F8
    r_GrainError := CGrainError
    g_GrainError := PySem.W.mg_of X G aGrainError
    c_GrainError := .intro _ ⟨cGrainError,nGrainError⟩
    t_GrainError := tGrainError
    sb_GrainError := sbGrainError
    r_GrainMissing := CGrainMissing
    g_GrainMissing := PySem.W.mg_of X G aGrainMissing
    c_GrainMissing := .intro _ ⟨cGrainMissing,nGrainMissing⟩
    t_GrainMissing := tGrainMissing
    sb_GrainMissing := sbGrainMissing
    e_BadLength := E_BadLength.e
    x_BadLength_word := E_BadLength.no _ (by simp)
    x_BadLength_at := E_BadLength.no _ (by simp)
    e_NothingLeft := E_NothingLeft.e
    x_NothingLeft_word := E_NothingLeft.no _ (by simp)
    hn := hn
    ht := ht }
  refine ⟨PySem.W.fnOf "law" "law" (defArgs s_law) (defBody s_law) (defScope s_law) .none kV25 dc25 pm25 an25 (.ref cL) ct25, [(cL, PL)], spLaw K PL, fun p hp => ?_, fun p hp => ?_, fun p hp => ?_, fun s v => .of_eq rfl, fun H a ns hl _ hP hS => ⟨a, ns, rfl, hS, hl, hP _ (List.mem_singleton.mpr rfl), fun _ => rfl⟩, fun base _ _ TB => ?_⟩
  · rw [List.mem_singleton.mp hp]
    exact tabL
  · rw [List.mem_singleton.mp hp]
    exact noL
  · rw [List.mem_singleton.mp hp]
    exact PySem.W.codeHd_of_K X hdL
  · rw [hprog]
    exact ok_law l25 c25 (TB _ (List.mem_singleton.mpr rfl)) T
end Gy
open PySem PySem.W PyProof.Rows
set_option maxRecDepth 100000 in
set_option maxHeartbeats 0 in
theorem PySem.Challenge.cw_grainyard_k10_whole_first_numbers_holds : PySem.Challenge.rw_grainyard_k10_whole_first_numbers.Holds := by
  w_on; o_law; k_head; (case hw => w_witness2)
  k_fill
  refine LamX.walk_ofTs (l := PySem.Challenge.rw_grainyard_k10_whole_first_numbers) (n := 63) (k := 16) (x := "_law_script") (CX := fun _ => L2.CX0) rfl (by decide) rfl ⟨rfl, by decide, by decide⟩ (fun w h Y => PySem.W.km_in_of Y) ?F (fun _ _ _ _ _ h => h)
  case F =>
    intro w mg fa h Y KX G hmg
    have hT := PySem.W.km_tabs_of Y
    refine' Gy.all_mk KX G hmg rfl ?a0 ?l0 ?c0 ?k0 ?a1 ?l1 ?c1 ?k1 ?a2 ?l2 ?c2 ?k2 ?a3 ?l3 ?c3 ?k3 ?a4 ?l4 ?c4 ?k4 ?a5 ?l5 ?c5 ?k5 ?a6 ?l6 ?c6 ?k6 ?a7 ?l7 ?c7 ?k7 ?a8 ?l8 ?c8 ?k8 ?a9 ?l9 ?c9 ?k9 ?a10 ?l10 ?c10 ?k10 ?a11 ?l11 ?c11 ?k11 ?a12 ?l12 ?c12 ?k12 ?a13 ?l13 ?c13 ?k13 ?a14 ?l14 ?c14 ?k14 ?a15 ?l15 ?c15 ?k15 ?a16 ?l16 ?c16 ?k16 ?a17 ?l17 ?c17 ?k17 ?a18 ?l18 ?c18 ?k18 ?a19 ?l19 ?c19 ?k19 ?a20 ?l20 ?c20 ?k20 ?a21 ?l21 ?c21 ?k21 ?a22 ?l22 ?c22 ?k22 ?a23 ?l23 ?c23 ?k23 ?a24 ?l24 ?c24 ?k24 ?a25 ?l25 ?c25 ?k25 ?z0 ?z1 ?z2 ?z3 ?z4 ?z5 ?z6 ?z7 ?z8 ?z9 ?z10 ?z11 ?z12 ?z13 ?z14 ?hn ?ht ?aGrainError ?cGrainError ?nGrainError ?tGrainError ?sbGrainError ?aGrainMissing ?cGrainMissing ?nGrainMissing ?tGrainMissing ?sbGrainMissing ?E_BadLength ?E_NothingLeft ?tabL ?noL ?hdL
    (case a0 => k_is); (case l0 => k_is); (case c0 => k_is); (case k0 => k_is); (case a1 => k_is); (case l1 => k_is); (case c1 => k_is); (case k1 => k_is); (case a2 => k_is); (case l2 => k_is); (case c2 => k_is); (case k2 => k_is); (case a3 => k_is); (case l3 => k_is); (case c3 => k_is); (case k3 => k_is); (case a4 => k_is); (case l4 => k_is); (case c4 => k_is); (case k4 => k_is); (case a5 => k_is); (case l5 => k_is); (case c5 => k_is); (case k5 => k_is); (case a6 => k_is); (case l6 => k_is); (case c6 => k_is); (case k6 => k_is); (case a7 => k_is); (case l7 => k_is); (case c7 => k_is); (case k7 => k_is); (case a8 => k_is); (case l8 => k_is); (case c8 => k_is); (case k8 => k_is); (case a9 => k_is); (case l9 => k_is); (case c9 => k_is); (case k9 => k_is); (case a10 => k_is); (case l10 => k_is); (case c10 => k_is); (case k10 => k_is); (case a11 => k_is); (case l11 => k_is); (case c11 => k_is); (case k11 => k_is); (case a12 => k_is); (case l12 => k_is); (case c12 => k_is); (case k12 => k_is); (case a13 => k_is); (case l13 => k_is); (case c13 => k_is); (case k13 => k_is); (case a14 => k_is); (case l14 => k_is); (case c14 => k_is); (case k14 => k_is); (case a15 => k_is); (case l15 => k_is); (case c15 => k_is); (case k15 => k_is); (case a16 => k_is); (case l16 => k_is); (case c16 => k_is); (case k16 => k_is); (case a17 => k_is); (case l17 => k_is); (case c17 => k_is); (case k17 => k_is); (case a18 => k_is); (case l18 => k_is); (case c18 => k_is); (case k18 => k_is); (case a19 => k_is); (case l19 => k_is); (case c19 => k_is); (case k19 => k_is); (case a20 => k_is); (case l20 => k_is); (case c20 => k_is); (case k20 => k_is); (case a21 => k_is); (case l21 => k_is); (case c21 => k_is); (case k21 => k_is); (case a22 => k_is); (case l22 => k_is); (case c22 => k_is); (case k22 => k_is); (case a23 => k_is); (case l23 => k_is); (case c23 => k_is); (case k23 => k_is); (case a24 => k_is); (case l24 => k_is); (case c24 => k_is); (case k24 => k_is); (case a25 => k_is); (case l25 => k_is); (case c25 => k_is); (case k25 => k_is); (case z0 => k_is); (case z1 => k_is); (case z2 => k_is); (case z3 => k_is); (case z4 => k_is); (case z5 => k_is); (case z6 => k_is); (case z7 => k_is); (case z8 => k_is); (case z9 => k_is); (case z10 => k_is); (case z11 => k_is); (case z12 => k_is); (case z13 => k_is); (case z14 => k_is); (case hn => k_is); (case ht => k_is); (case aGrainError => k_is); (case cGrainError => k_is); (case nGrainError => rfl); (case tGrainError => k_is); (case sbGrainError => k_is); (case aGrainMissing => k_is); (case cGrainMissing => k_is); (case nGrainMissing => rfl); (case tGrainMissing => k_is); (case sbGrainMissing => k_is); (case E_BadLength => refine' Gy.erw2 (P := PySem.Challenge.pw_grainyard_k10_whole_first_numbers) KX G ?op ?nsu (by decide +kernel) (by decide +kernel) (by decide +kernel) ?ht rfl rfl (by decide +kernel) (by decide +kernel) (by decide +kernel) (by decide +kernel) ?aC ?lC ?aI ?lI ?cI ?lc ?lco ?sa ?ga ?gt ?kp ?cl ?su ?hvs ?hfi ?x0 ?x1; (case op => k_is); (case nsu => k_is); (case aC => k_is); (case lC => k_is); (case ht => decide +kernel); (case aI => k_is); (case lI => k_is); (case cI => k_is); (case lc => k_is); (case lco => k_is); (case sa => k_is); (case ga => k_is); (case gt => k_is); (case kp => k_is); (case cl => k_is); (case su => first | k_is | ks_is); (case hvs => rfl); (case hfi => decide +kernel); (case x0 => k_is); (case x1 => k_is)); (case E_NothingLeft => refine' Gy.erw1 (P := PySem.Challenge.pw_grainyard_k10_whole_first_numbers) KX G ?op ?nsu (by decide +kernel) (by decide +kernel) (by decide +kernel) ?ht rfl rfl (by decide +kernel) (by decide +kernel) (by decide +kernel) (by decide +kernel) ?aC ?lC ?aI ?lI ?cI ?lc ?lco ?sa ?ga ?gt ?kp ?cl ?su ?hvs ?hfi ?x0; (case op => k_is); (case nsu => k_is); (case aC => k_is); (case lC => k_is); (case ht => decide +kernel); (case aI => k_is); (case lI => k_is); (case cI => k_is); (case lc => k_is); (case lco => k_is); (case sa => k_is); (case ga => k_is); (case gt => k_is); (case kp => k_is); (case cl => k_is); (case su => first | k_is | ks_is); (case hvs => rfl); (case hfi => decide +kernel); (case x0 => k_is)); (case tabL => exact hT _ List.mem_cons_self); (case noL => kernel_rfl); (case hdL => kernel_rfl)

