import PyProof.Rows.All
import Wide.All
import OpenK.AllK
import Wide.FinOn
import HandS.ForMost
import HandS.Wide
import HandS.WideBits
import HandS.IsInst
import HandS.Defaults
import HandS.Star
import HandS.Evl
import HandS.NoneIn
import HandS.ForExc
import HandS.ExcInit
import HandS.MapJoin
import HandS.NestedK
import KE.KExcSuper
import KE.KExcIs
import PySem.Challenge.RW_grainyard_k70_error_classes
set_option Elab.async false
set_option linter.all false
set_option maxRecDepth 100000
set_option maxHeartbeats 4000000
namespace Gy
open PySem PySem.Spec PyProof.Rows L2
open NdefX
/-! ### own error classes over a built-in one -/
/-- the built-in base B, its __new__, its __init__, its mro -/
structure ErB (B newId initId : String) (bmB : List Value) : Prop where
  fb : ExcBaseFacts B newId initId bmB
  kx : PySem.W.KxsFacts B initId
  sf : StoreFacts B bmB "object.__setattr__" "object"
theorem erb_VE : ErB "ValueError" "ValueError.__new__" "ValueError.__init__" [.type "ValueError", .type "Exception", .type "BaseException", .type "object"] := ⟨PySem.F.excBase_ValueError, PySem.W.kxs_ValueError, PySem.F.store_ValueError⟩
theorem erb_LE : ErB "LookupError" "LookupError.__new__" "LookupError.__init__" [.type "LookupError", .type "Exception", .type "BaseException", .type "object"] := ⟨PySem.F.excBase_LookupError, PySem.W.kxs_LookupError, PySem.F.store_LookupError⟩
theorem erb_IE : ErB "IndexError" "IndexError.__new__" "IndexError.__init__" [.type "IndexError", .type "LookupError", .type "Exception", .type "BaseException", .type "object"] := ⟨PySem.F.excBase_IndexError, PySem.W.kxs_IndexError, PySem.F.store_IndexError⟩
/-- what stands written of an own error class at C -/
structure ErC (K : PySem.W.Frag) (C : Addr) (newId : String) (bmB : List Value) : Prop where
  cls : ∃ nm q N bs bm sn sub ab col dd k0 k1 k2 k3 k5, K.lookup C = some (excClassObj nm q C N bs bm true sn sub ab col dd k0 k1 k2 k3 k5 newId) ∧ PySem.W.excTail bmB bm = true
  ov : PySem.W.excOver K C bmB = true
  sa : PySem.W.findIn K (.ref C) "__setattr__" = some (some (.builtin "object.__setattr__"))
  ga : PySem.W.findIn K (.ref C) "__getattribute__" = some (some (.builtin "BaseException.__getattribute__"))
  gt : PySem.W.findIn K (.ref C) "__getattr__" = some none
  ex : PySem.W.subIn K (.ref C) (.type "BaseException") = some true
  ty : PySem.W.typeIn K (.ref C) = some (.type "type")
  kp : PySem.W.keepIn K (.ref C) = true
  cl : PySem.W.findIn K (.ref C) "__class__" = some (some (.builtin "object.__class__"))
  ob : PySem.W.mroIn K C (.type "object") = some true
section
variable {pr : Program} {wo : World} {A : Around} {Ex : Value → Shared → Prop} {hh : Heap} {gg : Array GenState} {dr : Drawn} {tt : Nat} {oo : OsState}
variable {nm qn : Str} {C N : Addr} {bs bm bmB : List Value} {hdct : Bool} {sn : List Str} {sub : List Value} {ab : Bool} {col : Option Bool} {dd : Option Addr} {k0 k1 k2 k3 k5 : Option Value} {B newId initId : String}
theorem mw_call (FB : ExcBaseFacts B newId initId bmB) {u e t0 : Addr} {rest : List Value} {Qv : Value → Shared → Prop}
    (hC : hh.get? C = some (excClassObj nm qn C N bs bm hdct sn sub ab col dd k0 k1 k2 k3 k5 newId)) (he : hh.get? e = some (PySem.HandSPX.excO C t0)) (hu : hh.get? u = some (PySem.W.kxs_mw initId e)) (hrest : rest.length ≤ sizeLine)
    (hq : ∀ h' t1, (∀ b o, b ≠ e → hh.get? b = some o → h'.get? b = some o) → h'.get? e = some (PySem.HandSPX.excO C t1) → Qv .none ⟨h', gg, dr, tt, oo⟩) :
    wpAny (model pr wo) A (call (.ref u) rest) Qv Ex ⟨hh, gg, dr, tt, oo⟩ := by
  refine wpAny_call (codeAny_of_tree ?_)
  show wpAny _ A.in1 (callAny (.ref u) ⟨rest, []⟩) _ _ _
  simp only [callAny]
  refine wpAny_bind (wpAny_load hu ?_)
  refine PySem.W.KFB.if_so (show ((Value.type "method-wrapper" == .type "method") || (Value.type "method-wrapper" == .type "builtin_function_or_method") || (Value.type "method-wrapper" == .type "method-wrapper")) = true by decide) ?_
  refine wpAny_bind (PySem.W.check_bound_init FB.toExcCallFacts hC he rfl ?_)
  refine wpAny_bind (wpAny_pure (wpAny_pure ⟨plainId_quiet FB.init.plain _, codeAny_builtin FB.initEntry ?_⟩))
  refine PySem.W.exc_init_tree (cls := .ref C) (t0 := t0) (dv := none) (c2 := .none) (c3 := .none) (b4 := .bool false) he hrest fun h' k e' _ => hq h' _ k e'
end
section
variable {X : Cx} {pins : List (Addr × Obj)} {σ : L2.St} {H : Hp} {s : Shared} {B newId initId : String} {bmB : List Value}
/-! ### self.f = y -/
theorem taker0 {K : PySem.W.Frag} {C : Addr} {f : Str} (h : PySem.W.findIn K (.ref C) f = some none) : PySem.W.takerIn K C f = some none := by
  unfold PySem.W.takerIn
  rw [h]
  rfl
theorem gst_new {a C : Addr} {f : Str} {y : V} {u : Value} {Qu : Unit → Shared → Prop} {Ex : Value → Shared → Prop} {A : Around} (E : ErB B newId initId bmB) (T : ErC X.K C newId bmB) (I : Inv X pins σ H s) (e : H a = some (exo a C none)) (hno : PySem.W.findIn X.K (.ref C) f = some none) (ry : RelV y u)
    (h : ∀ dx s', H dx = none → dx ≠ a → Inv X pins σ (upd (upd H dx (exd dx [(f, y)])) a (exo a C (some dx))) s' → Qu () s') : wpAny (model X.prog X.w) A (setAttr (.ref a) f u) Qu Ex s := by
  obtain ⟨nm, q, N, bs, bm, sn, sub, ab, col, dd, k0, k1, k2, k3, k5, hC, hbm⟩ := T.cls
  have hcl : PySem.W.clsIn X.K C = some { name := nm, bases := bs, mro := .ref C :: bm, ns := N, qualname := q, hasDict := true, slotNames := sn, subclasses := sub, abstract := ab, collection := col, hasDel := false } := by unfold PySem.W.clsIn; rw [hC] <;> rfl
  obtain ⟨t1, ho⟩ := exo_at I.hok e
  obtain ⟨hp, g, d, t, os⟩ := s
  have IA : PySem.W.InstAt hp a (PySem.HandSPX.excO C t1) C none := ⟨ho, rfl, rfl, trivial⟩
  refine PySem.W.set_plain I.kIn IA T.sa ?_
  refine PySem.W.osa_openX E.sf (s := ⟨hp, g, d, _, os⟩) I.kIn IA T.ov (taker0 hno) fun b => ?_
  have hcls : PySem.W.Looks (model X.prog X.w) hp (classData C) _ := PySem.W.looks_clsIn I.kIn hcl
  have hxs : a ≠ hp.objs.size := Nat.ne_of_lt (Heap.lt_size ho)
  show wpAny _ _ (Builtin.ObjectAttr.storeInOwnDict (.ref a) (.ref C) (.str f _) f u b) _ _ _
  unfold Builtin.ObjectAttr.storeInOwnDict Builtin.ObjectAttr.ownDictForStores
  repeat (first | with_reducible refine PySem.HandSPX.store_in_new ?_ ?_ | with_reducible refine wpAny_loadPart_at ho ?_ | with_reducible refine hcls.at ?_ | wp_step)
  · exact ⟨_, #[], _, (Heap.get?_update_ne _ _ _ _ hxs.symm).trans (Heap.get?_push_at rfl rfl), rfl, fun e he => absurd he (by simp), fun _ => rfl⟩
  · intro h' tk' hn' hs
    have hx1 : (hp.push { cls := .type "dict", data := .dict #[] }).get? a = some (PySem.HandSPX.excO C t1) := Heap.get?_push_of_some _ ho
    have k : ∀ b o, b ≠ a → hp.get? b = some o → h'.get? b = some o := fun b o hb ho' => (hs.2 b (Nat.ne_of_lt (Heap.lt_size ho'))).trans ((Heap.get?_update_ne _ _ _ _ hb).trans (Heap.get?_push_of_some _ ho'))
    have hx := (hs.2 a hxs).trans (Heap.get?_update_self _ hx1 rfl)
    have dn := Nat.le_refl hp.objs.size
    have hnd : H hp.objs.size = none := I.hok.fresh dn
    have nd : ∀ {b : Addr} {o : Obj}, hp.get? b = some o → b ≠ hp.objs.size := fun q => Nat.ne_of_lt (Heap.lt_size q)
    have na : ∀ {b : Addr}, H b = none → b ≠ a := fun {b} n z => by
      rw [z, e] at n
      cases n
    have U1 : Un X.fs [] H (upd (upd H hp.objs.size (exd hp.objs.size [(f, y)])) a (exo a C (some hp.objs.size))) hp h' := {
      keep := fun b o q n _ _ => k b o (na n) q
      slot := fun b o q n _ _ => ⟨o.slots, k b o (na n) q⟩
      free := fun b o q n _ => (upd_ne (na n)).trans ((upd_ne (nd q)).trans n)
      there := fun b o q _ => by
        by_cases hb : b = a
        · exact ⟨_, hb ▸ hx⟩
        · exact ⟨o, k b o hb q⟩
      tups := fun b xs q => (upd_ne (at_ne e q exo_tup)).trans ((upd_ne (ne_of_none q hnd)).trans q)
      frzs := fun b o v q => (upd_ne (at_ne e q exo_frz)).trans ((upd_ne (ne_of_none q hnd)).trans q)
      tbls := fun b ps q => ⟨#[], by rw [upd_ne (at_ne e q exo_tbl), upd_ne (ne_of_none q hnd), q]; simp⟩ }
    refine h hp.objs.size _ hnd hxs.symm (I.un (t' := tk') U1 fun b o q => ?_)
    by_cases hb : b = a
    · subst hb
      rw [upd_same] at q
      cases q
      exact exo_ok hx
    · rw [upd_ne hb] at q
      by_cases hd : b = hp.objs.size
      · subst hd
        rw [upd_same] at q
        cases q
        exact exd_ok hn' (relO_put (fs := []) ry fun g => True.intro)
      · rw [upd_ne hd] at q
        refine (I.hok b o q).stay (fun c v hc z => k c v ?_ z) (fun c hc => (upd_ne (at_ne e hc exo_own)).trans ((upd_ne (ne_of_none hc hnd)).trans hc)) fun c xs hc => (upd_ne (at_ne e hc exo_tup)).trans ((upd_ne (ne_of_none hc hnd)).trans hc)
        rcases hc with hc | hc
        · rw [hc]
          exact hb
        · exact at_ne e hc exo_own
theorem gst_old {a C dx : Addr} {f : Str} {y : V} {u : Value} {fs : List (Str × V)} {Qu : Unit → Shared → Prop} {Ex : Value → Shared → Prop} {A : Around} (E : ErB B newId initId bmB) (T : ErC X.K C newId bmB) (I : Inv X pins σ H s) (e : H a = some (exo a C (some dx))) (ed : H dx = some (exd dx fs)) (hl : fs.length ≤ 900)
    (hno : PySem.W.findIn X.K (.ref C) f = some none) (ry : RelV y u) (h : ∀ s', Inv X pins σ (upd H dx (exd dx ((f, y) :: fs))) s' → Qu () s') : wpAny (model X.prog X.w) A (setAttr (.ref a) f u) Qu Ex s := by
  obtain ⟨nm, q, N, bs, bm, sn, sub, ab, col, dd, k0, k1, k2, k3, k5, hC, hbm⟩ := T.cls
  have hcl : PySem.W.clsIn X.K C = some { name := nm, bases := bs, mro := .ref C :: bm, ns := N, qualname := q, hasDict := true, slotNames := sn, subclasses := sub, abstract := ab, collection := col, hasDel := false } := by unfold PySem.W.clsIn; rw [hC] <;> rfl
  obtain ⟨t1, ho⟩ := exo_at I.hok e
  obtain ⟨mA, hns, rel⟩ := exd_at I.hok ed
  have hw := within_of rel
  obtain ⟨hp, g, d, t, os⟩ := s
  obtain ⟨oD, _, _, hoD, _, _⟩ := hns.count hw
  have IA : PySem.W.InstAt hp a { cls := .ref C, dict := some dx, data := .fields #[.ref t1, .none, .none, .none, .bool false, .none] } C (some oD) := ⟨ho, rfl, rfl, hoD⟩
  refine PySem.W.set_plain I.kIn IA T.sa ?_
  refine PySem.W.osa_openX E.sf (s := ⟨hp, g, d, _, os⟩) I.kIn IA T.ov (taker0 hno) fun b => ?_
  have hcls : PySem.W.Looks (model X.prog X.w) hp (classData C) _ := PySem.W.looks_clsIn I.kIn hcl
  show wpAny _ _ (Builtin.ObjectAttr.storeInOwnDict (.ref a) (.ref C) (.str f _) f u b) _ _ _
  unfold Builtin.ObjectAttr.storeInOwnDict Builtin.ObjectAttr.ownDictForStores
  repeat (first | with_reducible refine PySem.OEX.store_in_old hns hw (by rw [List.length_map]; omega) ?_ | with_reducible refine wpAny_loadPart_at ho ?_ | with_reducible refine hcls.at ?_ | wp_step)
  intro h' tk' hn hs
  have k : ∀ b o, b ≠ dx → hp.get? b = some o → h'.get? b = some o := fun b o hb ho' => (hs.2 b hb).trans ho'
  have hd : ∃ o, h'.get? dx = some o := by
    obtain ⟨o, _, _, e', _⟩ := hn
    exact ⟨o, e'⟩
  exact h _ (I.write (t' := tk') (x := dx) (e := dx) (o := exd dx ((f, y) :: fs)) (by rw [ed]; exact True.intro) (.inl rfl) k hd (exd_ok hn (relO_put ry rel)))
def tGst (K : PySem.W.Frag) (newId : String) (bmB : List Value) (f : Str) (to te : TE) : TS := fun D σ H => te σ H fun y H1 => to σ H1 fun x H2 => ∃ a C : Addr, x = .ref a ∧ ErC K C newId bmB ∧ PySem.W.findIn K (.ref C) f = some none ∧
  ((H2 a = some (exo a C none) ∧ ∀ dx, H2 dx = none → dx ≠ a → D.nx σ (upd (upd H2 dx (exd dx [(f, y)])) a (exo a C (some dx)))) ∨
    ∃ (dx : Addr) (fs : List (Str × V)), H2 a = some (exo a C (some dx)) ∧ H2 dx = some (exd dx fs) ∧ fs.length ≤ 900 ∧ D.nx σ (upd H2 dx (exd dx ((f, y) :: fs))))
theorem ps_gst {o e : Expr} {to te : TE} {f : Str} {p' pos : Pos} (E : ErB B newId initId bmB) (ho : PE X o to) (he : PE X e te) (hs : swapsWith e (some (.Attribute o f p')) pos.line X.env = pure false := by rfl) : PS X (.Assign [.Attribute o f p'] e pos) (tGst X.K newId bmB f to te) := by
  refine ⟨fun pins s σ H D I h => ?_⟩
  refine plainObj_wpAny_Assign_Attribute (thn (he.run pins s σ H _ I h) fun v s1 ⟨y, H1, I1, r1, q1⟩ => thn (ho.run pins s1 σ H1 _ I1 q1) fun u s2 ⟨x, H2, I2, r2, a, C, ex, T, hno, q⟩ => ?_) hs
  subst ex
  obtain rfl : u = Value.ref a := r2
  rcases q with ⟨ea, q⟩ | ⟨dx, fs, ea, ed, hl, q⟩
  · exact gst_new E T I2 ea hno r1 fun dx s' n ne J => ⟨σ, _, J, q dx n ne⟩
  · exact gst_old E T I2 ea ed hl hno r1 fun s' J => ⟨σ, _, J, q⟩
end
section
variable {X : Cx} {pins : List (Addr × Obj)} {σ : L2.St} {H : Hp} {s : Shared} {B newId initId : String} {bmB : List Value}
/-! ### super().__init__(text), the first statement of an own error's __init__ -/
/-- a method with super(): its def at f, its code object at c -/
structure SupM (X : Cx) (f c : Addr) (ar : Arg) : Prop where
  fu : X.env.func = some f
  co : X.env.code = .ref c
  fd : ∃ (o : Obj) (fd : FuncData), X.K.lookup f = some o ∧ o.data = .func fd ∧ (fd.params.posonlyargs ++ fd.params.args).head? = some ar
  cd : ∃ (o : Obj) (vs : Array Value) (file : Str) (tk : Tok), X.K.lookup c = some o ∧ o.data = .fields vs ∧ vs[2]? = some (.str file tk) ∧ ((X.prog.main.file : Str) == file) = true
  ks : X.env.kindOf "super" = some .globalImplicit
  kc : X.env.kindOf "__class__" = some .free
  ka : X.env.kindOf ar.arg = some .local
  top : (X.prog.main.scope.names.lookup ("super" : Str)).isSome = false
  no : X.mg "super" = none
  op : PySem.W.nsIn X.K cStatics "thirdparty.any" = some none
theorem sup_stmt {f c a C : Addr} {ar : Arg} {i j : Nat} {body : List Stmt} {m : Str} {n : Nat} {pl : Sem Bool} {p0 p1 p2 p3 p4 p5 : Pos} (E : ErB B newId initId bmB) (T : SupM X f c ar) (O : ErC X.K C newId bmB) (I : Inv X pins σ H s)
    (hi : X.N[i]? = some ar.arg) (hs : σ[i]? = some (some (.ref a))) (hj : X.N[j]? = some ("__class__" : Str)) (hsj : σ[j]? = some (some (.ref C))) (ha : H a = some (exo a C none))
    (hsup : PySem.W.ks_superIn X.K C C "__init__" = some (some (.builtin initId))) (hB : PySem.W.subIn X.K (.ref C) (.type B) = some true) (hDD : PySem.W.mroIn X.K C (.ref C) = some true)
    (he : eval (.Call (.Attribute (.Call (.Name "super" p0) [] [] p1) "__init__" p2) [.Constant (.str m) n p3] [] p4) X.env = (do
      let ov ← attributeBase (.Call (.Name "super" p0) [] [] p1) "__init__" X.env (eval (.Call (.Name "super" p0) [] [] p1) X.env)
      standAt p2.atName
      let (g, first) ← holding [ov] (getMethod ov "__init__" pl)
      callWith p4 g first (backTo p4 (starEach [.Constant (.str m) n p3] X.env)) []))
    (hint : interactive X.env = false) (hsw : swapsWith (.Call (.Attribute (.Call (.Name "super" p0) [] [] p1) "__init__" p2) [.Constant (.str m) n p3] [] p4) none p5.line X.env = pure false) :
    _root_.PySem.wpAt (model X.prog X.w) X.A (.func body X.env) (exec (.Expr (.Call (.Attribute (.Call (.Name "super" p0) [] [] p1) "__init__" p2) [.Constant (.str m) n p3] [] p4) p5) X.env) (fun fl s' => fl = .next ∧ Inv X pins σ H s') X.xe s := by
  refine ks_wpAt_Expr_any ?_ hint hsw
  refine ks_wpAt_MethodCall (pl := pl) ?_ he
  have KX : X.K.In s.heap := I.kIn
  obtain ⟨of, fd, hf, hfd, hp⟩ := T.fd
  obtain ⟨oc, vs, file, tk, hc, hoc, hvs, hfile⟩ := T.cd
  obtain ⟨nm, q, N, bs, bm, sn, sub, ab, col, dd, k0, k1, k2, k3, k5, hC, hbm⟩ := O.cls
  have hcl : PySem.W.clsIn X.K C = some { name := nm, bases := bs, mro := .ref C :: bm, ns := N, qualname := q, hasDict := true, slotNames := sn, subclasses := sub, abstract := ab, collection := col, hasDel := false } := by unfold PySem.W.clsIn; rw [hC] <;> rfl
  obtain ⟨t1, ho⟩ := exo_at I.hok ha
  refine ks_wpAt_super_base (env := X.env) T.ks T.kc (by decide) T.fu (KX _ _ hf) hfd hp T.co (KX _ _ hc) hoc hvs hfile T.top ?_
  obtain ⟨mb, h1, h2⟩ := I.mod.blt
  refine PySem.W.ks_loadName_global I.ok.kind T.ks (Calls.loadGlobal_builtin (by rw [I.ok.glob]; exact I.mod.glob.keeps I.bk) T.no (by rw [I.ok.blt]; exact h1.keeps I.bk) ((h2 "super" (by decide)).trans (by decide +kernel)) ⟨rfl, ?_⟩)
  obtain ⟨mm, hn, hl⟩ := I.loc
  obtain ⟨uc, rc, lc⟩ := hl j _ _ hj hsj (.inr (.inr T.kc))
  obtain ⟨ua, ra, la⟩ := hl i _ _ hi hs (.inl T.ka)
  obtain rfl : uc = Value.ref C := rc
  obtain rfl : ua = Value.ref a := ra
  obtain ⟨cc, hcc, hcell⟩ : ∃ cc, X.env.cells.lookup ("__class__" : Str) = some cc ∧ s.heap.IsCell cc (some (Value.ref C)) := by
    rcases lc with ⟨z, _⟩ | ⟨_, z⟩
    · rw [T.kc] at z
      cases z
    · exact z
  have hma : mm ar.arg = some (Value.ref a) := by
    rcases la with ⟨_, z⟩ | ⟨z, _⟩
    · exact z
    · rw [T.ka] at z
      rcases z with z | z <;> cases z
  refine wpAny_loadName_free I.ok.kind T.kc hcc hcell ?_
  refine wpAny_loadName_local I.ok.kind T.ka hn hma ?_
  have hCh := KX _ _ hC
  refine ks_wpAny_isType_cls hCh rfl ⟨rfl, ?_⟩
  obtain ⟨hp', g, d, t, os⟩ := s
  refine ks_wpAny_call_super hCh rfl ho rfl (fun z e => by cases e) (PySem.W.looks_mroIn KX hDD) fun h1 so kk => ?_
  have I1 : Inv X pins σ H ⟨h1, g, d, t, os⟩ := I.kept (t' := t) kk
  have hin : PySem.W.Looks (model X.prog X.w) h1 (isInstance (.ref a) (.type B)) true := (show PySem.W.InstAt h1 a (PySem.HandSPX.excO C t1) C none from ⟨kk _ _ ho, rfl, rfl, trivial⟩).type.andThen (PySem.W.looks_subIn I1.kIn hB)
  have hsup' := hsup
  unfold PySem.W.ks_superIn at hsup'
  rw [hcl] at hsup'
  refine PySem.W.kxs_getMethod E.kx so (PySem.W.looks_opaque I1.kIn T.op) (l₀ := .ref C :: bm) (fun A Q E s k q => wpAny_bind ((PySem.W.looks_clsIn I1.kIn hcl) A _ E s k (wpAny_pure q))) rfl I1.kIn hsup' hin (fun z => ?_) (by decide) ?_
  · subst z
    rw [show hp'.get? a = _ from hCh] at ho
    cases ho
  have kk2 : ∀ b o, h1.get? b = some o → (h1.push (PySem.W.kxs_mw initId a)).get? b = some o := fun b o e => Heap.get?_push_of_some _ e
  have I2 : Inv X pins σ H ⟨h1.push (PySem.W.kxs_mw initId a), g, d, t + 1, os⟩ := I1.kept (t' := t + 1) kk2
  have hmw : (h1.push (PySem.W.kxs_mw initId a)).get? h1.objs.size = some (PySem.W.kxs_mw initId a) := Heap.get?_push_at rfl rfl
  show wpAny _ _ (callWith p4 (.ref h1.objs.size) [] ((false, eval (.Constant (.str m) n p3) X.env) :: backTo p4 (starEach [] X.env)) []) _ _ _
  refine PySem.W.kxs_callWith (i := initId) (x := a) rfl (PySem.Calls.evalArgs_plain (PySem.Calls.spliced_cons (PySem.Calls.Constant_str (PySem.Calls.spliced_nil ⟨hmw, ?_⟩))))
  show wpAny _ _ (call (.ref h1.objs.size) [.str m (t + 1)]) _ _ _
  refine mw_call E.fb (kk2 _ _ (kk _ _ hCh)) (kk2 _ _ (kk _ _ ho)) hmw (by show 1 ≤ sizeLine; decide) fun h3 t3 k3 e3 => ⟨rfl, ?_⟩
  have J := (I2.tok (t + 1 + 1)).write (h' := h3) (t' := t + 1 + 1) (x := a) (e := a) (o := exo a C none) (by rw [ha]; exact True.intro) (.inl rfl) k3 ⟨_, e3⟩ (exo_ok e3)
  rw [show upd H a (exo a C none) = H from funext fun z => by
    by_cases hz : z = a
    · rw [hz, upd_same, ha]
    · rw [upd_ne hz]] at J
  exact J
end
section
variable {P : Program} {w : World} {K : PySem.W.Frag} {mg : Str → Option Value} {base : Heap} {B newId initId : String} {bmB : List Value}
/-- what stands written of an own error's __init__: its words F, the def at f, its class at C -/
structure IniM (P : Program) (K : PySem.W.Frag) (mg : Str → Option Value) (B newId initId : String) (bmB : List Value) (f C : Addr) (F : NF) (ar : Arg) (doc pm ctv : Value) : Prop where
  lk : ∃ (od : Option Addr) (sl : Array (Option Value)), K.lookup f = some ⟨.type "function", od, .func (F.fd doc pm ctv), sl⟩
  cd : PySem.W.codeIn K (.ref F.c) F.qual = true
  cl : ∃ (cc : Addr) (o : Obj), F.cl = [(("__class__" : Str), cc)] ∧ K.lookup cc = some o ∧ o.data = .cell (some (.ref C))
  hd : (F.params.posonlyargs ++ F.params.args).head? = some ar
  fl : ∃ (o : Obj) (vs : Array Value) (file : Str) (tk : Tok), K.lookup F.c = some o ∧ o.data = .fields vs ∧ vs[2]? = some (.str file tk) ∧ ((P.main.file : Str) == file) = true
  ks : F.scope.names.lookup ("super" : Str) = some .globalImplicit
  kc : F.scope.names.lookup ("__class__" : Str) = some .free
  ka : F.scope.names.lookup ar.arg = some .local
  top : (P.main.scope.names.lookup ("super" : Str)).isSome = false
  no : mg "super" = none
  op : PySem.W.nsIn K cStatics "thirdparty.any" = some none
  ox : ErC K C newId bmB
  su : PySem.W.ks_superIn K C C "__init__" = some (some (.builtin initId))
  sb : PySem.W.subIn K (.ref C) (.type B) = some true
  mr : PySem.W.mroIn K C (.ref C) = some true
theorem init_fn {f C : Addr} {F : NF} {ar : Arg} {doc pm ctv : Value} {N ps : List Str} {k i j n : Nat} {sp : Sp} {m : Str} {p0 p1 p2 p3 p4 p5 : Pos} {rest : List Stmt} {pl : Addr → Sem Bool} (EB : ErB B newId initId bmB) (T : IniM P K mg B newId initId bmB f C F ar doc pm ctv)
    (S : NScope N ps ["__class__"] F.scope) (len : ∀ vs H Q E, sp vs H Q E → vs.length = ps.length) (hi : N[i]? = some ar.arg) (hj : N[j]? = some ("__class__" : Str))
    (hbd : F.body = .Expr (.Call (.Attribute (.Call (.Name "super" p0) [] [] p1) "__init__" p2) [.Constant (.str m) n p3] [] p4) p5 :: rest)
    (hst : ∀ vs H Q E, sp vs H Q E → ∃ a, (startF N vs [some (.ref C)])[i]? = some (some (.ref a)) ∧ (startF N vs [some (.ref C)])[j]? = some (some (.ref C)) ∧ H a = some (exo a C none))
    (hbody : ∀ (A : Around) (outer : List Env) (s : Shared) (H : Hp) (vs : List V) (Q : VK) (E : XK), Room k (A.deeper (envF F f s.heap.objs.size)) → sp vs H Q E →
      ∃ t, PSs (ncx CX0 P w K mg base N F f A outer s H E) rest t ∧ t { nx := fun _ H' => Q .non H', rt := Q } (startF N vs [some (.ref C)]) H)
    (he : ∀ L, eval (.Call (.Attribute (.Call (.Name "super" p0) [] [] p1) "__init__" p2) [.Constant (.str m) n p3] [] p4) (envF F f L) = (do
      let ov ← attributeBase (.Call (.Name "super" p0) [] [] p1) "__init__" (envF F f L) (eval (.Call (.Name "super" p0) [] [] p1) (envF F f L))
      standAt p2.atName
      let (g, first) ← holding [ov] (getMethod ov "__init__" (pl L))
      callWith p4 g first (backTo p4 (starEach [.Constant (.str m) n p3] (envF F f L))) []) := by intro _; rfl)
    (hint : ∀ L, interactive (envF F f L) = false := by intro _; rfl)
    (hsw : ∀ L, swapsWith (.Call (.Attribute (.Call (.Name "super" p0) [] [] p1) "__init__" p2) [.Constant (.str m) n p3] [] p4) none p5.line (envF F f L) = pure false := by intro _; rfl) :
    FnOk P w K mg base CX0 (k + 1) f (F.fd doc pm ctv) ps sp := by
  refine ⟨len, fun A outer s H args us vs Q E hr e0 hb r hsp => ?_⟩
  have KX : K.In s.heap := e0.mod.kin.keeps fun b o e => (e0.bs b o e).1
  have hl := len _ _ _ _ hsp
  have lim : s.heap.NoLimit := e0.mod.nolimit.keeps fun b o e => (e0.bs b o e).1
  obtain ⟨od, sl, lk⟩ := T.lk
  obtain ⟨cc, oc, ecl, lcc, dcc⟩ := T.cl
  refine codeAny_call_function hr.depth (KX _ _ lk) rfl S.co S.gen rfl (PySem.W.codeRec_of KX T.cd) (hb _ _ _ _ ?_)
  refine wpAny_newFunctionEnv S.nocell (fun ⟨x, _⟩ hy => S.par x (List.of_mem_zip hy).1) (fun h1 hns hsb => ⟨lim.fresh _ hsb, ?_⟩) S.kind
  have kp : ∀ b o, s.heap.get? b = some o → h1.get? b = some o := fun b o e => hsb.extBut b o (Nat.ne_of_lt (Heap.lt_size e)) (Heap.get?_push_of_some _ e)
  have CA : CellsAt F.cl ["__class__"] [some (.ref C)] s.heap H := by
    rw [ecl]
    have hc : ∀ (y : Str) (c : Addr), ([(("__class__" : Str), cc)] : List (Str × Addr)).lookup y = some c → c = cc ∧ y = "__class__" := fun y c e => by
      rw [List.lookup_cons] at e
      split at e
      · rename_i z
        exact ⟨(Option.some.inj e).symm, eq_of_beq z⟩
      · cases e
    refine ⟨rfl, fun y c e => ?_, fun x y c e1 e2 => (hc x c e1).2.trans (hc y c e2).2.symm, fun i y e => ?_⟩
    · rw [(hc y c e).1]
      exact ⟨(e0.bs _ _ (e0.mod.kin _ _ lcc)).2, _, oc, KX _ _ lcc, dcc⟩
    · match i, e with
      | 0, e =>
        cases e
        exact ⟨cc, by simp, fun v e => by cases e; exact ⟨_, rfl, oc, KX _ _ lcc, dcc⟩⟩
  have I : Inv (ncx CX0 P w K mg base N F f A outer s H E) [] (startF N vs [some (.ref C)]) H { s with heap := h1, toks := s.toks + (ps.zip us).length } := inv_startN S hr.hd e0 hl r CA hns kp
  obtain ⟨a, s1, s2, ha⟩ := hst _ _ _ _ hsp
  have TM : SupM (ncx CX0 P w K mg base N F f A outer s H E) f F.c ar := ⟨rfl, rfl, ⟨_, _, lk, rfl, T.hd⟩, T.fl, T.ks, T.kc, T.ka, T.top, T.no, T.op⟩
  have fin : ∀ {τ : L2.St} {G : Hp} {v : V} {u : Value} {z : Shared}, Inv (ncx CX0 P w K mg base N F f A outer s H E) [] τ G z → L2.RelV v u → Q v G → CE outer P w H s Q u z :=
    fun J rv q => ⟨_, _, J.os, J.bare, J.base, J.hok, rv, q⟩
  obtain ⟨t, ht, hq⟩ := hbody A outer s H vs Q E (hr.deeper _) hsp
  refine ks_codeAny_funcAt (body := F.body) (env := envF F f s.heap.objs.size) ?_
  rw [hbd]
  refine ks_wpAt_execs_cons (ks_wpAt_mono (sup_stmt (X := ncx CX0 P w K mg base N F f A outer s H E) (i := i) (j := j) EB TM T.ox I hi s1 hj s2 ha T.su T.sb T.mr (he _) (hint _) (hsw _)) (fun fl s' hs => ?_) fun e s' hx => hx)
  obtain ⟨rfl, J⟩ := hs
  refine _root_.PySem.wpAt_of_wpAny (wpAny_mono (ht.run [] s' _ H _ J hq) (fun fl z hz => ?_) fun e s' hx => hx)
  cases fl with
  | ret u =>
    obtain ⟨v5, τ5, G5, J5, r5, q5⟩ := hz
    exact fin J5 r5 q5
  | next =>
    obtain ⟨τ5, G5, J5, q5⟩ := hz
    exact fin (v := V.non) (u := Value.none) J5 rfl q5
  | brk =>
    obtain ⟨_, _, _, q5⟩ := hz
    exact q5.elim
  | cont =>
    obtain ⟨_, _, _, q5⟩ := hz
    exact q5.elim
end
section
variable {X : Cx} {B newId initId : String} {bmB : List Value}
theorem ErC.has {K : PySem.W.Frag} {C : Addr} (T : ErC K C newId bmB) : PySem.W.hasDictIn K C = true ∧ (PySem.W.clsIn K C).isSome = true := by
  obtain ⟨nm, q, N, bs, bm, sn, sub, ab, col, dd, k0, k1, k2, k3, k5, hC, hbm⟩ := T.cls
  have hcl : PySem.W.clsIn K C = some { name := nm, bases := bs, mro := .ref C :: bm, ns := N, qualname := q, hasDict := true, slotNames := sn, subclasses := sub, abstract := ab, collection := col, hasDel := false } := by unfold PySem.W.clsIn; rw [hC] <;> rfl
  exact ⟨by unfold PySem.W.hasDictIn; rw [hcl] <;> rfl, by rw [hcl] <;> rfl⟩
/-! ### C(..): an own error as a value -/
def tMkV (C : Addr) (sp : Sp) (dvs : List V) (ta : TA) : TE := fun σ H Q => ta σ H fun vs H1 => vs.length ≤ 1000 ∧ ∀ a, H1 a = none → sp (.ref a :: (vs ++ dvs)) (upd H1 a (exo a C none)) (fun v H2 => v = .non ∧ Q (.ref a) H2) (fun _ _ _ => False)
theorem run_mkE {CX : CXT} {C fI : Addr} {k : Nat} {fd : FuncData} {ps : List Str} {sp : Sp} {ds : List Value} {dvs vs : List V} {us : List Value} {pins : List (Addr × Obj)} {σ : L2.St} {H1 : Hp} {s1 : Shared} {Q : VK} (E : ErB B newId initId bmB) (T : ErC X.K C newId bmB)
    (iC : PySem.W.findIn X.K (.ref C) "__init__" = some (some (.ref fI))) (tI : PySem.W.typeIn X.K (.ref fI) = some (.type "function")) (F1 : FnOk X.prog X.w X.K X.mg X.base CX k fI fd ps sp) (hr : Room (k + 1) X.A) (hb : Binds X.K fd ps ds) (hd : Vals dvs ds)
    (hx : Passes CX X (fun _ _ _ => False)) (I1 : Inv X pins σ H1 s1) (r1 : Vals vs us) (hz : vs.length ≤ 1000) (q1 : ∀ a, H1 a = none → sp (.ref a :: (vs ++ dvs)) (upd H1 a (exo a C none)) (fun v H2 => v = .non ∧ Q (.ref a) H2) (fun _ _ _ => False)) :
    wpAny (model X.prog X.w) X.A (call (.ref C) us) (EP X pins σ Q) X.xe s1 := by
  obtain ⟨nm, q, N, bs, bm, sn, sub, ab, col, dd, k0, k1, k2, k3, k5, hC, hbm⟩ := T.cls
  obtain ⟨hp, g, dr, tk, os⟩ := s1
  have hsz : hp.objs.size ≤ hp.objs.size + 1 := Nat.le_succ _
  have hq := q1 (hp.objs.size + 1) (I1.hok.fresh hsz)
  have kk : ∀ b o, hp.get? b = some o → ((hp.push (PySem.W.kdv_tup us)).push (PySem.HandSPX.excO C hp.objs.size)).get? b = some o := fun b o e => Heap.get?_push_of_some _ (Heap.get?_push_of_some _ e)
  have hget : ((hp.push (PySem.W.kdv_tup us)).push (PySem.HandSPX.excO C hp.objs.size)).get? (hp.objs.size + 1) = some (PySem.HandSPX.excO C hp.objs.size) := by heap_get
  have I2 : Inv X pins σ (upd H1 (hp.objs.size + 1) (exo (hp.objs.size + 1) C none)) ⟨(hp.push (PySem.W.kdv_tup us)).push (PySem.HandSPX.excO C hp.objs.size), g, dr, tk, os⟩ :=
    I1.laid (t' := tk) kk hsz (exo_ok hget)
  have r2 : Vals (V.ref (hp.objs.size + 1) :: (vs ++ dvs)) (Value.ref (hp.objs.size + 1) :: (us ++ ds)) := .cons rfl (r1.append hd)
  have hl : (Value.ref (hp.objs.size + 1) :: us ++ ds).length = ps.length := r2.length.symm.trans (F1.len _ _ _ _ hq)
  have hus : us.length ≤ sizeLine := by
    rw [← Paired.length r1, sizeLine_eq]
    omega
  refine wpAny_call (PySem.HandSPX.call_own E.fb (fun Y => PySem.W.excTail_contains Y bm hbm) (I1.kIn _ _ hC) (PySem.W.looks_findIn I1.kIn iC) (fun self => PySem.W.bind_fn I1.kIn self tI) hus
    (codeAny_mono (F1.run _ X.stack _ _ ⟨Value.ref (hp.objs.size + 1) :: us, []⟩ (Value.ref (hp.objs.size + 1) :: (us ++ ds)) _ _ (fun _ _ _ => False) (hr.make C us []) (I2.env0.make C us []) (hb _ (Value.ref (hp.objs.size + 1) :: us) I2.kIn hl) r2 hq) fun r s' hq' => ?_))
  match r, hq' with
  | .error er, hq' => exact hx pins σ _ _ er s' I2 hq'
  | .ok (.ret u), hq' =>
    obtain ⟨v, H2, J, rv, ev, q2⟩ := I2.after hq'
    subst ev
    exact ⟨rv, .ref (hp.objs.size + 1), H2, J, rfl, q2⟩
  | .ok .next, hq' => exact False.elim hq'
  | .ok .brk, hq' => exact False.elim hq'
  | .ok .cont, hq' => exact False.elim hq'
variable {CX : CXT} {x : Str} {C fI : Addr} {k : Nat} {fd : FuncData} {ps : List Str} {sp : Sp} {ds : List Value} {dvs : List V} {e : Expr} {es : List Expr} {ta : TA} {te : TE} {p pos : Pos}
theorem pe_mkE (E : ErB B newId initId bmB) (T : ErC X.K C newId bmB) (iC : PySem.W.findIn X.K (.ref C) "__init__" = some (some (.ref fI))) (tI : PySem.W.typeIn X.K (.ref fI) = some (.type "function"))
    (F1 : FnOk X.prog X.w X.K X.mg X.base CX k fI fd ps sp) (hr : Room (k + 1) X.A) (hb : Binds X.K fd ps ds) (hd : Vals dvs ds) (hx : Passes CX X (fun _ _ _ => False)) (hg : Gl X x) (hm : X.mg x = some (.ref C)) (ha : PA X (e :: es) ta)
    (hdb : (x == ("__debug__" : Str)) = false := by decide) (he : starEach (e :: es) X.env = (false, eval e X.env) :: starEach es X.env := by rfl) (hpl : (backTo pos (starEach es X.env)).any (·.1) = false := by rfl) :
    PE X (.Call (.Name x p) (e :: es) [] pos) (tMkV C sp dvs ta) := by
  refine ⟨fun pins s σ H Q I h => ?_⟩
  refine wpAny_Call_Name_kw (ld_glob I hg hm ?_ hdb)
  refine PySem.W.callWith_K (h₀ := X.base) I.ok.mod.kin T.kp (thn (ha.run pos pins s σ H _ I h) fun us s1 ⟨vs, H1, I1, r1, hz, q1⟩ => ⟨I1.kIn, ?_⟩) he hpl
  exact run_mkE E T iC tI F1 hr hb hd hx I1 r1 hz q1
theorem pe_mkE0 (E : ErB B newId initId bmB) (T : ErC X.K C newId bmB) (iC : PySem.W.findIn X.K (.ref C) "__init__" = some (some (.ref fI))) (tI : PySem.W.typeIn X.K (.ref fI) = some (.type "function"))
    (F1 : FnOk X.prog X.w X.K X.mg X.base CX k fI fd ps sp) (hr : Room (k + 1) X.A) (hb : Binds X.K fd ps ds) (hd : Vals dvs ds) (hx : Passes CX X (fun _ _ _ => False)) (hg : Gl X x) (hm : X.mg x = some (.ref C))
    (hdb : (x == ("__debug__" : Str)) = false := by decide) : PE X (.Call (.Name x p) [] [] pos) (tMkV C sp dvs tNil) := by
  refine ⟨fun pins s σ H Q I h => ?_⟩
  refine wpAny_Call_Name_kw (ld_glob I hg hm ?_ hdb)
  exact PySem.W.callWith_K0 I.kIn T.kp (run_mkE (us := []) E T iC tI F1 hr hb hd hx I .nil h.1 h.2)
/-! ### e.f of such a value -/
def tXo (K : PySem.W.Frag) (f : Str) (te : TE) : TE := fun σ H Q => te σ H fun x H1 => ∃ (a C d : Addr) (nw : String) (bm : List Value) (fs : List (Str × V)) (v : V), x = .ref a ∧ H1 a = some (exo a C (some d)) ∧ H1 d = some (exd d fs) ∧ fs.lookup f = some v ∧
  PySem.W.findIn K (.ref C) f = some none ∧ ErC K C nw bm ∧ Q v H1
theorem inst_exo {pins : List (Addr × Obj)} {σ : L2.St} {H : Hp} {s : Shared} {a C d : Addr} {fs : List (Str × V)} (I : Inv X pins σ H s) (ea : H a = some (exo a C (some d))) (ed : H d = some (exd d fs)) :
    ∃ (ox od : Obj) (mA : Str → Option Value), PySem.W.InstAt s.heap a ox C (some od) ∧ (∀ n, PySem.W.lookIn n od = some (mA n)) ∧ ∀ f, RelO (fs.lookup f) (mA f) := by
  obtain ⟨t1, ho⟩ := exo_at I.hok ea
  obtain ⟨mA, hns, rel⟩ := exd_at I.hok ed
  obtain ⟨od, hod, hl⟩ := lookIn_ns hns
  exact ⟨_, od, mA, ⟨ho, rfl, rfl, hod⟩, hl, rel⟩
theorem pe_xo {n : Str} (he : PE X e te) (hb : attributeBase e n X.env (eval e X.env) = eval e X.env := by rfl) : PE X (.Attribute e n pos) (tXo X.K n te) := by
  refine ⟨fun pins s σ H Q I h => ?_⟩
  refine attr_of hb (thn (he.run pins s σ H _ I h) fun u s1 hh => ?_)
  obtain ⟨x, H1, I1, rx, a, C, d, nw, bm, fs, v, ex, ea, ed, l, hno, T, q⟩ := hh
  subst ex
  obtain rfl : u = Value.ref a := rx
  obtain ⟨ox, od, mA, J, hl, rel⟩ := inst_exo I1 ea ed
  obtain ⟨u, hu, ru⟩ := RelO.some_of (v := v) (o := mA n) (l ▸ rel n)
  exact HandSPX.exc_get I1.kIn J T.ga T.gt T.ex (PySem.W.findObj_own T.has.1 hno rfl ((hl n).trans (congrArg some hu))) (handed_of ru) ⟨v, H1, I1.tok _, ru, q⟩
/-! ### isinstance of such a value -/
def rIsO (K : PySem.W.Frag) : List V → Hp → VK → Prop := fun xs H Q => ∃ (a C d : Addr) (nw : String) (bm : List Value) (fs : List (Str × V)) (c : V) (cv : Value) (b : Bool), xs = [.ref a, c] ∧ H a = some (exo a C (some d)) ∧ H d = some (exd d fs) ∧ ErC K C nw bm ∧ ClsV c cv ∧
  PySem.W.kitOne K (.ref C) cv = some b ∧ Q (.bl b) H
theorem call_isO (hn : PySem.W.specialIn X.K (.builtin "object.__class__") "__get__" = some (some (.builtin "getset_descriptor.__get__"))) (ht : PySem.W.takesIn X.K (.builtin "object.__class__") = some true) : CallR X (.builtin "isinstance") (rIsO X.K) := by
  intro pins s σ H xs us Q I r h
  obtain ⟨a, C, d, nw, bm, fs, c, cv, b, rfl, ea, ed, T, hc, e, q⟩ := h
  obtain ⟨u1, u2, rfl, r1, r2⟩ := vals2 r
  have e2 := hc.eq r2
  subst e2
  cases (show u1 = Value.ref a from r1)
  obtain ⟨ox, od, mA, J, _, _⟩ := inst_exo I ea ed
  exact PySem.W.kia_one (PySem.W.kitx_exc T.has.2 T.ga T.gt T.ex T.cl hn ht T.ob) I.kIn J e (fun z => nomatch z) fun tk => ⟨.bl b, H, I.tok tk, rfl, q⟩
end
/-! ### an own error made -/
/-- what __init__ leaves: the object at a with its dict at d -/
def Made (H H' : Hp) (a C d : Addr) (fs : List (Str × V)) : Prop := H d = none ∧ d ≠ a ∧ H' a = some (exo a C (some d)) ∧ H' d = some (exd d fs) ∧ ∀ b o, b ≠ a → H b = some o → H' b = some o
def spIni (C : Addr) (n : Nat) (fs : List V → List (Str × V)) : Sp := fun vs H Q _ => ∃ (a : Addr) (ws : List V), vs = .ref a :: ws ∧ ws.length = n ∧ H a = some (exo a C none) ∧ ∀ d H', Made H H' a C d (fs ws) → Q .non H'
abbrev NFI (st : Stmt) (qual : Str) (cc c : Addr) : NF := ⟨"__init__", qual, defArgs st, defBody st, defScope st, [(("__class__" : Str), cc)], c⟩
theorem made1 {H : Hp} {a C d : Addr} {f : Str} {y : V} (ha : H a = some (exo a C none)) (hd : H d = none) (ne : d ≠ a) : Made H (upd (upd H d (exd d [(f, y)])) a (exo a C (some d))) a C d [(f, y)] :=
  ⟨hd, ne, upd_same, (upd_ne ne).trans upd_same, fun b o hb e => (upd_ne hb).trans ((upd_ne (ne_of_none e hd)).trans e)⟩
theorem made2 {H H' : Hp} {a C d : Addr} {f : Str} {y : V} {fs : List (Str × V)} (m : Made H H' a C d fs) : Made H (upd H' d (exd d ((f, y) :: fs))) a C d ((f, y) :: fs) :=
  ⟨m.1, m.2.1, (upd_ne m.2.1.symm).trans m.2.2.1, upd_same, fun b o hb e => (upd_ne (ne_of_none e m.1)).trans (m.2.2.2.2 b o hb e)⟩
/-- the value x is an error of the class at C with the fields fs -/
def IsE (H : Hp) (C : Addr) (fs : List (Str × V)) (x : V) : Prop := ∃ a d : Addr, x = .ref a ∧ H a = some (exo a C (some d)) ∧ H d = some (exd d fs)
theorem IsE.same {H H' : Hp} {C : Addr} {fs : List (Str × V)} {x : V} (h : IsE H C fs x) (s : Same H H') : IsE H' C fs x := by
  obtain ⟨a, d, rfl, ea, ed⟩ := h
  exact ⟨a, d, rfl, s _ _ ea, s _ _ ed⟩
theorem mkv_use {H1 : Hp} {Q : VK} {C : Addr} {n : Nat} {fs : List V → List (Str × V)} {vs : List V} (hn : vs.length = n) (h0 : n ≤ 1000) (h : ∀ x H', Same H1 H' → IsE H' C (fs vs) x → Q x H') :
    vs.length ≤ 1000 ∧ ∀ a, H1 a = none → spIni C n fs (.ref a :: (vs ++ [])) (upd H1 a (exo a C none)) (fun v H2 => v = .non ∧ Q (.ref a) H2) (fun _ _ _ => False) := by
  refine ⟨by omega, fun a ha => ?_⟩
  rw [List.append_nil]
  refine ⟨a, vs, rfl, hn, upd_same, fun d H2 m => ⟨rfl, h _ _ (fun b o e => ?_) ⟨a, d, rfl, m.2.2.1, m.2.2.2.1⟩⟩⟩
  exact m.2.2.2.2 b o (ne_of_none e ha) ((upd_ne (ne_of_none e ha)).trans e)
/-- the class nm, an own error over B: its mro behind itself is pre and then bmB -/
structure Er (P : Program) (K : PySem.W.Frag) (mg : Str → Option Value) (B newId initId : String) (bmB pre : List Value) (st : Stmt) (nm qual : Str) where
  C : Addr
  f : Addr
  cc : Addr
  c : Addr
  ar : Arg
  doc : Value
  pm : Value
  ctv : Value
  T : IniM P K mg B newId initId bmB f C (NFI st qual cc c) ar doc pm ctv
  iC : PySem.W.findIn K (.ref C) "__init__" = some (some (.ref f))
  tI : PySem.W.typeIn K (.ref f) = some (.type "function")
  g : mg nm = some (.ref C)
  har : ar.arg = "self"
  lk : ∃ q N bs sn sub ab col dd k0 k1 k2 k3 k5, K.lookup C = some (excClassObj nm q C N bs (pre ++ bmB) true sn sub ab col dd k0 k1 k2 k3 k5 newId)
section
variable {base : Heap} {K : PySem.W.Frag} {mg : Str → Option Value} {P : Program} {w : World} {B newId initId : String} {bmB pre : List Value} {st : Stmt} {nm qual : Str}
theorem ok_ini1 {fl pn wd m : Str} {p0 p1 p2 p3 p4 p5 q0 q1 q2 q3 r0 r1 r2 r3 : Pos} {n1 n2 : Nat} {pl : Addr → Sem Bool} (EB : ErB B newId initId bmB) (T : Er P K mg B newId initId bmB pre st nm qual) (S : NScope ["self", pn, "__class__"] ["self", pn] ["__class__"] (defScope st))
    (hbd : defBody st = [.Expr (.Call (.Attribute (.Call (.Name "super" p0) [] [] p1) "__init__" p2) [.Constant (.str m) n1 p3] [] p4) p5, .Assign [.Attribute (.Name "self" q0) "word" q1] (.Constant (.str wd) n2 q2) q3, .Assign [.Attribute (.Name "self" r0) fl r1] (.Name pn r2) r3])
    (e1 : PySem.W.findIn K (.ref T.C) "word" = some none) (e2 : PySem.W.findIn K (.ref T.C) fl = some none) (hn1 : (pn == ("__debug__" : Str)) = false := by decide) (hn2 : (pn == ("__classdict__" : Str)) = false := by decide)
    (he : ∀ L, eval (.Call (.Attribute (.Call (.Name "super" p0) [] [] p1) "__init__" p2) [.Constant (.str m) n1 p3] [] p4) (envF (NFI st qual T.cc T.c) T.f L) = (do
      let ov ← attributeBase (.Call (.Name "super" p0) [] [] p1) "__init__" (envF (NFI st qual T.cc T.c) T.f L) (eval (.Call (.Name "super" p0) [] [] p1) (envF (NFI st qual T.cc T.c) T.f L))
      standAt p2.atName
      let (g, first) ← holding [ov] (getMethod ov "__init__" (pl L))
      callWith p4 g first (backTo p4 (starEach [.Constant (.str m) n1 p3] (envF (NFI st qual T.cc T.c) T.f L))) []) := by intro _; rfl)
    (hint : ∀ L, interactive (envF (NFI st qual T.cc T.c) T.f L) = false := by intro _; rfl)
    (hsw : ∀ L, swapsWith (.Call (.Attribute (.Call (.Name "super" p0) [] [] p1) "__init__" p2) [.Constant (.str m) n1 p3] [] p4) none p5.line (envF (NFI st qual T.cc T.c) T.f L) = pure false := by intro _; rfl)
    (hs1 : ∀ L, swapsWith (.Constant (.str wd) n2 q2) (some (.Attribute (.Name "self" q0) "word" q1)) q3.line (envF (NFI st qual T.cc T.c) T.f L) = pure false := by intro _; rfl)
    (hs2 : ∀ L, swapsWith (.Name pn r2) (some (.Attribute (.Name "self" r0) fl r1)) r3.line (envF (NFI st qual T.cc T.c) T.f L) = pure false := by intro _; rfl) :
    FnOk P w K mg base CX0 1 T.f ((NFI st qual T.cc T.c).fd T.doc T.pm T.ctv) ["self", pn] (spIni T.C 1 fun ws => [(fl, ws.getD 0 .non), ("word", .str wd)]) := by
  refine init_fn (i := 0) (j := 2) (N := ["self", pn, "__class__"]) EB T.T S (fun vs H Q E h => ?_) (by rw [T.har]; rfl) rfl hbd (fun vs H Q E h => ?_) (fun A outer s H vs Q E hr h => ?_) he hint hsw
  · obtain ⟨a, ws, rfl, hn, _⟩ := h
    show ws.length + 1 = 2
    omega
  · obtain ⟨a, ws, rfl, hn, ha, _⟩ := h
    match ws, hn with
    | [v], _ => exact ⟨a, rfl, rfl, ha⟩
  · obtain ⟨a, ws, rfl, hn, ha, q⟩ := h
    match ws, hn, q with
    | [v], _, q =>
      refine ⟨_, pss_cons (ps_gst EB (pe_var (i := 0) rfl (Or.inl (S.par _ (by simp)))) pe_str (hs1 _)) (pss_one (ps_gst EB (pe_var (i := 0) rfl (Or.inl (S.par _ (by simp)))) (pe_var (i := 1) rfl (Or.inl (S.par _ (by simp))) hn1 hn2) (hs2 _))), ?_⟩
      refine ⟨_, rfl, a, T.C, rfl, T.T.ox, e1, .inl ⟨ha, fun d hd ne => ?_⟩⟩
      have m1 := made1 (f := "word") (y := .str wd) ha hd ne
      exact ⟨_, rfl, _, rfl, a, T.C, rfl, T.T.ox, e2, .inr ⟨d, _, m1.2.2.1, m1.2.2.2.1, by simp, q d _ (made2 m1)⟩⟩
theorem ok_ini0 {wd m : Str} {p0 p1 p2 p3 p4 p5 q0 q1 q2 q3 : Pos} {n1 n2 : Nat} {pl : Addr → Sem Bool} (EB : ErB B newId initId bmB) (T : Er P K mg B newId initId bmB pre st nm qual) (S : NScope ["self", "__class__"] ["self"] ["__class__"] (defScope st))
    (hbd : defBody st = [.Expr (.Call (.Attribute (.Call (.Name "super" p0) [] [] p1) "__init__" p2) [.Constant (.str m) n1 p3] [] p4) p5, .Assign [.Attribute (.Name "self" q0) "word" q1] (.Constant (.str wd) n2 q2) q3])
    (e1 : PySem.W.findIn K (.ref T.C) "word" = some none)
    (he : ∀ L, eval (.Call (.Attribute (.Call (.Name "super" p0) [] [] p1) "__init__" p2) [.Constant (.str m) n1 p3] [] p4) (envF (NFI st qual T.cc T.c) T.f L) = (do
      let ov ← attributeBase (.Call (.Name "super" p0) [] [] p1) "__init__" (envF (NFI st qual T.cc T.c) T.f L) (eval (.Call (.Name "super" p0) [] [] p1) (envF (NFI st qual T.cc T.c) T.f L))
      standAt p2.atName
      let (g, first) ← holding [ov] (getMethod ov "__init__" (pl L))
      callWith p4 g first (backTo p4 (starEach [.Constant (.str m) n1 p3] (envF (NFI st qual T.cc T.c) T.f L))) []) := by intro _; rfl)
    (hint : ∀ L, interactive (envF (NFI st qual T.cc T.c) T.f L) = false := by intro _; rfl)
    (hsw : ∀ L, swapsWith (.Call (.Attribute (.Call (.Name "super" p0) [] [] p1) "__init__" p2) [.Constant (.str m) n1 p3] [] p4) none p5.line (envF (NFI st qual T.cc T.c) T.f L) = pure false := by intro _; rfl)
    (hs1 : ∀ L, swapsWith (.Constant (.str wd) n2 q2) (some (.Attribute (.Name "self" q0) "word" q1)) q3.line (envF (NFI st qual T.cc T.c) T.f L) = pure false := by intro _; rfl) :
    FnOk P w K mg base CX0 1 T.f ((NFI st qual T.cc T.c).fd T.doc T.pm T.ctv) ["self"] (spIni T.C 0 fun _ => [("word", .str wd)]) := by
  refine init_fn (i := 0) (j := 1) (N := ["self", "__class__"]) EB T.T S (fun vs H Q E h => ?_) (by rw [T.har]; rfl) rfl hbd (fun vs H Q E h => ?_) (fun A outer s H vs Q E hr h => ?_) he hint hsw
  · obtain ⟨a, ws, rfl, hn, _⟩ := h
    show ws.length + 1 = 1
    omega
  · obtain ⟨a, ws, rfl, hn, ha, _⟩ := h
    match ws, hn with
    | [], _ => exact ⟨a, rfl, rfl, ha⟩
  · obtain ⟨a, ws, rfl, hn, ha, q⟩ := h
    match ws, hn, q with
    | [], _, q =>
      refine ⟨_, pss_one (ps_gst EB (pe_var (i := 0) rfl (Or.inl (S.par _ (by simp)))) pe_str (hs1 _)), ?_⟩
      refine ⟨_, rfl, a, T.C, rfl, T.T.ox, e1, .inl ⟨ha, fun d hd ne => ?_⟩⟩
      exact q d _ (made1 (f := "word") (y := .str wd) ha hd ne)
/-! ### isinstance between own errors -/
theorem Er.cl (T : Er P K mg B newId initId bmB pre st nm qual) : ∃ cd : ClassData, PySem.W.clsIn K T.C = some cd ∧ cd.name = nm ∧ cd.mro = .ref T.C :: (pre ++ bmB) := by
  obtain ⟨q, N, bs, sn, sub, ab, col, dd, k0, k1, k2, k3, k5, h⟩ := T.lk
  exact ⟨{ name := nm, bases := bs, mro := .ref T.C :: (pre ++ bmB), ns := N, qualname := q, hasDict := true, slotNames := sn, subclasses := sub, abstract := ab, collection := col, hasDel := false }, by unfold PySem.W.clsIn; rw [h] <;> rfl, rfl, rfl⟩
theorem kit_ref {C D : Addr} {l : List Value} {cd cd' : ClassData} (hC : PySem.W.clsIn K C = some cd) (hm : cd.mro = .ref C :: l) (hD : PySem.W.clsIn K D = some cd') (hT : PySem.W.typeIn K (.ref D) = some (.type "type")) :
    PySem.W.kitOne K (.ref C) (.ref D) = some ((Value.ref C :: l).contains (.ref D)) := by
  unfold PySem.W.kitOne
  split
  · rename_i h
    rw [List.contains_cons, show (Value.ref D == Value.ref C) = true by rw [eq_of_beq h]; exact beq_self_eq_true _]
    rfl
  · unfold PySem.W.kitCls
    dsimp only
    rw [hD, hT, if_pos (show ((some cd').isSome && some (Value.type "type") == some (Value.type "type")) = true from show (true && some (Value.type "type") == some (Value.type "type")) = true by decide +kernel)]
    show PySem.W.mroIn K C (.ref D) = _
    unfold PySem.W.mroIn
    rw [hC, Option.bind_some, hm]
    rfl
theorem kit_typ {C : Addr} {T : String} {l : List Value} {cd : ClassData} (hC : PySem.W.clsIn K C = some cd) (hm : cd.mro = .ref C :: l) (hT : PySem.W.kitMeta T = true) :
    PySem.W.kitOne K (.ref C) (.type T) = some ((Value.ref C :: l).contains (.type T)) := by
  unfold PySem.W.kitOne
  rw [if_neg (by intro h; cases eq_of_beq h)]
  unfold PySem.W.kitCls
  dsimp only
  rw [if_pos hT]
  show PySem.W.mroIn K C (.type T) = _
  unfold PySem.W.mroIn
  rw [hC, Option.bind_some, hm]
  rfl
theorem cls_ne {C D : Addr} {c d : ClassData} (hC : PySem.W.clsIn K C = some c) (hD : PySem.W.clsIn K D = some d) (hn : c.name ≠ d.name) : C ≠ D := by
  intro e
  subst e
  rw [hC] at hD
  cases hD
  exact hn rfl
end
section
variable {P : Program} {K : PySem.W.Frag} {h : Heap} {mg : Str → Option Value} {B newId initId : String} {bmB pre : List Value} {st : Stmt} {nm qual : Str}
theorem mro_at {C : Addr} {q : Str} {N : Addr} {bs : List Value} {sn : List Str} {sub : List Value} {ab : Bool} {col : Option Bool} {dd : Option Addr} {k0 k1 k2 k3 k5 : Option Value} (lC : K.lookup C = some (excClassObj nm q C N bs (pre ++ bmB) true sn sub ab col dd k0 k1 k2 k3 k5 newId)) (v : Value) :
    PySem.W.mroIn K C v = some ((Value.ref C :: (pre ++ bmB)).contains v) := by
  have hcl : PySem.W.clsIn K C = some { name := nm, bases := bs, mro := .ref C :: (pre ++ bmB), ns := N, qualname := q, hasDict := true, slotNames := sn, subclasses := sub, abstract := ab, collection := col, hasDel := false } := by unfold PySem.W.clsIn; rw [lC] <;> rfl
  unfold PySem.W.mroIn
  rw [hcl, Option.bind_some]
  rfl
theorem mro_ty {C : Addr} {X : String} (ht : PySem.W.excTail bmB (pre ++ bmB) = true) (hx : bmB.contains (.type X) = true) : (Value.ref C :: (pre ++ bmB)).contains (.type X) = true := by
  rw [List.contains_cons, PySem.W.excTail_contains X _ ht, hx, Bool.or_true]
theorem ov_at {C : Addr} {q : Str} {N : Addr} {bs : List Value} {sn : List Str} {sub : List Value} {ab : Bool} {col : Option Bool} {dd : Option Addr} {k0 k1 k2 k3 k5 : Option Value} (lC : K.lookup C = some (excClassObj nm q C N bs (pre ++ bmB) true sn sub ab col dd k0 k1 k2 k3 k5 newId)) (ht : PySem.W.excTail bmB (pre ++ bmB) = true) : PySem.W.excOver K C bmB = true := by
  have hcl : PySem.W.clsIn K C = some { name := nm, bases := bs, mro := .ref C :: (pre ++ bmB), ns := N, qualname := q, hasDict := true, slotNames := sn, subclasses := sub, abstract := ab, collection := col, hasDel := false } := by unfold PySem.W.clsIn; rw [lC] <;> rfl
  unfold PySem.W.excOver
  rw [hcl]
  show (C == C && PySem.W.excTail bmB (pre ++ bmB)) = true
  rw [beq_self_eq_true, ht]
  rfl
@[reducible] def er_mk (X : K.In h) (G : h.Ns mainGlobals mg) {C f c cc : Addr} {od cld cdd : Option Addr} {sl csl ccs : Array (Option Value)} {doc pm ctv clc ccl : Value} {vs : Array Value} {file : Str} {tf : Tok} {ar : Arg}
    {q : Str} {N : Addr} {bs : List Value} {sn : List Str} {sub : List Value} {ab : Bool} {col : Option Bool} {dd : Option Addr} {k0 k1 k2 k3 k5 : Option Value}
    (op : PySem.W.nsIn K cStatics "thirdparty.any" = some none) (no : PySem.W.nsIn K mainGlobals "super" = some none)
    (h1 : bmB.contains (.type "BaseException") = true) (h2 : bmB.contains (.type B) = true) (h3 : bmB.contains (.type "object") = true)
    (ht : PySem.W.excTail bmB (pre ++ bmB) = true)
    (hh : ((defArgs st).posonlyargs ++ (defArgs st).args).head? = some ar) (har : ar.arg = "self")
    (ks : (defScope st).names.lookup ("super" : Str) = some .globalImplicit) (kc : (defScope st).names.lookup ("__class__" : Str) = some .free) (ka : (defScope st).names.lookup ar.arg = some .local)
    (top : (P.main.scope.names.lookup ("super" : Str)).isSome = false)
    (aC : PySem.W.nsIn K mainGlobals nm = some (some (.ref C)))
    (lC : K.lookup C = some (excClassObj nm q C N bs (pre ++ bmB) true sn sub ab col dd k0 k1 k2 k3 k5 newId))
    (aI : PySem.W.findIn K (.ref C) "__init__" = some (some (.ref f)))
    (lI : K.lookup f = some ⟨.type "function", od, .func (PySem.W.fnX "__init__" qual (defArgs st) (defBody st) (defScope st) [(("__class__" : Str), cc)] .none .none doc pm none (.ref c) ctv), sl⟩)
    (cI : PySem.W.codeIn K (.ref c) qual = true)
    (lc : K.lookup cc = some ⟨clc, cld, .cell (some (.ref C)), csl⟩)
    (lco : K.lookup c = some ⟨ccl, cdd, .fields vs, ccs⟩)
    (sa : PySem.W.findIn K (.ref C) "__setattr__" = some (some (.builtin "object.__setattr__")))
    (ga : PySem.W.findIn K (.ref C) "__getattribute__" = some (some (.builtin "BaseException.__getattribute__")))
    (gt : PySem.W.findIn K (.ref C) "__getattr__" = some none)
    (kp : PySem.W.keepIn K (.ref C) = true)
    (cl : PySem.W.findIn K (.ref C) "__class__" = some (some (.builtin "object.__class__")))
    (su : PySem.W.ks_superIn K C C "__init__" = some (some (.builtin initId)))
    (hvs : vs[2]? = some (.str file tf)) (hfile : ((P.main.file : Str) == file) = true) : Er P K mg B newId initId bmB pre st nm qual where
  C := C
  f := f
  cc := cc
  c := c
  ar := ar
  doc := doc
  pm := pm
  ctv := ctv
  T := {
    lk := ⟨od, sl, lI⟩
    cd := cI
    cl := ⟨cc, _, rfl, lc, rfl⟩
    hd := hh
    fl := ⟨_, vs, file, tf, lco, rfl, hvs, hfile⟩
    ks := ks
    kc := kc
    ka := ka
    top := top
    no := PySem.W.mg_none_of X G no
    op := op
    ox := {
      cls := ⟨nm, q, N, bs, pre ++ bmB, sn, sub, ab, col, dd, k0, k1, k2, k3, k5, lC, ht⟩
      ov := ov_at lC ht
      sa := sa
      ga := ga
      gt := gt
      ex := (mro_at lC _).trans (congrArg some (mro_ty ht h1))
      ty := congrArg (Option.map fun o : Obj => o.cls) lC
      kp := kp
      cl := cl
      ob := (mro_at lC _).trans (congrArg some (mro_ty ht h3)) }
    su := su
    sb := (mro_at lC _).trans (congrArg some (mro_ty ht h2))
    mr := (mro_at lC _).trans (by rw [List.contains_cons, beq_self_eq_true, Bool.true_or]) }
  iC := aI
  tI := congrArg (Option.map fun o : Obj => o.cls) lI
  g := PySem.W.mg_of X G aC
  har := har
  lk := ⟨q, N, bs, sn, sub, ab, col, dd, k0, k1, k2, k3, k5, lC⟩
/-- an own error and the fields that its class lacks -/
structure ErW (P : Program) (K : PySem.W.Frag) (mg : Str → Option Value) (B newId initId : String) (bmB pre : List Value) (st : Stmt) (nm qual : Str) (fl : List Str) where
  e : Er P K mg B newId initId bmB pre st nm qual
  no : ∀ x ∈ fl, PySem.W.findIn K (.ref e.C) x = some none
def erw1 (X : K.In h) (G : h.Ns mainGlobals mg) {C f c cc : Addr} {od cld cdd : Option Addr} {sl csl ccs : Array (Option Value)} {doc pm ctv clc ccl : Value} {vs : Array Value} {file : Str} {tf : Tok} {ar : Arg}
    {q : Str} {N : Addr} {bs : List Value} {sn : List Str} {sub : List Value} {ab : Bool} {col : Option Bool} {dd : Option Addr} {k0 k1 k2 k3 k5 : Option Value}
    (op : PySem.W.nsIn K cStatics "thirdparty.any" = some none) (no : PySem.W.nsIn K mainGlobals "super" = some none)
    (h1 : bmB.contains (.type "BaseException") = true) (h2 : bmB.contains (.type B) = true) (h3 : bmB.contains (.type "object") = true)
    (ht : PySem.W.excTail bmB (pre ++ bmB) = true)
    (hh : ((defArgs st).posonlyargs ++ (defArgs st).args).head? = some ar) (har : ar.arg = "self")
    (ks : (defScope st).names.lookup ("super" : Str) = some .globalImplicit) (kc : (defScope st).names.lookup ("__class__" : Str) = some .free) (ka : (defScope st).names.lookup ar.arg = some .local)
    (top : (P.main.scope.names.lookup ("super" : Str)).isSome = false)
    (aC : PySem.W.nsIn K mainGlobals nm = some (some (.ref C)))
    (lC : K.lookup C = some (excClassObj nm q C N bs (pre ++ bmB) true sn sub ab col dd k0 k1 k2 k3 k5 newId))
    (aI : PySem.W.findIn K (.ref C) "__init__" = some (some (.ref f)))
    (lI : K.lookup f = some ⟨.type "function", od, .func (PySem.W.fnX "__init__" qual (defArgs st) (defBody st) (defScope st) [(("__class__" : Str), cc)] .none .none doc pm none (.ref c) ctv), sl⟩)
    (cI : PySem.W.codeIn K (.ref c) qual = true)
    (lc : K.lookup cc = some ⟨clc, cld, .cell (some (.ref C)), csl⟩)
    (lco : K.lookup c = some ⟨ccl, cdd, .fields vs, ccs⟩)
    (sa : PySem.W.findIn K (.ref C) "__setattr__" = some (some (.builtin "object.__setattr__")))
    (ga : PySem.W.findIn K (.ref C) "__getattribute__" = some (some (.builtin "BaseException.__getattribute__")))
    (gt : PySem.W.findIn K (.ref C) "__getattr__" = some none)
    (kp : PySem.W.keepIn K (.ref C) = true)
    (cl : PySem.W.findIn K (.ref C) "__class__" = some (some (.builtin "object.__class__")))
    (su : PySem.W.ks_superIn K C C "__init__" = some (some (.builtin initId)))
    (hvs : vs[2]? = some (.str file tf)) (hfile : ((P.main.file : Str) == file) = true) {f1 : Str} (x1 : PySem.W.findIn K (.ref C) f1 = some none) : ErW P K mg B newId initId bmB pre st nm qual [f1] :=
  ⟨er_mk (C := C) X G op no h1 h2 h3 ht hh har ks kc ka top aC lC aI lI cI lc lco sa ga gt kp cl su hvs hfile, fun x hx => by
    rcases List.mem_cons.mp hx with rfl | e
    · exact x1
    · cases e⟩
def erw2 (X : K.In h) (G : h.Ns mainGlobals mg) {C f c cc : Addr} {od cld cdd : Option Addr} {sl csl ccs : Array (Option Value)} {doc pm ctv clc ccl : Value} {vs : Array Value} {file : Str} {tf : Tok} {ar : Arg}
    {q : Str} {N : Addr} {bs : List Value} {sn : List Str} {sub : List Value} {ab : Bool} {col : Option Bool} {dd : Option Addr} {k0 k1 k2 k3 k5 : Option Value}
    (op : PySem.W.nsIn K cStatics "thirdparty.any" = some none) (no : PySem.W.nsIn K mainGlobals "super" = some none)
    (h1 : bmB.contains (.type "BaseException") = true) (h2 : bmB.contains (.type B) = true) (h3 : bmB.contains (.type "object") = true)
    (ht : PySem.W.excTail bmB (pre ++ bmB) = true)
    (hh : ((defArgs st).posonlyargs ++ (defArgs st).args).head? = some ar) (har : ar.arg = "self")
    (ks : (defScope st).names.lookup ("super" : Str) = some .globalImplicit) (kc : (defScope st).names.lookup ("__class__" : Str) = some .free) (ka : (defScope st).names.lookup ar.arg = some .local)
    (top : (P.main.scope.names.lookup ("super" : Str)).isSome = false)
    (aC : PySem.W.nsIn K mainGlobals nm = some (some (.ref C)))
    (lC : K.lookup C = some (excClassObj nm q C N bs (pre ++ bmB) true sn sub ab col dd k0 k1 k2 k3 k5 newId))
    (aI : PySem.W.findIn K (.ref C) "__init__" = some (some (.ref f)))
    (lI : K.lookup f = some ⟨.type "function", od, .func (PySem.W.fnX "__init__" qual (defArgs st) (defBody st) (defScope st) [(("__class__" : Str), cc)] .none .none doc pm none (.ref c) ctv), sl⟩)
    (cI : PySem.W.codeIn K (.ref c) qual = true)
    (lc : K.lookup cc = some ⟨clc, cld, .cell (some (.ref C)), csl⟩)
    (lco : K.lookup c = some ⟨ccl, cdd, .fields vs, ccs⟩)
    (sa : PySem.W.findIn K (.ref C) "__setattr__" = some (some (.builtin "object.__setattr__")))
    (ga : PySem.W.findIn K (.ref C) "__getattribute__" = some (some (.builtin "BaseException.__getattribute__")))
    (gt : PySem.W.findIn K (.ref C) "__getattr__" = some none)
    (kp : PySem.W.keepIn K (.ref C) = true)
    (cl : PySem.W.findIn K (.ref C) "__class__" = some (some (.builtin "object.__class__")))
    (su : PySem.W.ks_superIn K C C "__init__" = some (some (.builtin initId)))
    (hvs : vs[2]? = some (.str file tf)) (hfile : ((P.main.file : Str) == file) = true) {f1 f2 : Str} (x1 : PySem.W.findIn K (.ref C) f1 = some none) (x2 : PySem.W.findIn K (.ref C) f2 = some none) : ErW P K mg B newId initId bmB pre st nm qual [f1, f2] :=
  ⟨er_mk (C := C) X G op no h1 h2 h3 ht hh har ks kc ka top aC lC aI lI cI lc lco sa ga gt kp cl su hvs hfile, fun x hx => by
    rcases List.mem_cons.mp hx with rfl | e
    · exact x1
    · rcases List.mem_cons.mp e with rfl | e
      · exact x2
      · cases e⟩
end
def topS (i : Nat) : Stmt := PySem.Challenge.pw_grainyard_k70_error_classes.main.body.getD i (.Pass ⟨0, 0, 0, 0⟩)
abbrev s_source : Stmt := topS 26
theorem sc_source : FnScope ["_law_script", "_law_mix", "_law_cell"] ["_law_script"] (defScope s_source) := ⟨rfl, rfl, rfl, by decide +kernel, rfl, by decide +kernel, by decide +kernel⟩
abbrev s_pull : Stmt := topS 27
theorem sc_pull : FnScope ["_law_bag", "_law_size", "_law_mix", "_law_cell", "_law_found"] ["_law_bag", "_law_size"] (defScope s_pull) := ⟨rfl, rfl, rfl, by decide +kernel, rfl, by decide +kernel, by decide +kernel⟩
abbrev s_of : Stmt := topS 28
theorem sc_of : FnScope ["_law_bag", "_law_some"] ["_law_bag", "_law_some"] (defScope s_of) := ⟨rfl, rfl, rfl, by decide +kernel, rfl, by decide +kernel, by decide +kernel⟩
abbrev s_a_far : Stmt := topS 29
theorem sc_a_far : FnScope ["_law_bag"] ["_law_bag"] (defScope s_a_far) := ⟨rfl, rfl, rfl, by decide +kernel, rfl, by decide +kernel, by decide +kernel⟩
abbrev s_all : Stmt := topS 30
theorem sc_all : FnScope ["_law_n", "_law_found"] ["_law_n"] (defScope s_all) := ⟨rfl, rfl, rfl, by decide +kernel, rfl, by decide +kernel, by decide +kernel⟩
abbrev s_flags : Stmt := topS 31
theorem sc_flags : FnScope ["_law_e", "_law_found"] ["_law_e"] (defScope s_flags) := ⟨rfl, rfl, rfl, by decide +kernel, rfl, by decide +kernel, by decide +kernel⟩
abbrev s_field_of : Stmt := topS 32
theorem sc_field_of : FnScope ["_law_e"] ["_law_e"] (defScope s_field_of) := ⟨rfl, rfl, rfl, by decide +kernel, rfl, by decide +kernel, by decide +kernel⟩
abbrev s_law : Stmt := topS 33
theorem sc_law : FnScope ["_law_script", "_law_bag", "_law_words", "_law_errors", "_law_plain", "_law_turn", "_law_number", "_law_first", "_law_k", "_law_e", "_law_bases", "_law_field", "_law_j"] ["_law_script"] (defScope s_law) := ⟨rfl, rfl, rfl, by decide +kernel, rfl, by decide +kernel, by decide +kernel⟩
abbrev i_BadRoot : Stmt := inClass (topS 3) 0
theorem sc_iBadRoot : NScope ["self", "number", "__class__"] ["self", "number"] ["__class__"] (defScope i_BadRoot) := nscope_by (by decide +kernel)
abbrev i_BadCount : Stmt := inClass (topS 4) 0
theorem sc_iBadCount : NScope ["self", "number", "__class__"] ["self", "number"] ["__class__"] (defScope i_BadCount) := nscope_by (by decide +kernel)
abbrev i_BadLength : Stmt := inClass (topS 5) 0
theorem sc_iBadLength : NScope ["self", "at", "__class__"] ["self", "at"] ["__class__"] (defScope i_BadLength) := nscope_by (by decide +kernel)
abbrev i_BadSheet : Stmt := inClass (topS 6) 0
theorem sc_iBadSheet : NScope ["self", "__class__"] ["self"] ["__class__"] (defScope i_BadSheet) := nscope_by (by decide +kernel)
abbrev i_BadRow : Stmt := inClass (topS 7) 0
theorem sc_iBadRow : NScope ["self", "at", "__class__"] ["self", "at"] ["__class__"] (defScope i_BadRow) := nscope_by (by decide +kernel)
abbrev i_OtherRoot : Stmt := inClass (topS 8) 0
theorem sc_iOtherRoot : NScope ["self", "__class__"] ["self"] ["__class__"] (defScope i_OtherRoot) := nscope_by (by decide +kernel)
abbrev i_BadStep : Stmt := inClass (topS 9) 0
theorem sc_iBadStep : NScope ["self", "at", "__class__"] ["self", "at"] ["__class__"] (defScope i_BadStep) := nscope_by (by decide +kernel)
abbrev i_NotLinked : Stmt := inClass (topS 10) 0
theorem sc_iNotLinked : NScope ["self", "number", "__class__"] ["self", "number"] ["__class__"] (defScope i_NotLinked) := nscope_by (by decide +kernel)
abbrev i_NotEnough : Stmt := inClass (topS 11) 0
theorem sc_iNotEnough : NScope ["self", "__class__"] ["self"] ["__class__"] (defScope i_NotEnough) := nscope_by (by decide +kernel)
abbrev i_TooGreat : Stmt := inClass (topS 12) 0
theorem sc_iTooGreat : NScope ["self", "most", "__class__"] ["self", "most"] ["__class__"] (defScope i_TooGreat) := nscope_by (by decide +kernel)
abbrev i_BadWidths : Stmt := inClass (topS 13) 0
theorem sc_iBadWidths : NScope ["self", "__class__"] ["self"] ["__class__"] (defScope i_BadWidths) := nscope_by (by decide +kernel)
abbrev i_NoSquares : Stmt := inClass (topS 14) 0
theorem sc_iNoSquares : NScope ["self", "reason", "__class__"] ["self", "reason"] ["__class__"] (defScope i_NoSquares) := nscope_by (by decide +kernel)
abbrev i_BadForm : Stmt := inClass (topS 15) 0
theorem sc_iBadForm : NScope ["self", "__class__"] ["self"] ["__class__"] (defScope i_BadForm) := nscope_by (by decide +kernel)
abbrev i_BadText : Stmt := inClass (topS 16) 0
theorem sc_iBadText : NScope ["self", "at", "__class__"] ["self", "at"] ["__class__"] (defScope i_BadText) := nscope_by (by decide +kernel)
abbrev i_BadName : Stmt := inClass (topS 17) 0
theorem sc_iBadName : NScope ["self", "name", "__class__"] ["self", "name"] ["__class__"] (defScope i_BadName) := nscope_by (by decide +kernel)
abbrev i_Taken : Stmt := inClass (topS 18) 0
theorem sc_iTaken : NScope ["self", "name", "__class__"] ["self", "name"] ["__class__"] (defScope i_Taken) := nscope_by (by decide +kernel)
abbrev i_Full : Stmt := inClass (topS 19) 0
theorem sc_iFull : NScope ["self", "most", "__class__"] ["self", "most"] ["__class__"] (defScope i_Full) := nscope_by (by decide +kernel)
abbrev i_BadDeed : Stmt := inClass (topS 20) 0
theorem sc_iBadDeed : NScope ["self", "at", "__class__"] ["self", "at"] ["__class__"] (defScope i_BadDeed) := nscope_by (by decide +kernel)
abbrev i_NoSheet : Stmt := inClass (topS 21) 0
theorem sc_iNoSheet : NScope ["self", "sheet", "__class__"] ["self", "sheet"] ["__class__"] (defScope i_NoSheet) := nscope_by (by decide +kernel)
abbrev i_NoName : Stmt := inClass (topS 22) 0
theorem sc_iNoName : NScope ["self", "name", "__class__"] ["self", "name"] ["__class__"] (defScope i_NoName) := nscope_by (by decide +kernel)
abbrev i_NoOrder : Stmt := inClass (topS 23) 0
theorem sc_iNoOrder : NScope ["self", "name", "__class__"] ["self", "name"] ["__class__"] (defScope i_NoOrder) := nscope_by (by decide +kernel)
abbrev i_NothingLeft : Stmt := inClass (topS 24) 0
theorem sc_iNothingLeft : NScope ["self", "__class__"] ["self"] ["__class__"] (defScope i_NothingLeft) := nscope_by (by decide +kernel)
structure Txt (K : PySem.W.Frag) (mg : Str → Option Value) where
  f_source : Addr
  d_source : FuncData
  F_source : Fun K "_law_source" "_law_source" s_source f_source d_source
  g_source : mg "_law_source" = some (.ref f_source)
  b_source : Binds K d_source ["_law_script"] []
  f_pull : Addr
  d_pull : FuncData
  F_pull : Fun K "_law_pull" "_law_pull" s_pull f_pull d_pull
  g_pull : mg "_law_pull" = some (.ref f_pull)
  b_pull : Binds K d_pull ["_law_bag", "_law_size"] []
  f_of : Addr
  d_of : FuncData
  F_of : Fun K "_law_of" "_law_of" s_of f_of d_of
  g_of : mg "_law_of" = some (.ref f_of)
  b_of : Binds K d_of ["_law_bag", "_law_some"] []
  f_a_far : Addr
  d_a_far : FuncData
  F_a_far : Fun K "_law_a_far" "_law_a_far" s_a_far f_a_far d_a_far
  g_a_far : mg "_law_a_far" = some (.ref f_a_far)
  b_a_far : Binds K d_a_far ["_law_bag"] []
  f_all : Addr
  d_all : FuncData
  F_all : Fun K "_law_all" "_law_all" s_all f_all d_all
  g_all : mg "_law_all" = some (.ref f_all)
  b_all : Binds K d_all ["_law_n"] []
  f_flags : Addr
  d_flags : FuncData
  F_flags : Fun K "_law_flags" "_law_flags" s_flags f_flags d_flags
  g_flags : mg "_law_flags" = some (.ref f_flags)
  b_flags : Binds K d_flags ["_law_e"] []
  f_field_of : Addr
  d_field_of : FuncData
  F_field_of : Fun K "_law_field_of" "_law_field_of" s_field_of f_field_of d_field_of
  g_field_of : mg "_law_field_of" = some (.ref f_field_of)
  b_field_of : Binds K d_field_of ["_law_e"] []
  n_ValueError : mg "ValueError" = none
  n_LookupError : mg "LookupError" = none
  n_IndexError : mg "IndexError" = none
  n_range : mg "range" = none
  n_list : mg "list" = none
  n_isinstance : mg "isinstance" = none
  n_len : mg "len" = none
  r_GrainError : Addr
  g_GrainError : mg "GrainError" = some (.ref r_GrainError)
  c_GrainError : ∃ cd : ClassData, PySem.W.clsIn K r_GrainError = some cd ∧ cd.name = "GrainError"
  t_GrainError : PySem.W.typeIn K (.ref r_GrainError) = some (.type "type")
  sb_GrainError : PySem.W.subIn K (.ref r_GrainError) (.type "BaseException") = some true
  r_GrainMissing : Addr
  g_GrainMissing : mg "GrainMissing" = some (.ref r_GrainMissing)
  c_GrainMissing : ∃ cd : ClassData, PySem.W.clsIn K r_GrainMissing = some cd ∧ cd.name = "GrainMissing"
  t_GrainMissing : PySem.W.typeIn K (.ref r_GrainMissing) = some (.type "type")
  sb_GrainMissing : PySem.W.subIn K (.ref r_GrainMissing) (.type "BaseException") = some true
  e_BadRoot : Er PySem.Challenge.pw_grainyard_k70_error_classes K mg "ValueError" "ValueError.__new__" "ValueError.__init__" [.type "ValueError", .type "Exception", .type "BaseException", .type "object"] [.ref r_GrainError] i_BadRoot "BadRoot" "BadRoot.__init__"
  x_BadRoot_word : PySem.W.findIn K (.ref e_BadRoot.C) "word" = some none
  x_BadRoot_number : PySem.W.findIn K (.ref e_BadRoot.C) "number" = some none
  e_BadCount : Er PySem.Challenge.pw_grainyard_k70_error_classes K mg "ValueError" "ValueError.__new__" "ValueError.__init__" [.type "ValueError", .type "Exception", .type "BaseException", .type "object"] [.ref r_GrainError] i_BadCount "BadCount" "BadCount.__init__"
  x_BadCount_word : PySem.W.findIn K (.ref e_BadCount.C) "word" = some none
  x_BadCount_number : PySem.W.findIn K (.ref e_BadCount.C) "number" = some none
  e_BadLength : Er PySem.Challenge.pw_grainyard_k70_error_classes K mg "ValueError" "ValueError.__new__" "ValueError.__init__" [.type "ValueError", .type "Exception", .type "BaseException", .type "object"] [.ref r_GrainError] i_BadLength "BadLength" "BadLength.__init__"
  x_BadLength_word : PySem.W.findIn K (.ref e_BadLength.C) "word" = some none
  x_BadLength_at : PySem.W.findIn K (.ref e_BadLength.C) "at" = some none
  e_BadSheet : Er PySem.Challenge.pw_grainyard_k70_error_classes K mg "ValueError" "ValueError.__new__" "ValueError.__init__" [.type "ValueError", .type "Exception", .type "BaseException", .type "object"] [.ref r_GrainError] i_BadSheet "BadSheet" "BadSheet.__init__"
  x_BadSheet_word : PySem.W.findIn K (.ref e_BadSheet.C) "word" = some none
  e_BadRow : Er PySem.Challenge.pw_grainyard_k70_error_classes K mg "ValueError" "ValueError.__new__" "ValueError.__init__" [.type "ValueError", .type "Exception", .type "BaseException", .type "object"] [.ref r_GrainError] i_BadRow "BadRow" "BadRow.__init__"
  x_BadRow_word : PySem.W.findIn K (.ref e_BadRow.C) "word" = some none
  x_BadRow_at : PySem.W.findIn K (.ref e_BadRow.C) "at" = some none
  e_OtherRoot : Er PySem.Challenge.pw_grainyard_k70_error_classes K mg "ValueError" "ValueError.__new__" "ValueError.__init__" [.type "ValueError", .type "Exception", .type "BaseException", .type "object"] [.ref r_GrainError] i_OtherRoot "OtherRoot" "OtherRoot.__init__"
  x_OtherRoot_word : PySem.W.findIn K (.ref e_OtherRoot.C) "word" = some none
  e_BadStep : Er PySem.Challenge.pw_grainyard_k70_error_classes K mg "ValueError" "ValueError.__new__" "ValueError.__init__" [.type "ValueError", .type "Exception", .type "BaseException", .type "object"] [.ref r_GrainError] i_BadStep "BadStep" "BadStep.__init__"
  x_BadStep_word : PySem.W.findIn K (.ref e_BadStep.C) "word" = some none
  x_BadStep_at : PySem.W.findIn K (.ref e_BadStep.C) "at" = some none
  e_NotLinked : Er PySem.Challenge.pw_grainyard_k70_error_classes K mg "ValueError" "ValueError.__new__" "ValueError.__init__" [.type "ValueError", .type "Exception", .type "BaseException", .type "object"] [.ref r_GrainError] i_NotLinked "NotLinked" "NotLinked.__init__"
  x_NotLinked_word : PySem.W.findIn K (.ref e_NotLinked.C) "word" = some none
  x_NotLinked_number : PySem.W.findIn K (.ref e_NotLinked.C) "number" = some none
  e_NotEnough : Er PySem.Challenge.pw_grainyard_k70_error_classes K mg "ValueError" "ValueError.__new__" "ValueError.__init__" [.type "ValueError", .type "Exception", .type "BaseException", .type "object"] [.ref r_GrainError] i_NotEnough "NotEnough" "NotEnough.__init__"
  x_NotEnough_word : PySem.W.findIn K (.ref e_NotEnough.C) "word" = some none
  e_TooGreat : Er PySem.Challenge.pw_grainyard_k70_error_classes K mg "ValueError" "ValueError.__new__" "ValueError.__init__" [.type "ValueError", .type "Exception", .type "BaseException", .type "object"] [.ref r_GrainError] i_TooGreat "TooGreat" "TooGreat.__init__"
  x_TooGreat_word : PySem.W.findIn K (.ref e_TooGreat.C) "word" = some none
  x_TooGreat_most : PySem.W.findIn K (.ref e_TooGreat.C) "most" = some none
  e_BadWidths : Er PySem.Challenge.pw_grainyard_k70_error_classes K mg "ValueError" "ValueError.__new__" "ValueError.__init__" [.type "ValueError", .type "Exception", .type "BaseException", .type "object"] [.ref r_GrainError] i_BadWidths "BadWidths" "BadWidths.__init__"
  x_BadWidths_word : PySem.W.findIn K (.ref e_BadWidths.C) "word" = some none
  e_NoSquares : Er PySem.Challenge.pw_grainyard_k70_error_classes K mg "ValueError" "ValueError.__new__" "ValueError.__init__" [.type "ValueError", .type "Exception", .type "BaseException", .type "object"] [.ref r_GrainError] i_NoSquares "NoSquares" "NoSquares.__init__"
  x_NoSquares_word : PySem.W.findIn K (.ref e_NoSquares.C) "word" = some none
  x_NoSquares_reason : PySem.W.findIn K (.ref e_NoSquares.C) "reason" = some none
  e_BadForm : Er PySem.Challenge.pw_grainyard_k70_error_classes K mg "ValueError" "ValueError.__new__" "ValueError.__init__" [.type "ValueError", .type "Exception", .type "BaseException", .type "object"] [.ref r_GrainError] i_BadForm "BadForm" "BadForm.__init__"
  x_BadForm_word : PySem.W.findIn K (.ref e_BadForm.C) "word" = some none
  e_BadText : Er PySem.Challenge.pw_grainyard_k70_error_classes K mg "ValueError" "ValueError.__new__" "ValueError.__init__" [.type "ValueError", .type "Exception", .type "BaseException", .type "object"] [.ref r_GrainError] i_BadText "BadText" "BadText.__init__"
  x_BadText_word : PySem.W.findIn K (.ref e_BadText.C) "word" = some none
  x_BadText_at : PySem.W.findIn K (.ref e_BadText.C) "at" = some none
  e_BadName : Er PySem.Challenge.pw_grainyard_k70_error_classes K mg "ValueError" "ValueError.__new__" "ValueError.__init__" [.type "ValueError", .type "Exception", .type "BaseException", .type "object"] [.ref r_GrainError] i_BadName "BadName" "BadName.__init__"
  x_BadName_word : PySem.W.findIn K (.ref e_BadName.C) "word" = some none
  x_BadName_name : PySem.W.findIn K (.ref e_BadName.C) "name" = some none
  e_Taken : Er PySem.Challenge.pw_grainyard_k70_error_classes K mg "ValueError" "ValueError.__new__" "ValueError.__init__" [.type "ValueError", .type "Exception", .type "BaseException", .type "object"] [.ref r_GrainError] i_Taken "Taken" "Taken.__init__"
  x_Taken_word : PySem.W.findIn K (.ref e_Taken.C) "word" = some none
  x_Taken_name : PySem.W.findIn K (.ref e_Taken.C) "name" = some none
  e_Full : Er PySem.Challenge.pw_grainyard_k70_error_classes K mg "ValueError" "ValueError.__new__" "ValueError.__init__" [.type "ValueError", .type "Exception", .type "BaseException", .type "object"] [.ref r_GrainError] i_Full "Full" "Full.__init__"
  x_Full_word : PySem.W.findIn K (.ref e_Full.C) "word" = some none
  x_Full_most : PySem.W.findIn K (.ref e_Full.C) "most" = some none
  e_BadDeed : Er PySem.Challenge.pw_grainyard_k70_error_classes K mg "ValueError" "ValueError.__new__" "ValueError.__init__" [.type "ValueError", .type "Exception", .type "BaseException", .type "object"] [.ref r_GrainError] i_BadDeed "BadDeed" "BadDeed.__init__"
  x_BadDeed_word : PySem.W.findIn K (.ref e_BadDeed.C) "word" = some none
  x_BadDeed_at : PySem.W.findIn K (.ref e_BadDeed.C) "at" = some none
  e_NoSheet : Er PySem.Challenge.pw_grainyard_k70_error_classes K mg "LookupError" "LookupError.__new__" "LookupError.__init__" [.type "LookupError", .type "Exception", .type "BaseException", .type "object"] [.ref r_GrainMissing] i_NoSheet "NoSheet" "NoSheet.__init__"
  x_NoSheet_word : PySem.W.findIn K (.ref e_NoSheet.C) "word" = some none
  x_NoSheet_sheet : PySem.W.findIn K (.ref e_NoSheet.C) "sheet" = some none
  e_NoName : Er PySem.Challenge.pw_grainyard_k70_error_classes K mg "LookupError" "LookupError.__new__" "LookupError.__init__" [.type "LookupError", .type "Exception", .type "BaseException", .type "object"] [.ref r_GrainMissing] i_NoName "NoName" "NoName.__init__"
  x_NoName_word : PySem.W.findIn K (.ref e_NoName.C) "word" = some none
  x_NoName_name : PySem.W.findIn K (.ref e_NoName.C) "name" = some none
  e_NoOrder : Er PySem.Challenge.pw_grainyard_k70_error_classes K mg "LookupError" "LookupError.__new__" "LookupError.__init__" [.type "LookupError", .type "Exception", .type "BaseException", .type "object"] [.ref r_GrainMissing] i_NoOrder "NoOrder" "NoOrder.__init__"
  x_NoOrder_word : PySem.W.findIn K (.ref e_NoOrder.C) "word" = some none
  x_NoOrder_name : PySem.W.findIn K (.ref e_NoOrder.C) "name" = some none
  e_NothingLeft : Er PySem.Challenge.pw_grainyard_k70_error_classes K mg "IndexError" "IndexError.__new__" "IndexError.__init__" [.type "IndexError", .type "LookupError", .type "Exception", .type "BaseException", .type "object"] [] i_NothingLeft "NothingLeft" "NothingLeft.__init__"
  x_NothingLeft_word : PySem.W.findIn K (.ref e_NothingLeft.C) "word" = some none
  hn : PySem.W.specialIn K (.builtin "object.__class__") "__get__" = some (some (.builtin "getset_descriptor.__get__"))
  ht : PySem.W.takesIn K (.builtin "object.__class__") = some true
section
variable {base : Heap} {K : PySem.W.Frag} {mg : Str → Option Value} {w : World}
theorem ini_BadRoot (T : Txt K mg) : FnOk PySem.Challenge.pw_grainyard_k70_error_classes w K mg base CX0 1 T.e_BadRoot.f ((NFI i_BadRoot "BadRoot.__init__" T.e_BadRoot.cc T.e_BadRoot.c).fd T.e_BadRoot.doc T.e_BadRoot.pm T.e_BadRoot.ctv) ["self", "number"] (spIni T.e_BadRoot.C 1 fun ws => [("number", ws.getD 0 .non), ("word", .str "BadRoot")]) := ok_ini1 erb_VE T.e_BadRoot sc_iBadRoot rfl T.x_BadRoot_word T.x_BadRoot_number
theorem bi_BadRoot (T : Txt K mg) : Binds K ((NFI i_BadRoot "BadRoot.__init__" T.e_BadRoot.cc T.e_BadRoot.c).fd T.e_BadRoot.doc T.e_BadRoot.pm T.e_BadRoot.ctv) ["self", "number"] [] := .all fun us hl => match us, hl with | [_, _], _ => rfl
theorem ini_BadCount (T : Txt K mg) : FnOk PySem.Challenge.pw_grainyard_k70_error_classes w K mg base CX0 1 T.e_BadCount.f ((NFI i_BadCount "BadCount.__init__" T.e_BadCount.cc T.e_BadCount.c).fd T.e_BadCount.doc T.e_BadCount.pm T.e_BadCount.ctv) ["self", "number"] (spIni T.e_BadCount.C 1 fun ws => [("number", ws.getD 0 .non), ("word", .str "BadCount")]) := ok_ini1 erb_VE T.e_BadCount sc_iBadCount rfl T.x_BadCount_word T.x_BadCount_number
theorem bi_BadCount (T : Txt K mg) : Binds K ((NFI i_BadCount "BadCount.__init__" T.e_BadCount.cc T.e_BadCount.c).fd T.e_BadCount.doc T.e_BadCount.pm T.e_BadCount.ctv) ["self", "number"] [] := .all fun us hl => match us, hl with | [_, _], _ => rfl
theorem ini_BadLength (T : Txt K mg) : FnOk PySem.Challenge.pw_grainyard_k70_error_classes w K mg base CX0 1 T.e_BadLength.f ((NFI i_BadLength "BadLength.__init__" T.e_BadLength.cc T.e_BadLength.c).fd T.e_BadLength.doc T.e_BadLength.pm T.e_BadLength.ctv) ["self", "at"] (spIni T.e_BadLength.C 1 fun ws => [("at", ws.getD 0 .non), ("word", .str "BadLength")]) := ok_ini1 erb_VE T.e_BadLength sc_iBadLength rfl T.x_BadLength_word T.x_BadLength_at
theorem bi_BadLength (T : Txt K mg) : Binds K ((NFI i_BadLength "BadLength.__init__" T.e_BadLength.cc T.e_BadLength.c).fd T.e_BadLength.doc T.e_BadLength.pm T.e_BadLength.ctv) ["self", "at"] [] := .all fun us hl => match us, hl with | [_, _], _ => rfl
theorem ini_BadSheet (T : Txt K mg) : FnOk PySem.Challenge.pw_grainyard_k70_error_classes w K mg base CX0 1 T.e_BadSheet.f ((NFI i_BadSheet "BadSheet.__init__" T.e_BadSheet.cc T.e_BadSheet.c).fd T.e_BadSheet.doc T.e_BadSheet.pm T.e_BadSheet.ctv) ["self"] (spIni T.e_BadSheet.C 0 fun _ => [("word", .str "BadSheet")]) := ok_ini0 erb_VE T.e_BadSheet sc_iBadSheet rfl T.x_BadSheet_word
theorem bi_BadSheet (T : Txt K mg) : Binds K ((NFI i_BadSheet "BadSheet.__init__" T.e_BadSheet.cc T.e_BadSheet.c).fd T.e_BadSheet.doc T.e_BadSheet.pm T.e_BadSheet.ctv) ["self"] [] := .all fun us hl => match us, hl with | [_], _ => rfl
theorem ini_BadRow (T : Txt K mg) : FnOk PySem.Challenge.pw_grainyard_k70_error_classes w K mg base CX0 1 T.e_BadRow.f ((NFI i_BadRow "BadRow.__init__" T.e_BadRow.cc T.e_BadRow.c).fd T.e_BadRow.doc T.e_BadRow.pm T.e_BadRow.ctv) ["self", "at"] (spIni T.e_BadRow.C 1 fun ws => [("at", ws.getD 0 .non), ("word", .str "BadRow")]) := ok_ini1 erb_VE T.e_BadRow sc_iBadRow rfl T.x_BadRow_word T.x_BadRow_at
theorem bi_BadRow (T : Txt K mg) : Binds K ((NFI i_BadRow "BadRow.__init__" T.e_BadRow.cc T.e_BadRow.c).fd T.e_BadRow.doc T.e_BadRow.pm T.e_BadRow.ctv) ["self", "at"] [] := .all fun us hl => match us, hl with | [_, _], _ => rfl
theorem ini_OtherRoot (T : Txt K mg) : FnOk PySem.Challenge.pw_grainyard_k70_error_classes w K mg base CX0 1 T.e_OtherRoot.f ((NFI i_OtherRoot "OtherRoot.__init__" T.e_OtherRoot.cc T.e_OtherRoot.c).fd T.e_OtherRoot.doc T.e_OtherRoot.pm T.e_OtherRoot.ctv) ["self"] (spIni T.e_OtherRoot.C 0 fun _ => [("word", .str "OtherRoot")]) := ok_ini0 erb_VE T.e_OtherRoot sc_iOtherRoot rfl T.x_OtherRoot_word
theorem bi_OtherRoot (T : Txt K mg) : Binds K ((NFI i_OtherRoot "OtherRoot.__init__" T.e_OtherRoot.cc T.e_OtherRoot.c).fd T.e_OtherRoot.doc T.e_OtherRoot.pm T.e_OtherRoot.ctv) ["self"] [] := .all fun us hl => match us, hl with | [_], _ => rfl
theorem ini_BadStep (T : Txt K mg) : FnOk PySem.Challenge.pw_grainyard_k70_error_classes w K mg base CX0 1 T.e_BadStep.f ((NFI i_BadStep "BadStep.__init__" T.e_BadStep.cc T.e_BadStep.c).fd T.e_BadStep.doc T.e_BadStep.pm T.e_BadStep.ctv) ["self", "at"] (spIni T.e_BadStep.C 1 fun ws => [("at", ws.getD 0 .non), ("word", .str "BadStep")]) := ok_ini1 erb_VE T.e_BadStep sc_iBadStep rfl T.x_BadStep_word T.x_BadStep_at
theorem bi_BadStep (T : Txt K mg) : Binds K ((NFI i_BadStep "BadStep.__init__" T.e_BadStep.cc T.e_BadStep.c).fd T.e_BadStep.doc T.e_BadStep.pm T.e_BadStep.ctv) ["self", "at"] [] := .all fun us hl => match us, hl with | [_, _], _ => rfl
theorem ini_NotLinked (T : Txt K mg) : FnOk PySem.Challenge.pw_grainyard_k70_error_classes w K mg base CX0 1 T.e_NotLinked.f ((NFI i_NotLinked "NotLinked.__init__" T.e_NotLinked.cc T.e_NotLinked.c).fd T.e_NotLinked.doc T.e_NotLinked.pm T.e_NotLinked.ctv) ["self", "number"] (spIni T.e_NotLinked.C 1 fun ws => [("number", ws.getD 0 .non), ("word", .str "NotLinked")]) := ok_ini1 erb_VE T.e_NotLinked sc_iNotLinked rfl T.x_NotLinked_word T.x_NotLinked_number
theorem bi_NotLinked (T : Txt K mg) : Binds K ((NFI i_NotLinked "NotLinked.__init__" T.e_NotLinked.cc T.e_NotLinked.c).fd T.e_NotLinked.doc T.e_NotLinked.pm T.e_NotLinked.ctv) ["self", "number"] [] := .all fun us hl => match us, hl with | [_, _], _ => rfl
theorem ini_NotEnough (T : Txt K mg) : FnOk PySem.Challenge.pw_grainyard_k70_error_classes w K mg base CX0 1 T.e_NotEnough.f ((NFI i_NotEnough "NotEnough.__init__" T.e_NotEnough.cc T.e_NotEnough.c).fd T.e_NotEnough.doc T.e_NotEnough.pm T.e_NotEnough.ctv) ["self"] (spIni T.e_NotEnough.C 0 fun _ => [("word", .str "NotEnough")]) := ok_ini0 erb_VE T.e_NotEnough sc_iNotEnough rfl T.x_NotEnough_word
theorem bi_NotEnough (T : Txt K mg) : Binds K ((NFI i_NotEnough "NotEnough.__init__" T.e_NotEnough.cc T.e_NotEnough.c).fd T.e_NotEnough.doc T.e_NotEnough.pm T.e_NotEnough.ctv) ["self"] [] := .all fun us hl => match us, hl with | [_], _ => rfl
theorem ini_TooGreat (T : Txt K mg) : FnOk PySem.Challenge.pw_grainyard_k70_error_classes w K mg base CX0 1 T.e_TooGreat.f ((NFI i_TooGreat "TooGreat.__init__" T.e_TooGreat.cc T.e_TooGreat.c).fd T.e_TooGreat.doc T.e_TooGreat.pm T.e_TooGreat.ctv) ["self", "most"] (spIni T.e_TooGreat.C 1 fun ws => [("most", ws.getD 0 .non), ("word", .str "TooGreat")]) := ok_ini1 erb_VE T.e_TooGreat sc_iTooGreat rfl T.x_TooGreat_word T.x_TooGreat_most
theorem bi_TooGreat (T : Txt K mg) : Binds K ((NFI i_TooGreat "TooGreat.__init__" T.e_TooGreat.cc T.e_TooGreat.c).fd T.e_TooGreat.doc T.e_TooGreat.pm T.e_TooGreat.ctv) ["self", "most"] [] := .all fun us hl => match us, hl with | [_, _], _ => rfl
theorem ini_BadWidths (T : Txt K mg) : FnOk PySem.Challenge.pw_grainyard_k70_error_classes w K mg base CX0 1 T.e_BadWidths.f ((NFI i_BadWidths "BadWidths.__init__" T.e_BadWidths.cc T.e_BadWidths.c).fd T.e_BadWidths.doc T.e_BadWidths.pm T.e_BadWidths.ctv) ["self"] (spIni T.e_BadWidths.C 0 fun _ => [("word", .str "BadWidths")]) := ok_ini0 erb_VE T.e_BadWidths sc_iBadWidths rfl T.x_BadWidths_word
theorem bi_BadWidths (T : Txt K mg) : Binds K ((NFI i_BadWidths "BadWidths.__init__" T.e_BadWidths.cc T.e_BadWidths.c).fd T.e_BadWidths.doc T.e_BadWidths.pm T.e_BadWidths.ctv) ["self"] [] := .all fun us hl => match us, hl with | [_], _ => rfl
theorem ini_NoSquares (T : Txt K mg) : FnOk PySem.Challenge.pw_grainyard_k70_error_classes w K mg base CX0 1 T.e_NoSquares.f ((NFI i_NoSquares "NoSquares.__init__" T.e_NoSquares.cc T.e_NoSquares.c).fd T.e_NoSquares.doc T.e_NoSquares.pm T.e_NoSquares.ctv) ["self", "reason"] (spIni T.e_NoSquares.C 1 fun ws => [("reason", ws.getD 0 .non), ("word", .str "NoSquares")]) := ok_ini1 erb_VE T.e_NoSquares sc_iNoSquares rfl T.x_NoSquares_word T.x_NoSquares_reason
theorem bi_NoSquares (T : Txt K mg) : Binds K ((NFI i_NoSquares "NoSquares.__init__" T.e_NoSquares.cc T.e_NoSquares.c).fd T.e_NoSquares.doc T.e_NoSquares.pm T.e_NoSquares.ctv) ["self", "reason"] [] := .all fun us hl => match us, hl with | [_, _], _ => rfl
theorem ini_BadForm (T : Txt K mg) : FnOk PySem.Challenge.pw_grainyard_k70_error_classes w K mg base CX0 1 T.e_BadForm.f ((NFI i_BadForm "BadForm.__init__" T.e_BadForm.cc T.e_BadForm.c).fd T.e_BadForm.doc T.e_BadForm.pm T.e_BadForm.ctv) ["self"] (spIni T.e_BadForm.C 0 fun _ => [("word", .str "BadForm")]) := ok_ini0 erb_VE T.e_BadForm sc_iBadForm rfl T.x_BadForm_word
theorem bi_BadForm (T : Txt K mg) : Binds K ((NFI i_BadForm "BadForm.__init__" T.e_BadForm.cc T.e_BadForm.c).fd T.e_BadForm.doc T.e_BadForm.pm T.e_BadForm.ctv) ["self"] [] := .all fun us hl => match us, hl with | [_], _ => rfl
theorem ini_BadText (T : Txt K mg) : FnOk PySem.Challenge.pw_grainyard_k70_error_classes w K mg base CX0 1 T.e_BadText.f ((NFI i_BadText "BadText.__init__" T.e_BadText.cc T.e_BadText.c).fd T.e_BadText.doc T.e_BadText.pm T.e_BadText.ctv) ["self", "at"] (spIni T.e_BadText.C 1 fun ws => [("at", ws.getD 0 .non), ("word", .str "BadText")]) := ok_ini1 erb_VE T.e_BadText sc_iBadText rfl T.x_BadText_word T.x_BadText_at
theorem bi_BadText (T : Txt K mg) : Binds K ((NFI i_BadText "BadText.__init__" T.e_BadText.cc T.e_BadText.c).fd T.e_BadText.doc T.e_BadText.pm T.e_BadText.ctv) ["self", "at"] [] := .all fun us hl => match us, hl with | [_, _], _ => rfl
theorem ini_BadName (T : Txt K mg) : FnOk PySem.Challenge.pw_grainyard_k70_error_classes w K mg base CX0 1 T.e_BadName.f ((NFI i_BadName "BadName.__init__" T.e_BadName.cc T.e_BadName.c).fd T.e_BadName.doc T.e_BadName.pm T.e_BadName.ctv) ["self", "name"] (spIni T.e_BadName.C 1 fun ws => [("name", ws.getD 0 .non), ("word", .str "BadName")]) := ok_ini1 erb_VE T.e_BadName sc_iBadName rfl T.x_BadName_word T.x_BadName_name
theorem bi_BadName (T : Txt K mg) : Binds K ((NFI i_BadName "BadName.__init__" T.e_BadName.cc T.e_BadName.c).fd T.e_BadName.doc T.e_BadName.pm T.e_BadName.ctv) ["self", "name"] [] := .all fun us hl => match us, hl with | [_, _], _ => rfl
theorem ini_Taken (T : Txt K mg) : FnOk PySem.Challenge.pw_grainyard_k70_error_classes w K mg base CX0 1 T.e_Taken.f ((NFI i_Taken "Taken.__init__" T.e_Taken.cc T.e_Taken.c).fd T.e_Taken.doc T.e_Taken.pm T.e_Taken.ctv) ["self", "name"] (spIni T.e_Taken.C 1 fun ws => [("name", ws.getD 0 .non), ("word", .str "Taken")]) := ok_ini1 erb_VE T.e_Taken sc_iTaken rfl T.x_Taken_word T.x_Taken_name
theorem bi_Taken (T : Txt K mg) : Binds K ((NFI i_Taken "Taken.__init__" T.e_Taken.cc T.e_Taken.c).fd T.e_Taken.doc T.e_Taken.pm T.e_Taken.ctv) ["self", "name"] [] := .all fun us hl => match us, hl with | [_, _], _ => rfl
theorem ini_Full (T : Txt K mg) : FnOk PySem.Challenge.pw_grainyard_k70_error_classes w K mg base CX0 1 T.e_Full.f ((NFI i_Full "Full.__init__" T.e_Full.cc T.e_Full.c).fd T.e_Full.doc T.e_Full.pm T.e_Full.ctv) ["self", "most"] (spIni T.e_Full.C 1 fun ws => [("most", ws.getD 0 .non), ("word", .str "Full")]) := ok_ini1 erb_VE T.e_Full sc_iFull rfl T.x_Full_word T.x_Full_most
theorem bi_Full (T : Txt K mg) : Binds K ((NFI i_Full "Full.__init__" T.e_Full.cc T.e_Full.c).fd T.e_Full.doc T.e_Full.pm T.e_Full.ctv) ["self", "most"] [] := .all fun us hl => match us, hl with | [_, _], _ => rfl
theorem ini_BadDeed (T : Txt K mg) : FnOk PySem.Challenge.pw_grainyard_k70_error_classes w K mg base CX0 1 T.e_BadDeed.f ((NFI i_BadDeed "BadDeed.__init__" T.e_BadDeed.cc T.e_BadDeed.c).fd T.e_BadDeed.doc T.e_BadDeed.pm T.e_BadDeed.ctv) ["self", "at"] (spIni T.e_BadDeed.C 1 fun ws => [("at", ws.getD 0 .non), ("word", .str "BadDeed")]) := ok_ini1 erb_VE T.e_BadDeed sc_iBadDeed rfl T.x_BadDeed_word T.x_BadDeed_at
theorem bi_BadDeed (T : Txt K mg) : Binds K ((NFI i_BadDeed "BadDeed.__init__" T.e_BadDeed.cc T.e_BadDeed.c).fd T.e_BadDeed.doc T.e_BadDeed.pm T.e_BadDeed.ctv) ["self", "at"] [] := .all fun us hl => match us, hl with | [_, _], _ => rfl
theorem ini_NoSheet (T : Txt K mg) : FnOk PySem.Challenge.pw_grainyard_k70_error_classes w K mg base CX0 1 T.e_NoSheet.f ((NFI i_NoSheet "NoSheet.__init__" T.e_NoSheet.cc T.e_NoSheet.c).fd T.e_NoSheet.doc T.e_NoSheet.pm T.e_NoSheet.ctv) ["self", "sheet"] (spIni T.e_NoSheet.C 1 fun ws => [("sheet", ws.getD 0 .non), ("word", .str "NoSheet")]) := ok_ini1 erb_LE T.e_NoSheet sc_iNoSheet rfl T.x_NoSheet_word T.x_NoSheet_sheet
theorem bi_NoSheet (T : Txt K mg) : Binds K ((NFI i_NoSheet "NoSheet.__init__" T.e_NoSheet.cc T.e_NoSheet.c).fd T.e_NoSheet.doc T.e_NoSheet.pm T.e_NoSheet.ctv) ["self", "sheet"] [] := .all fun us hl => match us, hl with | [_, _], _ => rfl
theorem ini_NoName (T : Txt K mg) : FnOk PySem.Challenge.pw_grainyard_k70_error_classes w K mg base CX0 1 T.e_NoName.f ((NFI i_NoName "NoName.__init__" T.e_NoName.cc T.e_NoName.c).fd T.e_NoName.doc T.e_NoName.pm T.e_NoName.ctv) ["self", "name"] (spIni T.e_NoName.C 1 fun ws => [("name", ws.getD 0 .non), ("word", .str "NoName")]) := ok_ini1 erb_LE T.e_NoName sc_iNoName rfl T.x_NoName_word T.x_NoName_name
theorem bi_NoName (T : Txt K mg) : Binds K ((NFI i_NoName "NoName.__init__" T.e_NoName.cc T.e_NoName.c).fd T.e_NoName.doc T.e_NoName.pm T.e_NoName.ctv) ["self", "name"] [] := .all fun us hl => match us, hl with | [_, _], _ => rfl
theorem ini_NoOrder (T : Txt K mg) : FnOk PySem.Challenge.pw_grainyard_k70_error_classes w K mg base CX0 1 T.e_NoOrder.f ((NFI i_NoOrder "NoOrder.__init__" T.e_NoOrder.cc T.e_NoOrder.c).fd T.e_NoOrder.doc T.e_NoOrder.pm T.e_NoOrder.ctv) ["self", "name"] (spIni T.e_NoOrder.C 1 fun ws => [("name", ws.getD 0 .non), ("word", .str "NoOrder")]) := ok_ini1 erb_LE T.e_NoOrder sc_iNoOrder rfl T.x_NoOrder_word T.x_NoOrder_name
theorem bi_NoOrder (T : Txt K mg) : Binds K ((NFI i_NoOrder "NoOrder.__init__" T.e_NoOrder.cc T.e_NoOrder.c).fd T.e_NoOrder.doc T.e_NoOrder.pm T.e_NoOrder.ctv) ["self", "name"] [] := .all fun us hl => match us, hl with | [_, _], _ => rfl
theorem ini_NothingLeft (T : Txt K mg) : FnOk PySem.Challenge.pw_grainyard_k70_error_classes w K mg base CX0 1 T.e_NothingLeft.f ((NFI i_NothingLeft "NothingLeft.__init__" T.e_NothingLeft.cc T.e_NothingLeft.c).fd T.e_NothingLeft.doc T.e_NothingLeft.pm T.e_NothingLeft.ctv) ["self"] (spIni T.e_NothingLeft.C 0 fun _ => [("word", .str "NothingLeft")]) := ok_ini0 erb_IE T.e_NothingLeft sc_iNothingLeft rfl T.x_NothingLeft_word
theorem bi_NothingLeft (T : Txt K mg) : Binds K ((NFI i_NothingLeft "NothingLeft.__init__" T.e_NothingLeft.cc T.e_NothingLeft.c).fd T.e_NothingLeft.doc T.e_NothingLeft.pm T.e_NothingLeft.ctv) ["self"] [] := .all fun us hl => match us, hl with | [_], _ => rfl
end
/-! ### heaps, and the bag that the draws change -/
def Keep (b : Addr) (H H' : Hp) : Prop := ∀ a o, a ≠ b → H a = some o → H' a = some o
theorem Keep.refl {b : Addr} (H : Hp) : Keep b H H := fun _ _ _ e => e
theorem Keep.trans {b : Addr} {H H1 H2 : Hp} (x : Keep b H H1) (y : Keep b H1 H2) : Keep b H H2 := fun a o n e => y a o n (x a o n e)
theorem keep_put {b : Addr} {H : Hp} {o : HO} : Keep b H (upd H b o) := fun a u n e => (upd_ne n).trans e
theorem keep_new {b p : Addr} {H : Hp} {o : HO} (hp : H p = none) : Keep b H (upd H p o) := fun a u _ e => (upd_ne (ne_of_none e hp)).trans e
theorem same_new {p : Addr} {H : Hp} {o : HO} (hp : H p = none) : Same H (upd H p o) := fun a u e => (upd_ne (ne_of_none e hp)).trans e
theorem keep_of {b : Addr} {H H' : Hp} (s : Same H H') : Keep b H H' := fun a o _ e => s a o e
theorem Same.keep {b : Addr} {H H1 H2 : Hp} (s : Same H H1) (k : Keep b H1 H2) (hb : H b = none) : Same H H2 := fun a o e => k a o (ne_of_none e hb) (s a o e)
structure BagAt (H : Hp) (b s : Addr) (ns : List Int) (i j m c : Int) : Prop where
  hb : H b = some (.lst [.ref s, .int i, .int j, .int m, .int c])
  hs : H s = some (.lst (ns.map V.int))
  i0 : 0 ≤ i
  i1 : i ≤ (ns.length : Int)
  m0 : 0 ≤ m
  m1 : m < 2147483399
def Bag (H : Hp) (b sb : Addr) : Prop := ∃ (ns : List Int) (i j m c : Int), BagAt H b sb ns i j m c
theorem BagAt.ne {H : Hp} {b s : Addr} {ns : List Int} {i j m c : Int} (B : BagAt H b s ns i j m c) : s ≠ b := ne_of B.hs B.hb (by
  intro e
  injection e with e
  cases ns with
  | nil => simp at e
  | cons x r => simp at e)
theorem BagAt.put {H : Hp} {b s : Addr} {ns : List Int} {i j m c : Int} (B : BagAt H b s ns i j m c) {i' j' m' c' : Int} (h0 : 0 ≤ i') (h1 : i' ≤ (ns.length : Int)) (h2 : 0 ≤ m') (h3 : m' < 2147483399) :
    BagAt (upd H b (.lst [.ref s, .int i', .int j', .int m', .int c'])) b s ns i' j' m' c' := ⟨upd_same, (upd_ne B.ne).trans B.hs, h0, h1, h2, h3⟩
theorem BagAt.same {H H' : Hp} {b s : Addr} {ns : List Int} {i j m c : Int} (B : BagAt H b s ns i j m c) (e : Same H H') : BagAt H' b s ns i j m c := ⟨e _ _ B.hb, e _ _ B.hs, B.i0, B.i1, B.m0, B.m1⟩
theorem Bag.same {H H' : Hp} {b sb : Addr} (B : Bag H b sb) (e : Same H H') : Bag H' b sb := by
  obtain ⟨ns, i, j, m, c, B⟩ := B
  exact ⟨ns, i, j, m, c, B.same e⟩
theorem Bag.new {H : Hp} {b sb p : Addr} {o : HO} (B : Bag H b sb) (hp : H p = none) : Bag (upd H p o) b sb := B.same (same_new hp)
theorem Bag.ne {H : Hp} {b sb p : Addr} (B : Bag H b sb) (hp : H p = none) : p ≠ b := by
  obtain ⟨ns, i, j, m, c, B⟩ := B
  exact (ne_of_none B.hb hp).symm
theorem Bag.ne2 {H : Hp} {b sb p : Addr} (B : Bag H b sb) (hp : H p = none) : p ≠ sb := by
  obtain ⟨ns, i, j, m, c, B⟩ := B
  exact (ne_of_none B.hs hp).symm
theorem Bag.tup {H : Hp} {b sb p : Addr} {xs : List V} (B : Bag H b sb) (hp : H p = some (.tup xs)) : p ≠ b := by
  obtain ⟨ns, i, j, m, c, B⟩ := B
  exact ne_of hp B.hb (by intro z; cases z)
theorem Bag.put {H : Hp} {b sb l : Addr} {o : HO} (B : Bag H b sb) (h1 : l ≠ b) (h2 : l ≠ sb) : Bag (upd H l o) b sb := by
  obtain ⟨ns, i, j, m, c, B⟩ := B
  exact ⟨ns, i, j, m, c, (upd_ne h1.symm).trans B.hb, (upd_ne h2.symm).trans B.hs, B.i0, B.i1, B.m0, B.m1⟩
theorem Keep.list {K : PySem.W.Frag} {H H' : Hp} {b p : Addr} {xs : List V} (k : Keep b H H') (hp : p ≠ b) (h : H p = some (.lst xs)) : SqL K H' p xs := SqL.of (k _ _ hp h)
theorem at_some {α : Type} {xs : List α} {i : Int} (h0 : 0 ≤ i) (h1 : i < (xs.length : Int)) : ∃ v, xs[i.toNat]? = some v ∧ atI xs i = some v := by
  obtain ⟨n, rfl⟩ := Int.eq_ofNat_of_zero_le h0
  have hl : n < xs.length := by omega
  exact ⟨xs[n], by simp [hl], atI_nat (by simp [hl])⟩
theorem at_ex {ns : List Int} {i : Int} (h0 : 0 ≤ i) (h1 : i < (ns.length : Int)) : ∃ z, atI (ns.map V.int) i = some (.int z) := by
  obtain ⟨n, rfl⟩ := Int.eq_ofNat_of_zero_le h0
  have hl : n < ns.length := by omega
  exact ⟨ns[n], atI_nat (by simp [hl])⟩
/-! ### f(k = v, ..): keywords alone -/
section
variable {X : Cx}
theorem pe_kwOnly {CX : CXT} {k : Nat} {f : Addr} {fd : FuncData} {ps ks : List Str} {sp : Sp} {E : XK} {x : Str} {p pos : Pos} {kws : List Keyword} {tk : TA} {g : List Value → List Value → List Value} {gV : List V → List V → List V}
    (F : FnOk X.prog X.w X.K X.mg X.base CX k f fd ps sp) (hr : Room k X.A) (hg : Gl X x) (hm : X.mg x = some (.ref f))
    (hk : PySem.W.keepIn X.K (.ref f) = true) (hb : KBn X.K fd ps 0 ks g gV) (hx : Passes CX X E) (hkw : PK X kws tk)
    (hall : (backToKw pos (keywordEach kws X.env)).all (·.1.isSome) = true := by rfl)
    (hks : (backToKw pos (keywordEach kws X.env)).filterMap (·.1) = ks := by rfl)
    (hdb : (x == ("__debug__" : Str)) = false := by decide)
    (hpl : ((backTo pos (starEach [] X.env)).any (·.1) || (backToKw pos (keywordEach kws X.env)).any (·.1.isNone)) = false := by rfl) :
    PE X (.Call (.Name x p) [] kws pos) (fun σ H Q => tk σ H fun zs H2 => zs.length = ks.length ∧ sp (gV [] zs) H2 Q E) := by
  refine ⟨fun pins s σ H Q I h => wpAny_Call_Name_kw (ld_glob I hg hm ?_ hdb)⟩
  refine PySem.W.callWith_KW0 (h₀ := X.base) I.ok.mod.kin hk hall ?_ hpl
  refine thn (hkw.run pos pins s σ H _ I h) fun ws s2 ⟨zs, H2, I2, rz, l2, q2⟩ => ⟨I2.kIn, ?_⟩
  rw [hks]
  exact run_fnN (us := []) (vs := []) F hr hb hx I2 .nil rz rfl l2 q2
end
/-! ### the law's own draws -/
section
variable {base : Heap} {K : PySem.W.Frag} {mg : Str → Option Value} {P : Program} {w : World}
def spPull : Sp := fun vs H Q _ => ∃ (b sb : Addr) (n : Int), vs = [.ref b, .int n] ∧ Bag H b sb ∧ 0 < n ∧ n.natAbs < 2 ^ 100 ∧ ∀ z H', 0 ≤ z → z < n → Bag H' b sb → Keep b H H' → Q (.int z) H'
theorem ok_pull (T : Txt K mg) : FnOk P w K mg base CX0 1 T.f_pull T.d_pull ["_law_bag", "_law_size"] spPull := by
  refine T.F_pull.ok sc_pull (fun vs H Q E h => ?_) (fun cdv A outer s H vs Q E hr h => ?_)
  · obtain ⟨b, sb, n, rfl, _⟩ := h
    rfl
  · obtain ⟨b, s1, n, rfl, ⟨ns, i, j, m, c, B⟩, h0, h1, q⟩ := h
    refine ⟨_, (pss_cons (ps_asg (pe_op op_add (pe_ix ix_list (pv 0) pe_int (fun _ _ => rfl)) pe_int) (pg_sub (pv 0) pe_int set_list))
      (Evl.pss_cut (ps_if (PW.pt (pw_and (pt_cmpR op_eq (pe_ix ix_list (pv 0) pe_int (fun _ _ => rfl)) pe_int (nomark _)) (pw_and1 (pt_cmpR op_lt (pe_ix ix_list (pv 0) pe_int (fun _ _ => rfl)) (pe_callB call_len_seq (by rfl) T.n_len (by decide +kernel) (pa_cons (pe_ix ix_list (pv 0) pe_int (fun _ _ => rfl)) pa_nil)) (nomark _))))) (pss_cons (ps_set (i := 3) sc_pull.nd rfl (Or.inl rfl) (pe_ix ix_list (pe_ix ix_list (pv 0) pe_int (fun _ _ => rfl)) (pe_ix ix_list (pv 0) pe_int (fun _ _ => rfl)) (fun _ _ => rfl)))
      (pss_cons (ps_asg (pe_op op_add (pe_ix ix_list (pv 0) pe_int (fun _ _ => rfl)) pe_int) (pg_sub (pv 0) pe_int set_list))
      (pss_one (ps_if (pt_cmpR op_ge (pv 3) (pe_op op_pow pe_int pe_int) (nomark _)) (pss_one (ps_asg (pv 3) (pg_sub (pv 0) pe_int set_list))) (pss_cons (ps_set (i := 2) sc_pull.nd rfl (Or.inl rfl) (pe_op op_add (pe_op op_mul (pe_ix ix_list (pv 0) pe_int (fun _ _ => rfl)) pe_int) (pe_op op_mul (pe_op op_mod (pv 3) pe_int) pe_int)))
      (pss_one (ps_asg (pe_op op_mod (pe_op op_add (pv 2) pe_int) pe_int) (pg_sub (pv 0) pe_int set_list)))))))) pss_nil)
      (pss_cons (ps_if (pt_cmpR op_gt (pe_ix ix_list (pv 0) pe_int (fun _ _ => rfl)) pe_int (nomark _)) (pss_cons (ps_set (i := 4) sc_pull.nd rfl (Or.inl rfl) (pe_op op_mod (pe_ix ix_list (pv 0) pe_int (fun _ _ => rfl)) (pv 1)))
      (pss_cons (ps_asg (pe_op op_fdivW (pe_ix ix_list (pv 0) pe_int (fun _ _ => rfl)) (pv 1)) (pg_sub (pv 0) pe_int set_list))
      (pss_one (ps_ret (pv 4))))) pss_nil)
      (pss_cons (ps_set (i := 2) sc_pull.nd rfl (Or.inl rfl) (pe_op op_add (pe_op op_mul (pe_op op_mul (pe_ix ix_list (pv 0) pe_int (fun _ _ => rfl)) (pe_ix ix_list (pv 0) pe_int (fun _ _ => rfl))) pe_int) (pe_op op_mul (pe_ix ix_list (pv 0) pe_int (fun _ _ => rfl)) pe_int)))
      (pss_cons (ps_asg (pe_op op_mod (pe_op op_add (pv 2) (pe_op op_mul pe_int (pe_ix ix_list (pv 0) pe_int (fun _ _ => rfl)))) pe_int) (pg_sub (pv 0) pe_int set_list))
      (pss_one (ps_ret (pe_op op_mod (pe_op op_fdiv (pe_ix ix_list (pv 0) pe_int (fun _ _ => rfl)) pe_int) (pv 1))))))))), ?_⟩
    -- the count of the draws
    have B1 := B.put (j' := j) (c' := c + 1) B.i0 B.i1 B.m0 B.m1
    refine ⟨.ref b, rfl, b, _, 4, .int c, rfl, rfl, SqL.of B.hb, atI_nat (j := 4) rfl, c, 1, rfl, rfl, .ref b, rfl, b, _, 4, 4, rfl, rfl, B.hb, rfl, ?_⟩
    refine ⟨fun σ H' => ∃ y2 y3 y4, σ = [some (.ref b), some (.int n), y2, y3, y4] ∧ Bag H' b s1 ∧ Keep b H H', ?_, ?_⟩
    · -- the next cell of the script
      refine ⟨.ref b, rfl, b, _, 2, .int j, rfl, rfl, SqL.of B1.hb, atI_nat (j := 2) rfl, rfl, _, rfl, ite2 (fun e => ?_) (fun e => ?_)⟩
      · refine ⟨.ref b, rfl, b, _, 1, .int i, rfl, rfl, SqL.of B1.hb, atI_nat (j := 1) rfl, .ref b, rfl, b, _, 0, .ref s1, rfl, rfl, SqL.of B1.hb, atI_nat (j := 0) rfl, s1, _, rfl, .inl (SqL.of B1.hs), i, _, rfl, rfl, _, rfl, ite2 (fun e2 => ?_) (fun e2 => ?_)⟩
        · have e3 : i < (ns.length : Int) := by
            have := of_decide_eq_true e2
            rw [List.length_map] at this
            exact this
          obtain ⟨z, hz⟩ := at_ex B.i0 e3
          have B2 := B1.put (j' := j) (c' := c + 1) (show 0 ≤ i + 1 by have := B.i0; omega) (show i + 1 ≤ (ns.length : Int) by omega) B.m0 B.m1
          refine ⟨.ref b, rfl, b, _, 0, .ref s1, rfl, rfl, SqL.of B1.hb, atI_nat (j := 0) rfl, .ref b, rfl, b, _, 1, .int i, rfl, rfl, SqL.of B1.hb, atI_nat (j := 1) rfl, s1, _, i, _, rfl, rfl, SqL.of B1.hs, hz, ?_⟩
          refine ⟨.ref b, rfl, b, _, 1, .int i, rfl, rfl, SqL.of B1.hb, atI_nat (j := 1) rfl, i, 1, rfl, rfl, .ref b, rfl, b, _, 1, 1, rfl, rfl, B1.hb, rfl, ?_⟩
          refine ⟨_, rfl, 10, 18, rfl, rfl, ⟨by decide, by decide, by decide⟩, z, _, rfl, rfl, _, rfl, ite2 (fun e4 => ?_) (fun e4 => ?_)⟩
          · have B3 := B2.put (j' := z) (c' := c + 1) (show 0 ≤ i + 1 by have := B.i0; omega) (show i + 1 ≤ (ns.length : Int) by omega) B.m0 B.m1
            refine ⟨_, rfl, .ref b, rfl, b, _, 2, 2, rfl, rfl, B2.hb, rfl, ?_⟩
            exact ⟨_, _, _, rfl, ⟨ns, _, _, _, _, B3⟩, keep_put.trans (keep_put.trans keep_put)⟩
          · refine ⟨.ref b, rfl, b, _, 3, .int m, rfl, rfl, SqL.of B2.hb, atI_nat (j := 3) rfl, m, 40014, rfl, rfl, .inr ⟨by decide, by decide⟩, _, rfl, z, 2147483399, rfl, rfl, (by show (0 : Int) < 2147483399; decide), _, 69069, rfl, rfl, .inr ⟨by decide, by decide⟩, _, _, rfl, rfl, ?_⟩
            refine ⟨_, rfl, _, 11, rfl, rfl, _, 2147483399, rfl, rfl, (by show (0 : Int) < 2147483399; decide), .ref b, rfl, b, _, 3, 3, rfl, rfl, B2.hb, rfl, ?_⟩
            have B3 := B2.put (j' := j) (m' := (m * 40014 + z % 2147483399 * 69069 + 11) % 2147483399) (c' := c + 1) (show 0 ≤ i + 1 by have := B.i0; omega) (show i + 1 ≤ (ns.length : Int) by omega) (by omega) (by omega)
            exact ⟨_, _, _, rfl, ⟨ns, _, _, _, _, B3⟩, keep_put.trans (keep_put.trans keep_put)⟩
        · exact ⟨_, _, _, rfl, ⟨ns, _, _, _, _, B1⟩, keep_put⟩
      · exact ⟨_, _, _, rfl, ⟨ns, _, _, _, _, B1⟩, keep_put⟩
    · rintro σ H' ⟨y2, y3, y4, rfl, ⟨ns2, i2, j2, m2, c2, B2⟩, k2⟩
      refine ⟨.ref b, rfl, b, _, 2, .int j2, rfl, rfl, SqL.of B2.hb, atI_nat (j := 2) rfl, j2, 0, rfl, rfl, _, rfl, ite2 (fun e => ?_) (fun e => ?_)⟩
      · have B3 := B2.put (j' := j2 / n) (c' := c2) B2.i0 B2.i1 B2.m0 B2.m1
        refine ⟨.ref b, rfl, b, _, 2, .int j2, rfl, rfl, SqL.of B2.hb, atI_nat (j := 2) rfl, .int n, rfl, j2, n, rfl, rfl, h0, ?_⟩
        refine ⟨.ref b, rfl, b, _, 2, .int j2, rfl, rfl, SqL.of B2.hb, atI_nat (j := 2) rfl, .int n, rfl, j2, n, rfl, rfl, wide_div h0 h1 (by decide) (by decide), .ref b, rfl, b, _, 2, 2, rfl, rfl, B2.hb, rfl, ?_⟩
        exact ⟨_, rfl, q _ _ (Int.emod_nonneg _ (by omega)) (Int.emod_lt_of_pos _ h0) ⟨ns2, _, _, _, _, B3⟩ (k2.trans keep_put)⟩
      · have hm : -(2 ^ 64) < m2 ∧ m2 < 2 ^ 64 := ⟨by have := B2.m0; omega, by have := B2.m1; omega⟩
        refine ⟨.ref b, rfl, b, _, 3, .int m2, rfl, rfl, SqL.of B2.hb, atI_nat (j := 3) rfl, .ref b, rfl, b, _, 3, .int m2, rfl, rfl, SqL.of B2.hb, atI_nat (j := 3) rfl, m2, m2, rfl, rfl, .inl hm, _, 7, rfl, rfl, .inr ⟨by decide, by decide⟩,
          .ref b, rfl, b, _, 3, .int m2, rfl, rfl, SqL.of B2.hb, atI_nat (j := 3) rfl, m2, 40692, rfl, rfl, .inr ⟨by decide, by decide⟩, _, _, rfl, rfl, ?_⟩
        refine ⟨_, rfl, .ref b, rfl, b, _, 4, .int c2, rfl, rfl, SqL.of B2.hb, atI_nat (j := 4) rfl, 1013904223, c2, rfl, rfl, .inl ⟨by decide, by decide⟩, _, _, rfl, rfl, _, 2147483399, rfl, rfl, (by show (0 : Int) < 2147483399; decide), .ref b, rfl, b, _, 3, 3, rfl, rfl, B2.hb, rfl, ?_⟩
        have B3 := B2.put (j' := j2) (m' := (m2 * m2 * 7 + m2 * 40692 + 1013904223 * c2) % 2147483399) (c' := c2) B2.i0 B2.i1 (Int.emod_nonneg _ (by decide)) (Int.emod_lt_of_pos _ (by decide))
        refine ⟨.ref b, rfl, b, _, 3, _, rfl, rfl, SqL.of B3.hb, atI_nat (j := 3) rfl, _, 37, rfl, rfl, ⟨by decide, by decide⟩, .int n, rfl, _, n, rfl, rfl, h0, ?_⟩
        exact q _ _ (Int.emod_nonneg _ (by omega)) (Int.emod_lt_of_pos _ h0) ⟨ns2, _, _, _, _, B3⟩ (k2.trans keep_put)
def spOf : Sp := fun vs H Q _ => ∃ (b sb l : Addr) (xs : List V), vs = [.ref b, .ref l] ∧ Bag H b sb ∧ H l = some (.lst xs) ∧ l ≠ b ∧ 0 < xs.length ∧ xs.length ≤ 1000 ∧ ∀ (i : Nat) (v : V) (H' : Hp), xs[i]? = some v → Bag H' b sb → Keep b H H' → Q v H'
theorem ok_of (T : Txt K mg) : FnOk P w K mg base CX0 2 T.f_of T.d_of ["_law_bag", "_law_some"] spOf := by
  refine T.F_of.ok sc_of (fun vs H Q E h => ?_) (fun cdv A outer s H vs Q E hr h => ?_)
  · obtain ⟨b, sb, l, xs, rfl, _⟩ := h
    rfl
  · obtain ⟨b, sb, l, xs, rfl, B, hl, nl, h0, h1, q⟩ := h
    refine ⟨_, (pss_one (ps_ret (pe_ix ix_list (pv 1) (pe_call (ok_pull T) (hr.mono (by decide)) (by rfl) T.g_pull T.F_pull.kp T.b_pull .nil pass0 (pa_cons (pv 0) (pa_cons (pe_callB call_len_seq (by rfl) T.n_len (by decide +kernel) (pa_cons (pv 1) pa_nil)) pa_nil))) (fun _ _ => rfl)))), ?_⟩
    have hn : ((xs.length : Int)).natAbs < 2 ^ 100 := Nat.lt_of_le_of_lt (show (xs.length : Int).natAbs ≤ 1000 by omega) (by decide)
    refine ⟨.ref l, rfl, .ref b, rfl, .ref l, rfl, l, xs, rfl, .inl (SqL.of hl), b, sb, _, rfl, B, (by show (0 : Int) < (xs.length : Int); omega), hn, fun z H' z0 z1 B' k' => ?_⟩
    obtain ⟨v, e1, e2⟩ := at_some z0 z1
    exact ⟨l, xs, z, v, rfl, rfl, k'.list nl hl, e2, q _ _ _ e1 B' k'⟩
def spSource (K : PySem.W.Frag) : Sp := fun vs H Q _ => ∃ (a : Addr) (ns : List Int), vs = [.ref a] ∧ SqL K H a (ns.map V.int) ∧ ns.length ≤ 63 ∧ ∀ b sb H', H b = none → Same H H' → Bag H' b sb → Q (.ref b) H'
theorem ok_source (T : Txt K mg) : FnOk P w K mg base CX0 1 T.f_source T.d_source ["_law_script"] (spSource K) := by
  refine T.F_source.ok sc_source (fun vs H Q E h => ?_) (fun cdv A outer s H vs Q E hr h => ?_)
  · obtain ⟨a, ns, rfl, _⟩ := h
    rfl
  · obtain ⟨a, ns, rfl, hS, hlen, q⟩ := h
    refine ⟨_, (pss_cons (ps_set (i := 1) sc_source.nd rfl (Or.inl rfl) pe_int)
      (pss_cons (ps_for PassesOwn.never rfl (pi_list (pe_slice sl_list (pv 0) po_none (po_some pe_int))) (pg_name (i := 2) sc_source.nd rfl (Or.inl rfl)) (pss_one (ps_set (i := 1) sc_source.nd rfl (Or.inl rfl) (pe_op op_mod (pe_op op_add (pe_op op_add (pe_op op_mul (pv 1) pe_int) (pe_op op_mod (pv 2) pe_int)) pe_int) pe_int))))
      (pss_one (ps_ret (pe_lst (pa_cons (pe_callTy call_list_of (by rfl) T.n_list (by decide +kernel) (pa_cons (pe_slice sl_list (pv 0) po_none (po_some pe_int)) pa_nil)) (pa_cons pe_int (pa_cons pe_int (pa_cons (pv 1) (pa_cons pe_int pa_nil)))))))))), ?_⟩
    have hcut : cutV (ns.map V.int) none (some 63) = ns.map V.int := by
      unfold cutV
      rw [HT.sIx_none, show HT.sIx (ns.map V.int).length (ns.map V.int).length (some 63) = min 63 (ns.map V.int).length from HT.sIx_nat _ _ 63]
      rw [List.drop_zero, List.length_map, Nat.sub_zero, Nat.min_eq_right hlen]
      exact List.take_of_length_le (by rw [List.length_map]; exact Nat.le_refl _)
    refine ⟨.ref a, rfl, 63, rfl, a, _, rfl, hS, fun p hp => ?_⟩
    rw [hcut]
    refine ⟨p, rfl, ⟨_, SqL.of upd_same⟩, for_list (K := K) (a := p) (xs := ns.map V.int) (fun i σ H2 => ∃ (m : Int) (y : Option V), σ = [some (.ref a), some (.int m), y] ∧ 0 ≤ m ∧ m < 2147483399 ∧ H2 = upd H p (.lst (ns.map V.int)))
      ⟨3812, none, rfl, by decide, by decide, rfl⟩ (fun i σ H2 _ ⟨_, _, _, _, _, e⟩ => by rw [e]; exact SqL.of upd_same) ?_ ?_⟩
    · rintro i x σ H2 hx ⟨m, y, rfl, m0, m1, rfl⟩
      obtain ⟨z, rfl⟩ : ∃ z, x = V.int z := by
        rw [List.getElem?_map] at hx
        cases e : ns[i]? with
        | none =>
          rw [e] at hx
          cases hx
        | some z =>
          rw [e] at hx
          exact ⟨z, (Option.some.inj hx).symm⟩
      refine ⟨_, rfl, m, 40692, rfl, rfl, .inr ⟨by decide, by decide⟩, _, rfl, z, 2147483399, rfl, rfl, (by show (0 : Int) < 2147483399; decide), _, _, rfl, rfl, _, 17, rfl, rfl, _, 2147483399, rfl, rfl, (by show (0 : Int) < 2147483399; decide), ?_⟩
      exact ⟨_, _, rfl, Int.emod_nonneg _ (by decide), Int.emod_lt_of_pos _ (by decide), rfl⟩
    · rintro σ H2 ⟨m, y, rfl, m0, m1, rfl⟩
      have hS2 : SqL K (upd H p (.lst (ns.map V.int))) a (ns.map V.int) := (same_new hp).seq hS
      refine ⟨.ref a, rfl, 63, rfl, a, _, rfl, hS2, fun p2 hp2 => ?_⟩
      rw [hcut]
      refine ⟨p2, _, rfl, .inl (SqL.of upd_same), fun l hl => ?_⟩
      refine ⟨_, rfl, (by show 5 ≤ sizeLine; decide), fun b hb => ?_⟩
      have sm : Same H (upd (upd (upd (upd H p (.lst (ns.map V.int))) p2 (.lst (ns.map V.int))) l (.lst (ns.map V.int))) b (.lst [.ref l, .int 0, .int 0, .int m, .int 0])) := (same_new hp).trans ((same_new hp2).trans ((same_new hl).trans (same_new hb)))
      exact q b l _ (((same_new hp).trans ((same_new hp2).trans (same_new hl))).free hb) sm ⟨ns, 0, 0, m, 0, upd_same, same_new hb _ _ upd_same, Int.le_refl _, by omega, m0, m1⟩
end
section
variable {base : Heap} {K : PySem.W.Frag} {mg : Str → Option Value} {P : Program} {w : World}
def spFar : Sp := fun vs H Q _ => ∃ b sb : Addr, vs = [.ref b] ∧ Bag H b sb ∧ ∀ x H', 10 ^ 6 ≤ x → x ≤ 10 ^ 20 → Bag H' b sb → Keep b H H' → Q (.int x) H'
theorem ok_a_far (T : Txt K mg) : FnOk P w K mg base CX0 3 T.f_a_far T.d_a_far ["_law_bag"] spFar := by
  refine T.F_a_far.ok sc_a_far (fun vs H Q E h => ?_) (fun cdv A outer s H vs Q E hr h => ?_)
  · obtain ⟨b, sb, rfl, _⟩ := h
    rfl
  · obtain ⟨b, sb, rfl, B, q⟩ := h
    refine ⟨_, (pss_one (ps_ret (pe_op op_add (pe_call (ok_of T) (hr.mono (by decide)) (by rfl) T.g_of T.F_of.kp T.b_of .nil pass0 (pa_cons (pv 0) (pa_cons (pe_lst (pa_cons (pe_op op_pow pe_int pe_int) (pa_cons (pe_op op_pow pe_int pe_int) (pa_cons (pe_op op_pow pe_int pe_int) pa_nil)))) pa_nil))) (pe_call (ok_pull T) (hr.mono (by decide)) (by rfl) T.g_pull T.F_pull.kp T.b_pull .nil pass0 (pa_cons (pv 0) (pa_cons (pe_op op_pow pe_int pe_int) pa_nil)))))), ?_⟩
    refine ⟨.ref b, rfl, 10, 6, rfl, rfl, ⟨by decide, by decide, by decide⟩, 10, 12, rfl, rfl, ⟨by decide, by decide, by decide⟩, 10, 19, rfl, rfl, ⟨by decide, by decide, by decide⟩, (by show 3 ≤ sizeLine; decide), fun l hl => ?_⟩
    refine ⟨b, sb, l, _, rfl, B.new hl, upd_same, B.ne hl, by decide, by decide, fun i v H1 hv B1 k1 => ?_⟩
    obtain ⟨n, rfl, n0, n1⟩ : ∃ n : Int, v = .int n ∧ 10 ^ 6 ≤ n ∧ n ≤ 10 ^ 19 := by
      match i, hv with
      | 0, hv => cases hv; exact ⟨10 ^ 6, rfl, by decide, by decide⟩
      | 1, hv => cases hv; exact ⟨10 ^ 12, rfl, by decide, by decide⟩
      | 2, hv => cases hv; exact ⟨10 ^ 19, rfl, by decide, by decide⟩
      | n + 3, hv => simp at hv
    refine ⟨.ref b, rfl, 10, 6, rfl, rfl, ⟨by decide, by decide, by decide⟩, b, sb, _, rfl, B1, (show (0 : Int) < 10 ^ 6 by decide), (by decide), fun z H2 z0 z1 B2 k2 => ?_⟩
    have z2 : z < 10 ^ 6 := z1
    exact ⟨n, z, rfl, rfl, q _ _ (by omega) (by omega) B2 ((keep_new hl).trans (k1.trans k2))⟩
end
/-! ### the 22 classes by their number -/
def wds : List Str := ["BadRoot", "BadCount", "BadLength", "BadSheet", "BadRow", "OtherRoot", "BadStep", "NotLinked", "NotEnough", "TooGreat", "BadWidths", "NoSquares", "BadForm", "BadText", "BadName", "Taken", "Full", "BadDeed", "NoSheet", "NoName", "NoOrder", "NothingLeft"]
def wd (i : Nat) : Str := wds.getD i ""
def fds : List (Option Str) := [some "number", some "number", some "at", none, some "at", none, some "at", some "number", none, some "most", none, some "reason", none, some "at", some "name", some "name", some "most", some "at", some "sheet", some "name", some "name", none]
def fsAt (i : Nat) (n : V) : List (Str × V) := match fds.getD i none with
  | some f => [(f, n), ("word", .str (wd i))]
  | none => [("word", .str (wd i))]
section
variable {base : Heap} {K : PySem.W.Frag} {mg : Str → Option Value} {w : World}
def Cs (T : Txt K mg) : List Addr := [T.e_BadRoot.C, T.e_BadCount.C, T.e_BadLength.C, T.e_BadSheet.C, T.e_BadRow.C, T.e_OtherRoot.C, T.e_BadStep.C, T.e_NotLinked.C, T.e_NotEnough.C, T.e_TooGreat.C, T.e_BadWidths.C, T.e_NoSquares.C, T.e_BadForm.C, T.e_BadText.C, T.e_BadName.C, T.e_Taken.C, T.e_Full.C, T.e_BadDeed.C, T.e_NoSheet.C, T.e_NoName.C, T.e_NoOrder.C, T.e_NothingLeft.C]
def clsAt (T : Txt K mg) (i : Nat) : Addr := (Cs T).getD i 0
def bmAt (T : Txt K mg) (i : Nat) : List Value := if i < 18 then [.ref T.r_GrainError] ++ [.type "ValueError", .type "Exception", .type "BaseException", .type "object"] else if i < 21 then [.ref T.r_GrainMissing] ++ [.type "LookupError", .type "Exception", .type "BaseException", .type "object"] else [] ++ [.type "IndexError", .type "LookupError", .type "Exception", .type "BaseException", .type "object"]
structure ClsAt (T : Txt K mg) (i : Nat) : Prop where
  cl : ∃ cd : ClassData, PySem.W.clsIn K (clsAt T i) = some cd ∧ cd.name = wd i ∧ cd.mro = .ref (clsAt T i) :: bmAt T i
  er : ∃ (nw : String) (bm : List Value), ErC K (clsAt T i) nw bm
  wo : PySem.W.findIn K (.ref (clsAt T i)) "word" = some none
  fi : ∀ f, fds.getD i none = some f → PySem.W.findIn K (.ref (clsAt T i)) f = some none
theorem cls_at (T : Txt K mg) : ∀ i, i < 22 → ClsAt T i
  | 0, _ => ⟨T.e_BadRoot.cl, ⟨_, _, T.e_BadRoot.T.ox⟩, T.x_BadRoot_word, fun f e => by cases e; exact T.x_BadRoot_number⟩
  | 1, _ => ⟨T.e_BadCount.cl, ⟨_, _, T.e_BadCount.T.ox⟩, T.x_BadCount_word, fun f e => by cases e; exact T.x_BadCount_number⟩
  | 2, _ => ⟨T.e_BadLength.cl, ⟨_, _, T.e_BadLength.T.ox⟩, T.x_BadLength_word, fun f e => by cases e; exact T.x_BadLength_at⟩
  | 3, _ => ⟨T.e_BadSheet.cl, ⟨_, _, T.e_BadSheet.T.ox⟩, T.x_BadSheet_word, fun f e => nomatch e⟩
  | 4, _ => ⟨T.e_BadRow.cl, ⟨_, _, T.e_BadRow.T.ox⟩, T.x_BadRow_word, fun f e => by cases e; exact T.x_BadRow_at⟩
  | 5, _ => ⟨T.e_OtherRoot.cl, ⟨_, _, T.e_OtherRoot.T.ox⟩, T.x_OtherRoot_word, fun f e => nomatch e⟩
  | 6, _ => ⟨T.e_BadStep.cl, ⟨_, _, T.e_BadStep.T.ox⟩, T.x_BadStep_word, fun f e => by cases e; exact T.x_BadStep_at⟩
  | 7, _ => ⟨T.e_NotLinked.cl, ⟨_, _, T.e_NotLinked.T.ox⟩, T.x_NotLinked_word, fun f e => by cases e; exact T.x_NotLinked_number⟩
  | 8, _ => ⟨T.e_NotEnough.cl, ⟨_, _, T.e_NotEnough.T.ox⟩, T.x_NotEnough_word, fun f e => nomatch e⟩
  | 9, _ => ⟨T.e_TooGreat.cl, ⟨_, _, T.e_TooGreat.T.ox⟩, T.x_TooGreat_word, fun f e => by cases e; exact T.x_TooGreat_most⟩
  | 10, _ => ⟨T.e_BadWidths.cl, ⟨_, _, T.e_BadWidths.T.ox⟩, T.x_BadWidths_word, fun f e => nomatch e⟩
  | 11, _ => ⟨T.e_NoSquares.cl, ⟨_, _, T.e_NoSquares.T.ox⟩, T.x_NoSquares_word, fun f e => by cases e; exact T.x_NoSquares_reason⟩
  | 12, _ => ⟨T.e_BadForm.cl, ⟨_, _, T.e_BadForm.T.ox⟩, T.x_BadForm_word, fun f e => nomatch e⟩
  | 13, _ => ⟨T.e_BadText.cl, ⟨_, _, T.e_BadText.T.ox⟩, T.x_BadText_word, fun f e => by cases e; exact T.x_BadText_at⟩
  | 14, _ => ⟨T.e_BadName.cl, ⟨_, _, T.e_BadName.T.ox⟩, T.x_BadName_word, fun f e => by cases e; exact T.x_BadName_name⟩
  | 15, _ => ⟨T.e_Taken.cl, ⟨_, _, T.e_Taken.T.ox⟩, T.x_Taken_word, fun f e => by cases e; exact T.x_Taken_name⟩
  | 16, _ => ⟨T.e_Full.cl, ⟨_, _, T.e_Full.T.ox⟩, T.x_Full_word, fun f e => by cases e; exact T.x_Full_most⟩
  | 17, _ => ⟨T.e_BadDeed.cl, ⟨_, _, T.e_BadDeed.T.ox⟩, T.x_BadDeed_word, fun f e => by cases e; exact T.x_BadDeed_at⟩
  | 18, _ => ⟨T.e_NoSheet.cl, ⟨_, _, T.e_NoSheet.T.ox⟩, T.x_NoSheet_word, fun f e => by cases e; exact T.x_NoSheet_sheet⟩
  | 19, _ => ⟨T.e_NoName.cl, ⟨_, _, T.e_NoName.T.ox⟩, T.x_NoName_word, fun f e => by cases e; exact T.x_NoName_name⟩
  | 20, _ => ⟨T.e_NoOrder.cl, ⟨_, _, T.e_NoOrder.T.ox⟩, T.x_NoOrder_word, fun f e => by cases e; exact T.x_NoOrder_name⟩
  | 21, _ => ⟨T.e_NothingLeft.cl, ⟨_, _, T.e_NothingLeft.T.ox⟩, T.x_NothingLeft_word, fun f e => nomatch e⟩
  | i + 22, h => absurd h (by omega)
theorem wd_ne {i j : Nat} (hi : i < 22) (hj : j < 22) (h : i ≠ j) : wd i ≠ wd j := by
  have z : ∀ i < 22, ∀ j < 22, i ≠ j → wd i ≠ wd j := by decide +kernel
  exact z i hi j hj h
theorem wd_base {i : Nat} (hi : i < 22) : wd i ≠ "GrainError" ∧ wd i ≠ "GrainMissing" := by
  have z : ∀ i < 22, wd i ≠ "GrainError" ∧ wd i ≠ "GrainMissing" := by decide +kernel
  exact z i hi
theorem ref_ne {C D : Addr} (h : C ≠ D) : (Value.ref D == Value.ref C) = false := Bool.eq_false_iff.mpr fun e => h (Value.ref.inj (eq_of_beq e)).symm
theorem kit_ij (T : Txt K mg) {i j : Nat} (hi : i < 22) (hj : j < 22) : PySem.W.kitOne K (.ref (clsAt T i)) (.ref (clsAt T j)) = some (j == i) := by
  obtain ⟨c, c1, c2, c3⟩ := (cls_at T i hi).cl
  obtain ⟨d, d1, d2, d3⟩ := (cls_at T j hj).cl
  obtain ⟨nw, bm, e⟩ := (cls_at T j hj).er
  obtain ⟨g, g1, g2⟩ := T.c_GrainError
  obtain ⟨m, m1, m2⟩ := T.c_GrainMissing
  rw [kit_ref c1 c3 d1 e.ty]
  congr 1
  by_cases h : i = j
  · subst h
    rw [List.contains_cons, beq_self_eq_true, Bool.true_or, beq_self_eq_true]
  · have n1 := cls_ne c1 d1 (by rw [c2, d2]; exact wd_ne hi hj h)
    have n2 := cls_ne g1 d1 (by rw [g2, d2]; exact (wd_base hj).1.symm)
    have n3 := cls_ne m1 d1 (by rw [m2, d2]; exact (wd_base hj).2.symm)
    have hb : ((j == i) : Bool) = false := beq_false_of_ne (Ne.symm h)
    rw [List.contains_cons, ref_ne n1, Bool.false_or, hb]
    unfold bmAt
    split
    · rw [List.cons_append, List.contains_cons, ref_ne n2]
      rfl
    · split
      · rw [List.cons_append, List.contains_cons, ref_ne n3]
        rfl
      · rfl
theorem base_ne (T : Txt K mg) : T.r_GrainError ≠ T.r_GrainMissing := by
  obtain ⟨g, g1, g2⟩ := T.c_GrainError
  obtain ⟨m, m1, m2⟩ := T.c_GrainMissing
  exact cls_ne g1 m1 (by rw [g2, m2]; decide)
theorem kit_ge (T : Txt K mg) {i : Nat} (hi : i < 22) : PySem.W.kitOne K (.ref (clsAt T i)) (.ref T.r_GrainError) = some (decide (i < 18)) := by
  obtain ⟨c, c1, c2, c3⟩ := (cls_at T i hi).cl
  obtain ⟨g, g1, g2⟩ := T.c_GrainError
  rw [kit_ref c1 c3 g1 T.t_GrainError]
  congr 1
  have n1 := cls_ne c1 g1 (by rw [c2, g2]; exact (wd_base hi).1)
  rw [List.contains_cons, ref_ne n1, Bool.false_or]
  unfold bmAt
  by_cases h : i < 18
  · rw [if_pos h, List.cons_append, List.contains_cons, beq_self_eq_true, Bool.true_or, decide_eq_true h]
  · rw [if_neg h, decide_eq_false h]
    split
    · rw [List.cons_append, List.contains_cons, ref_ne (base_ne T).symm]
      rfl
    · rfl
theorem kit_gm (T : Txt K mg) {i : Nat} (hi : i < 22) : PySem.W.kitOne K (.ref (clsAt T i)) (.ref T.r_GrainMissing) = some (decide (17 < i) && decide (i < 21)) := by
  obtain ⟨c, c1, c2, c3⟩ := (cls_at T i hi).cl
  obtain ⟨g, g1, g2⟩ := T.c_GrainMissing
  rw [kit_ref c1 c3 g1 T.t_GrainMissing]
  congr 1
  have n1 := cls_ne c1 g1 (by rw [c2, g2]; exact (wd_base hi).2)
  rw [List.contains_cons, ref_ne n1, Bool.false_or]
  unfold bmAt
  by_cases h : i < 18
  · rw [if_pos h, List.cons_append, List.contains_cons, ref_ne (base_ne T), decide_eq_false (show ¬ 17 < i by omega)]
    rfl
  · rw [if_neg h, decide_eq_true (show 17 < i by omega)]
    by_cases h2 : i < 21
    · rw [if_pos h2, List.cons_append, List.contains_cons, beq_self_eq_true, Bool.true_or, decide_eq_true h2]
      rfl
    · rw [if_neg h2, decide_eq_false h2]
      rfl
theorem kit_ty (T : Txt K mg) {i : Nat} (hi : i < 22) (n : String) (hT : PySem.W.kitMeta n = true) : PySem.W.kitOne K (.ref (clsAt T i)) (.type n) = some ((bmAt T i).contains (.type n)) := by
  obtain ⟨c, c1, c2, c3⟩ := (cls_at T i hi).cl
  rw [kit_typ c1 c3 hT]
  rfl
theorem kit_ve (T : Txt K mg) {i : Nat} (hi : i < 22) : PySem.W.kitOne K (.ref (clsAt T i)) (.type "ValueError") = some (decide (i < 18)) := by
  rw [kit_ty T hi _ (by decide +kernel)]
  congr 1
  unfold bmAt
  by_cases h : i < 18
  · rw [if_pos h, decide_eq_true h]
    rfl
  · rw [if_neg h, decide_eq_false h]
    split <;> rfl
theorem kit_le (T : Txt K mg) {i : Nat} (hi : i < 22) : PySem.W.kitOne K (.ref (clsAt T i)) (.type "LookupError") = some (decide (17 < i)) := by
  rw [kit_ty T hi _ (by decide +kernel)]
  congr 1
  unfold bmAt
  by_cases h : i < 18
  · rw [if_pos h, decide_eq_false (show ¬ 17 < i by omega)]
    rfl
  · rw [if_neg h, decide_eq_true (show 17 < i by omega)]
    split <;> rfl
theorem kit_ie (T : Txt K mg) {i : Nat} (hi : i < 22) : PySem.W.kitOne K (.ref (clsAt T i)) (.type "IndexError") = some (i == 21) := by
  rw [kit_ty T hi _ (by decide +kernel)]
  congr 1
  unfold bmAt
  by_cases h : i < 18
  · rw [if_pos h, show ((i == 21) : Bool) = false from beq_false_of_ne (by omega)]
    rfl
  · rw [if_neg h]
    by_cases h2 : i < 21
    · rw [if_pos h2, show ((i == 21) : Bool) = false from beq_false_of_ne (by omega)]
      rfl
    · rw [if_neg h2, show i = 21 by omega]
      rfl
/-- an error of the class number i, with n in its field -/
def EvAt (T : Txt K mg) (H : Hp) (n : V) (i : Nat) (x : V) : Prop := IsE H (clsAt T i) (fsAt i n) x
def Evs (T : Txt K mg) (H : Hp) (n : V) (k : Nat) (xs : List V) : Prop := xs.length = k ∧ ∀ i x, xs[i]? = some x → EvAt T H n i x
theorem Evs.same {T : Txt K mg} {H H' : Hp} {n : V} {k : Nat} {xs : List V} (h : Evs T H n k xs) (s : Same H H') : Evs T H' n k xs := ⟨h.1, fun i x e => IsE.same (h.2 i x e) s⟩
theorem Evs.snoc {T : Txt K mg} {H : Hp} {n : V} {k : Nat} {xs : List V} {x : V} (h : Evs T H n k xs) (e : EvAt T H n k x) : Evs T H n (k + 1) (xs ++ [x]) := by
  refine ⟨by rw [List.length_append, h.1]; rfl, fun i y hy => ?_⟩
  rw [List.getElem?_append] at hy
  split at hy
  · exact h.2 i y hy
  · rename_i z
    by_cases z2 : i = xs.length
    · subst z2
      rw [Nat.sub_self] at hy
      cases hy
      rw [h.1]
      exact e
    · rw [List.getElem?_eq_none (by simp; omega)] at hy
      cases hy
theorem ev0 {T : Txt K mg} {H : Hp} {n x : V} (h : IsE H T.e_BadRoot.C [("number", n), ("word", .str "BadRoot")] x) : EvAt T H n 0 x := h
theorem ev1 {T : Txt K mg} {H : Hp} {n x : V} (h : IsE H T.e_BadCount.C [("number", n), ("word", .str "BadCount")] x) : EvAt T H n 1 x := h
theorem ev2 {T : Txt K mg} {H : Hp} {n x : V} (h : IsE H T.e_BadLength.C [("at", n), ("word", .str "BadLength")] x) : EvAt T H n 2 x := h
theorem ev3 {T : Txt K mg} {H : Hp} {n x : V} (h : IsE H T.e_BadSheet.C [("word", .str "BadSheet")] x) : EvAt T H n 3 x := h
theorem ev4 {T : Txt K mg} {H : Hp} {n x : V} (h : IsE H T.e_BadRow.C [("at", n), ("word", .str "BadRow")] x) : EvAt T H n 4 x := h
theorem ev5 {T : Txt K mg} {H : Hp} {n x : V} (h : IsE H T.e_OtherRoot.C [("word", .str "OtherRoot")] x) : EvAt T H n 5 x := h
theorem ev6 {T : Txt K mg} {H : Hp} {n x : V} (h : IsE H T.e_BadStep.C [("at", n), ("word", .str "BadStep")] x) : EvAt T H n 6 x := h
theorem ev7 {T : Txt K mg} {H : Hp} {n x : V} (h : IsE H T.e_NotLinked.C [("number", n), ("word", .str "NotLinked")] x) : EvAt T H n 7 x := h
theorem ev8 {T : Txt K mg} {H : Hp} {n x : V} (h : IsE H T.e_NotEnough.C [("word", .str "NotEnough")] x) : EvAt T H n 8 x := h
theorem ev9 {T : Txt K mg} {H : Hp} {n x : V} (h : IsE H T.e_TooGreat.C [("most", n), ("word", .str "TooGreat")] x) : EvAt T H n 9 x := h
theorem ev10 {T : Txt K mg} {H : Hp} {n x : V} (h : IsE H T.e_BadWidths.C [("word", .str "BadWidths")] x) : EvAt T H n 10 x := h
theorem ev11 {T : Txt K mg} {H : Hp} {n x : V} (h : IsE H T.e_NoSquares.C [("reason", n), ("word", .str "NoSquares")] x) : EvAt T H n 11 x := h
theorem ev12 {T : Txt K mg} {H : Hp} {n x : V} (h : IsE H T.e_BadForm.C [("word", .str "BadForm")] x) : EvAt T H n 12 x := h
theorem ev13 {T : Txt K mg} {H : Hp} {n x : V} (h : IsE H T.e_BadText.C [("at", n), ("word", .str "BadText")] x) : EvAt T H n 13 x := h
theorem ev14 {T : Txt K mg} {H : Hp} {n x : V} (h : IsE H T.e_BadName.C [("name", n), ("word", .str "BadName")] x) : EvAt T H n 14 x := h
theorem ev15 {T : Txt K mg} {H : Hp} {n x : V} (h : IsE H T.e_Taken.C [("name", n), ("word", .str "Taken")] x) : EvAt T H n 15 x := h
theorem ev16 {T : Txt K mg} {H : Hp} {n x : V} (h : IsE H T.e_Full.C [("most", n), ("word", .str "Full")] x) : EvAt T H n 16 x := h
theorem ev17 {T : Txt K mg} {H : Hp} {n x : V} (h : IsE H T.e_BadDeed.C [("at", n), ("word", .str "BadDeed")] x) : EvAt T H n 17 x := h
theorem ev18 {T : Txt K mg} {H : Hp} {n x : V} (h : IsE H T.e_NoSheet.C [("sheet", n), ("word", .str "NoSheet")] x) : EvAt T H n 18 x := h
theorem ev19 {T : Txt K mg} {H : Hp} {n x : V} (h : IsE H T.e_NoName.C [("name", n), ("word", .str "NoName")] x) : EvAt T H n 19 x := h
theorem ev20 {T : Txt K mg} {H : Hp} {n x : V} (h : IsE H T.e_NoOrder.C [("name", n), ("word", .str "NoOrder")] x) : EvAt T H n 20 x := h
theorem ev21 {T : Txt K mg} {H : Hp} {n x : V} (h : IsE H T.e_NothingLeft.C [("word", .str "NothingLeft")] x) : EvAt T H n 21 x := h
theorem mkv_do {H1 : Hp} {R : Addr → Hp → Prop} {C : Addr} {n : Nat} {fs : List V → List (Str × V)} {vs : List V} (hn : vs.length = n) (h0 : n ≤ 1000) (h : ∀ x H', Same H1 H' → IsE H' C (fs vs) (.ref x) → R x H') :
    vs.length ≤ 1000 ∧ ∀ a, H1 a = none → spIni C n fs (.ref a :: (vs ++ [])) (upd H1 a (exo a C none)) (fun v H2 => v = .non ∧ R a H2) (fun _ _ _ => False) := by
  refine ⟨by omega, fun a ha => ?_⟩
  rw [List.append_nil]
  refine ⟨a, vs, rfl, hn, upd_same, fun d H2 m => ⟨rfl, h _ _ (fun b o e => ?_) ⟨a, d, rfl, m.2.2.1, m.2.2.2.1⟩⟩⟩
  exact m.2.2.2.2 b o (ne_of_none e ha) ((upd_ne (ne_of_none e ha)).trans e)
def spAll (T : Txt K mg) : Sp := fun vs H Q _ => ∃ n : V, vs = [n] ∧ ∀ L xs H', H L = none → Same H H' → H' L = some (.lst xs) → Evs T H' n 22 xs → Q (.ref L) H'
theorem ok_all (T : Txt K mg) : FnOk PySem.Challenge.pw_grainyard_k70_error_classes w K mg base CX0 3 T.f_all T.d_all ["_law_n"] (spAll T) := by
  refine T.F_all.ok sc_all (fun vs H Q E h => ?_) (fun cdv A outer s H vs Q E hr h => ?_)
  · obtain ⟨n, rfl, _⟩ := h
    rfl
  · obtain ⟨n, rfl, q⟩ := h
    refine ⟨_, (pss_cons (ps_set (i := 1) sc_all.nd rfl (Or.inl rfl) (pe_lst (pa_cons (pe_mkE erb_VE T.e_BadRoot.T.ox T.e_BadRoot.iC T.e_BadRoot.tI (ini_BadRoot T) (hr.mono (by decide)) (bi_BadRoot T) .nil pass0 (by rfl) T.e_BadRoot.g (pa_cons (pv 0) pa_nil)) (pa_cons (pe_mkE erb_VE T.e_BadCount.T.ox T.e_BadCount.iC T.e_BadCount.tI (ini_BadCount T) (hr.mono (by decide)) (bi_BadCount T) .nil pass0 (by rfl) T.e_BadCount.g (pa_cons (pv 0) pa_nil)) (pa_cons (pe_mkE erb_VE T.e_BadLength.T.ox T.e_BadLength.iC T.e_BadLength.tI (ini_BadLength T) (hr.mono (by decide)) (bi_BadLength T) .nil pass0 (by rfl) T.e_BadLength.g (pa_cons (pv 0) pa_nil)) (pa_cons (pe_mkE0 erb_VE T.e_BadSheet.T.ox T.e_BadSheet.iC T.e_BadSheet.tI (ini_BadSheet T) (hr.mono (by decide)) (bi_BadSheet T) .nil pass0 (by rfl) T.e_BadSheet.g) (pa_cons (pe_mkE erb_VE T.e_BadRow.T.ox T.e_BadRow.iC T.e_BadRow.tI (ini_BadRow T) (hr.mono (by decide)) (bi_BadRow T) .nil pass0 (by rfl) T.e_BadRow.g (pa_cons (pv 0) pa_nil)) (pa_cons (pe_mkE0 erb_VE T.e_OtherRoot.T.ox T.e_OtherRoot.iC T.e_OtherRoot.tI (ini_OtherRoot T) (hr.mono (by decide)) (bi_OtherRoot T) .nil pass0 (by rfl) T.e_OtherRoot.g) (pa_cons (pe_mkE erb_VE T.e_BadStep.T.ox T.e_BadStep.iC T.e_BadStep.tI (ini_BadStep T) (hr.mono (by decide)) (bi_BadStep T) .nil pass0 (by rfl) T.e_BadStep.g (pa_cons (pv 0) pa_nil)) (pa_cons (pe_mkE erb_VE T.e_NotLinked.T.ox T.e_NotLinked.iC T.e_NotLinked.tI (ini_NotLinked T) (hr.mono (by decide)) (bi_NotLinked T) .nil pass0 (by rfl) T.e_NotLinked.g (pa_cons (pv 0) pa_nil)) (pa_cons (pe_mkE0 erb_VE T.e_NotEnough.T.ox T.e_NotEnough.iC T.e_NotEnough.tI (ini_NotEnough T) (hr.mono (by decide)) (bi_NotEnough T) .nil pass0 (by rfl) T.e_NotEnough.g) pa_nil)))))))))))
      (pss_cons (ps_set (i := 1) sc_all.nd rfl (Or.inl rfl) (pe_op op_cat (pv 1) (pe_lst (pa_cons (pe_mkE erb_VE T.e_TooGreat.T.ox T.e_TooGreat.iC T.e_TooGreat.tI (ini_TooGreat T) (hr.mono (by decide)) (bi_TooGreat T) .nil pass0 (by rfl) T.e_TooGreat.g (pa_cons (pv 0) pa_nil)) (pa_cons (pe_mkE0 erb_VE T.e_BadWidths.T.ox T.e_BadWidths.iC T.e_BadWidths.tI (ini_BadWidths T) (hr.mono (by decide)) (bi_BadWidths T) .nil pass0 (by rfl) T.e_BadWidths.g) (pa_cons (pe_mkE erb_VE T.e_NoSquares.T.ox T.e_NoSquares.iC T.e_NoSquares.tI (ini_NoSquares T) (hr.mono (by decide)) (bi_NoSquares T) .nil pass0 (by rfl) T.e_NoSquares.g (pa_cons (pv 0) pa_nil)) (pa_cons (pe_mkE0 erb_VE T.e_BadForm.T.ox T.e_BadForm.iC T.e_BadForm.tI (ini_BadForm T) (hr.mono (by decide)) (bi_BadForm T) .nil pass0 (by rfl) T.e_BadForm.g) (pa_cons (pe_mkE erb_VE T.e_BadText.T.ox T.e_BadText.iC T.e_BadText.tI (ini_BadText T) (hr.mono (by decide)) (bi_BadText T) .nil pass0 (by rfl) T.e_BadText.g (pa_cons (pv 0) pa_nil)) (pa_cons (pe_mkE erb_VE T.e_BadName.T.ox T.e_BadName.iC T.e_BadName.tI (ini_BadName T) (hr.mono (by decide)) (bi_BadName T) .nil pass0 (by rfl) T.e_BadName.g (pa_cons (pv 0) pa_nil)) (pa_cons (pe_mkE erb_VE T.e_Taken.T.ox T.e_Taken.iC T.e_Taken.tI (ini_Taken T) (hr.mono (by decide)) (bi_Taken T) .nil pass0 (by rfl) T.e_Taken.g (pa_cons (pv 0) pa_nil)) (pa_cons (pe_mkE erb_VE T.e_Full.T.ox T.e_Full.iC T.e_Full.tI (ini_Full T) (hr.mono (by decide)) (bi_Full T) .nil pass0 (by rfl) T.e_Full.g (pa_cons (pv 0) pa_nil)) (pa_cons (pe_mkE erb_VE T.e_BadDeed.T.ox T.e_BadDeed.iC T.e_BadDeed.tI (ini_BadDeed T) (hr.mono (by decide)) (bi_BadDeed T) .nil pass0 (by rfl) T.e_BadDeed.g (pa_cons (pv 0) pa_nil)) pa_nil))))))))))))
      (pss_one (ps_ret (pe_op op_cat (pv 1) (pe_lst (pa_cons (pe_mkE erb_LE T.e_NoSheet.T.ox T.e_NoSheet.iC T.e_NoSheet.tI (ini_NoSheet T) (hr.mono (by decide)) (bi_NoSheet T) .nil pass0 (by rfl) T.e_NoSheet.g (pa_cons (pv 0) pa_nil)) (pa_cons (pe_mkE erb_LE T.e_NoName.T.ox T.e_NoName.iC T.e_NoName.tI (ini_NoName T) (hr.mono (by decide)) (bi_NoName T) .nil pass0 (by rfl) T.e_NoName.g (pa_cons (pv 0) pa_nil)) (pa_cons (pe_mkE erb_LE T.e_NoOrder.T.ox T.e_NoOrder.iC T.e_NoOrder.tI (ini_NoOrder T) (hr.mono (by decide)) (bi_NoOrder T) .nil pass0 (by rfl) T.e_NoOrder.g (pa_cons (pv 0) pa_nil)) (pa_cons (pe_mkE0 erb_IE T.e_NothingLeft.T.ox T.e_NothingLeft.iC T.e_NothingLeft.tI (ini_NothingLeft T) (hr.mono (by decide)) (bi_NothingLeft T) .nil pass0 (by rfl) T.e_NothingLeft.g) pa_nil)))))))))), ?_⟩
    have V0 : Evs T H n 0 [] := ⟨rfl, fun i x e => nomatch e⟩
    have S0 : Same H H := fun _ _ e => e
    refine ⟨n, rfl, mkv_do (n := 1) (vs := [n]) rfl (by decide) fun x0 H0 s0 i0 => ?_⟩
    have V1 : Evs T H0 n 1 [.ref x0] := (V0.same s0).snoc (ev0 i0)
    have S1 := S0.trans s0
    refine ⟨n, rfl, mkv_do (n := 1) (vs := [n]) rfl (by decide) fun x1 H1 s1 i1 => ?_⟩
    have V2 : Evs T H1 n 2 [.ref x0, .ref x1] := (V1.same s1).snoc (ev1 i1)
    have S2 := S1.trans s1
    refine ⟨n, rfl, mkv_do (n := 1) (vs := [n]) rfl (by decide) fun x2 H2 s2 i2 => ?_⟩
    have V3 : Evs T H2 n 3 [.ref x0, .ref x1, .ref x2] := (V2.same s2).snoc (ev2 i2)
    have S3 := S2.trans s2
    refine mkv_do (n := 0) (vs := []) rfl (by decide) fun x3 H3 s3 i3 => ?_
    have V4 : Evs T H3 n 4 [.ref x0, .ref x1, .ref x2, .ref x3] := (V3.same s3).snoc (ev3 i3)
    have S4 := S3.trans s3
    refine ⟨n, rfl, mkv_do (n := 1) (vs := [n]) rfl (by decide) fun x4 H4 s4 i4 => ?_⟩
    have V5 : Evs T H4 n 5 [.ref x0, .ref x1, .ref x2, .ref x3, .ref x4] := (V4.same s4).snoc (ev4 i4)
    have S5 := S4.trans s4
    refine mkv_do (n := 0) (vs := []) rfl (by decide) fun x5 H5 s5 i5 => ?_
    have V6 : Evs T H5 n 6 [.ref x0, .ref x1, .ref x2, .ref x3, .ref x4, .ref x5] := (V5.same s5).snoc (ev5 i5)
    have S6 := S5.trans s5
    refine ⟨n, rfl, mkv_do (n := 1) (vs := [n]) rfl (by decide) fun x6 H6 s6 i6 => ?_⟩
    have V7 : Evs T H6 n 7 [.ref x0, .ref x1, .ref x2, .ref x3, .ref x4, .ref x5, .ref x6] := (V6.same s6).snoc (ev6 i6)
    have S7 := S6.trans s6
    refine ⟨n, rfl, mkv_do (n := 1) (vs := [n]) rfl (by decide) fun x7 H7 s7 i7 => ?_⟩
    have V8 : Evs T H7 n 8 [.ref x0, .ref x1, .ref x2, .ref x3, .ref x4, .ref x5, .ref x6, .ref x7] := (V7.same s7).snoc (ev7 i7)
    have S8 := S7.trans s7
    refine mkv_do (n := 0) (vs := []) rfl (by decide) fun x8 H8 s8 i8 => ?_
    have V9 : Evs T H8 n 9 [.ref x0, .ref x1, .ref x2, .ref x3, .ref x4, .ref x5, .ref x6, .ref x7, .ref x8] := (V8.same s8).snoc (ev8 i8)
    have S9 := S8.trans s8
    refine ⟨by show 9 ≤ sizeLine; decide, fun l0 hl0 => ?_⟩
    have e1 := same_new (o := .lst [.ref x0, .ref x1, .ref x2, .ref x3, .ref x4, .ref x5, .ref x6, .ref x7, .ref x8]) hl0
    have P0 : (upd H8 l0 (.lst [.ref x0, .ref x1, .ref x2, .ref x3, .ref x4, .ref x5, .ref x6, .ref x7, .ref x8])) l0 = some (.lst [.ref x0, .ref x1, .ref x2, .ref x3, .ref x4, .ref x5, .ref x6, .ref x7, .ref x8]) := upd_same
    refine ⟨.ref l0, rfl, ?_⟩
    refine ⟨n, rfl, mkv_do (n := 1) (vs := [n]) rfl (by decide) fun x9 H9 s9 i9 => ?_⟩
    have V10 : Evs T H9 n 10 [.ref x0, .ref x1, .ref x2, .ref x3, .ref x4, .ref x5, .ref x6, .ref x7, .ref x8, .ref x9] := (V9.same (e1.trans s9)).snoc (ev9 i9)
    have S10 := S9.trans (e1.trans s9)
    refine mkv_do (n := 0) (vs := []) rfl (by decide) fun x10 H10 s10 i10 => ?_
    have V11 : Evs T H10 n 11 [.ref x0, .ref x1, .ref x2, .ref x3, .ref x4, .ref x5, .ref x6, .ref x7, .ref x8, .ref x9, .ref x10] := (V10.same s10).snoc (ev10 i10)
    have S11 := S10.trans s10
    refine ⟨n, rfl, mkv_do (n := 1) (vs := [n]) rfl (by decide) fun x11 H11 s11 i11 => ?_⟩
    have V12 : Evs T H11 n 12 [.ref x0, .ref x1, .ref x2, .ref x3, .ref x4, .ref x5, .ref x6, .ref x7, .ref x8, .ref x9, .ref x10, .ref x11] := (V11.same s11).snoc (ev11 i11)
    have S12 := S11.trans s11
    refine mkv_do (n := 0) (vs := []) rfl (by decide) fun x12 H12 s12 i12 => ?_
    have V13 : Evs T H12 n 13 [.ref x0, .ref x1, .ref x2, .ref x3, .ref x4, .ref x5, .ref x6, .ref x7, .ref x8, .ref x9, .ref x10, .ref x11, .ref x12] := (V12.same s12).snoc (ev12 i12)
    have S13 := S12.trans s12
    refine ⟨n, rfl, mkv_do (n := 1) (vs := [n]) rfl (by decide) fun x13 H13 s13 i13 => ?_⟩
    have V14 : Evs T H13 n 14 [.ref x0, .ref x1, .ref x2, .ref x3, .ref x4, .ref x5, .ref x6, .ref x7, .ref x8, .ref x9, .ref x10, .ref x11, .ref x12, .ref x13] := (V13.same s13).snoc (ev13 i13)
    have S14 := S13.trans s13
    refine ⟨n, rfl, mkv_do (n := 1) (vs := [n]) rfl (by decide) fun x14 H14 s14 i14 => ?_⟩
    have V15 : Evs T H14 n 15 [.ref x0, .ref x1, .ref x2, .ref x3, .ref x4, .ref x5, .ref x6, .ref x7, .ref x8, .ref x9, .ref x10, .ref x11, .ref x12, .ref x13, .ref x14] := (V14.same s14).snoc (ev14 i14)
    have S15 := S14.trans s14
    refine ⟨n, rfl, mkv_do (n := 1) (vs := [n]) rfl (by decide) fun x15 H15 s15 i15 => ?_⟩
    have V16 : Evs T H15 n 16 [.ref x0, .ref x1, .ref x2, .ref x3, .ref x4, .ref x5, .ref x6, .ref x7, .ref x8, .ref x9, .ref x10, .ref x11, .ref x12, .ref x13, .ref x14, .ref x15] := (V15.same s15).snoc (ev15 i15)
    have S16 := S15.trans s15
    refine ⟨n, rfl, mkv_do (n := 1) (vs := [n]) rfl (by decide) fun x16 H16 s16 i16 => ?_⟩
    have V17 : Evs T H16 n 17 [.ref x0, .ref x1, .ref x2, .ref x3, .ref x4, .ref x5, .ref x6, .ref x7, .ref x8, .ref x9, .ref x10, .ref x11, .ref x12, .ref x13, .ref x14, .ref x15, .ref x16] := (V16.same s16).snoc (ev16 i16)
    have S17 := S16.trans s16
    refine ⟨n, rfl, mkv_do (n := 1) (vs := [n]) rfl (by decide) fun x17 H17 s17 i17 => ?_⟩
    have V18 : Evs T H17 n 18 [.ref x0, .ref x1, .ref x2, .ref x3, .ref x4, .ref x5, .ref x6, .ref x7, .ref x8, .ref x9, .ref x10, .ref x11, .ref x12, .ref x13, .ref x14, .ref x15, .ref x16, .ref x17] := (V17.same s17).snoc (ev17 i17)
    have S18 := S17.trans s17
    refine ⟨by show 9 ≤ sizeLine; decide, fun l1 hl1 => ?_⟩
    have f1 := same_new (o := .lst [.ref x9, .ref x10, .ref x11, .ref x12, .ref x13, .ref x14, .ref x15, .ref x16, .ref x17]) hl1
    refine ⟨l0, l1, [.ref x0, .ref x1, .ref x2, .ref x3, .ref x4, .ref x5, .ref x6, .ref x7, .ref x8], [.ref x9, .ref x10, .ref x11, .ref x12, .ref x13, .ref x14, .ref x15, .ref x16, .ref x17], rfl, rfl, (s9.trans (s10.trans (s11.trans (s12.trans (s13.trans (s14.trans (s15.trans (s16.trans (s17.trans f1))))))))) _ _ P0, upd_same, by show 9 + 9 ≤ sizeLine; decide, fun p1 hp1 => ?_⟩
    have e2 := f1.trans (same_new (o := .lst [.ref x0, .ref x1, .ref x2, .ref x3, .ref x4, .ref x5, .ref x6, .ref x7, .ref x8, .ref x9, .ref x10, .ref x11, .ref x12, .ref x13, .ref x14, .ref x15, .ref x16, .ref x17]) hp1)
    have P1 : (upd (upd H17 l1 (.lst [.ref x9, .ref x10, .ref x11, .ref x12, .ref x13, .ref x14, .ref x15, .ref x16, .ref x17])) p1 (.lst [.ref x0, .ref x1, .ref x2, .ref x3, .ref x4, .ref x5, .ref x6, .ref x7, .ref x8, .ref x9, .ref x10, .ref x11, .ref x12, .ref x13, .ref x14, .ref x15, .ref x16, .ref x17])) p1 = some (.lst [.ref x0, .ref x1, .ref x2, .ref x3, .ref x4, .ref x5, .ref x6, .ref x7, .ref x8, .ref x9, .ref x10, .ref x11, .ref x12, .ref x13, .ref x14, .ref x15, .ref x16, .ref x17]) := upd_same
    refine ⟨.ref p1, rfl, ?_⟩
    refine ⟨n, rfl, mkv_do (n := 1) (vs := [n]) rfl (by decide) fun x18 H18 s18 i18 => ?_⟩
    have V19 : Evs T H18 n 19 [.ref x0, .ref x1, .ref x2, .ref x3, .ref x4, .ref x5, .ref x6, .ref x7, .ref x8, .ref x9, .ref x10, .ref x11, .ref x12, .ref x13, .ref x14, .ref x15, .ref x16, .ref x17, .ref x18] := (V18.same (e2.trans s18)).snoc (ev18 i18)
    have S19 := S18.trans (e2.trans s18)
    refine ⟨n, rfl, mkv_do (n := 1) (vs := [n]) rfl (by decide) fun x19 H19 s19 i19 => ?_⟩
    have V20 : Evs T H19 n 20 [.ref x0, .ref x1, .ref x2, .ref x3, .ref x4, .ref x5, .ref x6, .ref x7, .ref x8, .ref x9, .ref x10, .ref x11, .ref x12, .ref x13, .ref x14, .ref x15, .ref x16, .ref x17, .ref x18, .ref x19] := (V19.same s19).snoc (ev19 i19)
    have S20 := S19.trans s19
    refine ⟨n, rfl, mkv_do (n := 1) (vs := [n]) rfl (by decide) fun x20 H20 s20 i20 => ?_⟩
    have V21 : Evs T H20 n 21 [.ref x0, .ref x1, .ref x2, .ref x3, .ref x4, .ref x5, .ref x6, .ref x7, .ref x8, .ref x9, .ref x10, .ref x11, .ref x12, .ref x13, .ref x14, .ref x15, .ref x16, .ref x17, .ref x18, .ref x19, .ref x20] := (V20.same s20).snoc (ev20 i20)
    have S21 := S20.trans s20
    refine mkv_do (n := 0) (vs := []) rfl (by decide) fun x21 H21 s21 i21 => ?_
    have V22 : Evs T H21 n 22 [.ref x0, .ref x1, .ref x2, .ref x3, .ref x4, .ref x5, .ref x6, .ref x7, .ref x8, .ref x9, .ref x10, .ref x11, .ref x12, .ref x13, .ref x14, .ref x15, .ref x16, .ref x17, .ref x18, .ref x19, .ref x20, .ref x21] := (V21.same s21).snoc (ev21 i21)
    have S22 := S21.trans s21
    refine ⟨by show 4 ≤ sizeLine; decide, fun l2 hl2 => ?_⟩
    have f2 := same_new (o := .lst [.ref x18, .ref x19, .ref x20, .ref x21]) hl2
    refine ⟨p1, l2, [.ref x0, .ref x1, .ref x2, .ref x3, .ref x4, .ref x5, .ref x6, .ref x7, .ref x8, .ref x9, .ref x10, .ref x11, .ref x12, .ref x13, .ref x14, .ref x15, .ref x16, .ref x17], [.ref x18, .ref x19, .ref x20, .ref x21], rfl, rfl, (s18.trans (s19.trans (s20.trans (s21.trans f2)))) _ _ P1, upd_same, by show 18 + 4 ≤ sizeLine; decide, fun p2 hp2 => ?_⟩
    have e3 := f2.trans (same_new (o := .lst [.ref x0, .ref x1, .ref x2, .ref x3, .ref x4, .ref x5, .ref x6, .ref x7, .ref x8, .ref x9, .ref x10, .ref x11, .ref x12, .ref x13, .ref x14, .ref x15, .ref x16, .ref x17, .ref x18, .ref x19, .ref x20, .ref x21]) hp2)
    exact q p2 _ _ ((S22.trans f2).free hp2) (S22.trans e3) upd_same (V22.same e3)
end
/-! ### the flags -/
section
variable {base : Heap} {K : PySem.W.Frag} {mg : Str → Option Value} {w : World}
theorem put_of {H : Hp} {p : Addr} {o : HO} (hp : H p = none) : upd H p o p = some o := upd_same
theorem isi_any {T : Txt K mg} {H : Hp} {n x c : V} {cv : Value} {i : Nat} {b : Bool} {R : Bool → Prop} (hi : i < 22) (ev : EvAt T H n i x) (hc : ClsV c cv) (hk : PySem.W.kitOne K (.ref (clsAt T i)) cv = some b) (q : R b) :
    ∃ (a C d : Addr) (nw : String) (bm : List Value) (fs : List (Str × V)) (c' : V) (cv : Value) (b : Bool), [x, c] = [.ref a, c'] ∧ H a = some (exo a C (some d)) ∧ H d = some (exd d fs) ∧ ErC K C nw bm ∧ ClsV c' cv ∧ PySem.W.kitOne K (.ref C) cv = some b ∧ R b := by
  obtain ⟨a, d, rfl, ea, ed⟩ := ev
  obtain ⟨nw, bm, er⟩ := (cls_at T i hi).er
  exact ⟨a, _, d, nw, bm, _, c, cv, b, rfl, ea, ed, er, hc, hk, q⟩
theorem isi_ij {T : Txt K mg} {H : Hp} {n x : V} {i : Nat} {R : Bool → Prop} (hi : i < 22) (ev : EvAt T H n i x) (j : Nat) {D : Addr} (hD : D = clsAt T j) (hj : j < 22) (q : R (j == i)) :
    ∃ (a C d : Addr) (nw : String) (bm : List Value) (fs : List (Str × V)) (c' : V) (cv : Value) (b : Bool), [x, .ref D] = [.ref a, c'] ∧ H a = some (exo a C (some d)) ∧ H d = some (exd d fs) ∧ ErC K C nw bm ∧ ClsV c' cv ∧ PySem.W.kitOne K (.ref C) cv = some b ∧ R b := by
  subst hD
  exact isi_any hi ev (.own _) (kit_ij T hi hj) q
theorem EvAt.same {T : Txt K mg} {H H' : Hp} {n x : V} {i : Nat} (h : EvAt T H n i x) (s : Same H H') : EvAt T H' n i x := IsE.same h s
def flagsOf (i : Nat) : List Bool := (List.range 22).map fun j => j == i
def spFlags (T : Txt K mg) : Sp := fun vs H Q _ => ∃ (x n : V) (i : Nat), vs = [x] ∧ i < 22 ∧ EvAt T H n i x ∧ ∀ L H', Same H H' → H' L = some (.lst ((flagsOf i).map V.bl)) → Q (.ref L) H'
theorem ok_flags (T : Txt K mg) : FnOk PySem.Challenge.pw_grainyard_k70_error_classes w K mg base CX0 1 T.f_flags T.d_flags ["_law_e"] (spFlags T) := by
  refine T.F_flags.ok sc_flags (fun vs H Q E h => ?_) (fun cdv A outer s H vs Q E hr h => ?_)
  · obtain ⟨x, n, i, rfl, _⟩ := h
    rfl
  · obtain ⟨x, n, i, rfl, hi, E0, q⟩ := h
    refine ⟨_, (pss_cons (ps_set (i := 1) sc_flags.nd rfl (Or.inl rfl) (pe_lst (pa_cons (pe_callB (call_isO T.hn T.ht) (by rfl) T.n_isinstance (by decide +kernel) (pa_cons (pv 0) (pa_cons (pe_glob (v := .ref T.e_BadRoot.C) (by rfl) T.e_BadRoot.g rfl) pa_nil))) (pa_cons (pe_callB (call_isO T.hn T.ht) (by rfl) T.n_isinstance (by decide +kernel) (pa_cons (pv 0) (pa_cons (pe_glob (v := .ref T.e_BadCount.C) (by rfl) T.e_BadCount.g rfl) pa_nil))) (pa_cons (pe_callB (call_isO T.hn T.ht) (by rfl) T.n_isinstance (by decide +kernel) (pa_cons (pv 0) (pa_cons (pe_glob (v := .ref T.e_BadLength.C) (by rfl) T.e_BadLength.g rfl) pa_nil))) (pa_cons (pe_callB (call_isO T.hn T.ht) (by rfl) T.n_isinstance (by decide +kernel) (pa_cons (pv 0) (pa_cons (pe_glob (v := .ref T.e_BadSheet.C) (by rfl) T.e_BadSheet.g rfl) pa_nil))) pa_nil))))))
      (pss_cons (ps_set (i := 1) sc_flags.nd rfl (Or.inl rfl) (pe_op op_cat (pv 1) (pe_lst (pa_cons (pe_callB (call_isO T.hn T.ht) (by rfl) T.n_isinstance (by decide +kernel) (pa_cons (pv 0) (pa_cons (pe_glob (v := .ref T.e_BadRow.C) (by rfl) T.e_BadRow.g rfl) pa_nil))) (pa_cons (pe_callB (call_isO T.hn T.ht) (by rfl) T.n_isinstance (by decide +kernel) (pa_cons (pv 0) (pa_cons (pe_glob (v := .ref T.e_OtherRoot.C) (by rfl) T.e_OtherRoot.g rfl) pa_nil))) (pa_cons (pe_callB (call_isO T.hn T.ht) (by rfl) T.n_isinstance (by decide +kernel) (pa_cons (pv 0) (pa_cons (pe_glob (v := .ref T.e_BadStep.C) (by rfl) T.e_BadStep.g rfl) pa_nil))) (pa_cons (pe_callB (call_isO T.hn T.ht) (by rfl) T.n_isinstance (by decide +kernel) (pa_cons (pv 0) (pa_cons (pe_glob (v := .ref T.e_NotLinked.C) (by rfl) T.e_NotLinked.g rfl) pa_nil))) pa_nil)))))))
      (pss_cons (ps_set (i := 1) sc_flags.nd rfl (Or.inl rfl) (pe_op op_cat (pv 1) (pe_lst (pa_cons (pe_callB (call_isO T.hn T.ht) (by rfl) T.n_isinstance (by decide +kernel) (pa_cons (pv 0) (pa_cons (pe_glob (v := .ref T.e_NotEnough.C) (by rfl) T.e_NotEnough.g rfl) pa_nil))) (pa_cons (pe_callB (call_isO T.hn T.ht) (by rfl) T.n_isinstance (by decide +kernel) (pa_cons (pv 0) (pa_cons (pe_glob (v := .ref T.e_TooGreat.C) (by rfl) T.e_TooGreat.g rfl) pa_nil))) (pa_cons (pe_callB (call_isO T.hn T.ht) (by rfl) T.n_isinstance (by decide +kernel) (pa_cons (pv 0) (pa_cons (pe_glob (v := .ref T.e_BadWidths.C) (by rfl) T.e_BadWidths.g rfl) pa_nil))) (pa_cons (pe_callB (call_isO T.hn T.ht) (by rfl) T.n_isinstance (by decide +kernel) (pa_cons (pv 0) (pa_cons (pe_glob (v := .ref T.e_NoSquares.C) (by rfl) T.e_NoSquares.g rfl) pa_nil))) pa_nil)))))))
      (pss_cons (ps_set (i := 1) sc_flags.nd rfl (Or.inl rfl) (pe_op op_cat (pv 1) (pe_lst (pa_cons (pe_callB (call_isO T.hn T.ht) (by rfl) T.n_isinstance (by decide +kernel) (pa_cons (pv 0) (pa_cons (pe_glob (v := .ref T.e_BadForm.C) (by rfl) T.e_BadForm.g rfl) pa_nil))) (pa_cons (pe_callB (call_isO T.hn T.ht) (by rfl) T.n_isinstance (by decide +kernel) (pa_cons (pv 0) (pa_cons (pe_glob (v := .ref T.e_BadText.C) (by rfl) T.e_BadText.g rfl) pa_nil))) (pa_cons (pe_callB (call_isO T.hn T.ht) (by rfl) T.n_isinstance (by decide +kernel) (pa_cons (pv 0) (pa_cons (pe_glob (v := .ref T.e_BadName.C) (by rfl) T.e_BadName.g rfl) pa_nil))) (pa_cons (pe_callB (call_isO T.hn T.ht) (by rfl) T.n_isinstance (by decide +kernel) (pa_cons (pv 0) (pa_cons (pe_glob (v := .ref T.e_Taken.C) (by rfl) T.e_Taken.g rfl) pa_nil))) pa_nil)))))))
      (pss_cons (ps_set (i := 1) sc_flags.nd rfl (Or.inl rfl) (pe_op op_cat (pv 1) (pe_lst (pa_cons (pe_callB (call_isO T.hn T.ht) (by rfl) T.n_isinstance (by decide +kernel) (pa_cons (pv 0) (pa_cons (pe_glob (v := .ref T.e_Full.C) (by rfl) T.e_Full.g rfl) pa_nil))) (pa_cons (pe_callB (call_isO T.hn T.ht) (by rfl) T.n_isinstance (by decide +kernel) (pa_cons (pv 0) (pa_cons (pe_glob (v := .ref T.e_BadDeed.C) (by rfl) T.e_BadDeed.g rfl) pa_nil))) (pa_cons (pe_callB (call_isO T.hn T.ht) (by rfl) T.n_isinstance (by decide +kernel) (pa_cons (pv 0) (pa_cons (pe_glob (v := .ref T.e_NoSheet.C) (by rfl) T.e_NoSheet.g rfl) pa_nil))) (pa_cons (pe_callB (call_isO T.hn T.ht) (by rfl) T.n_isinstance (by decide +kernel) (pa_cons (pv 0) (pa_cons (pe_glob (v := .ref T.e_NoName.C) (by rfl) T.e_NoName.g rfl) pa_nil))) pa_nil)))))))
      (pss_one (ps_ret (pe_op op_cat (pv 1) (pe_lst (pa_cons (pe_callB (call_isO T.hn T.ht) (by rfl) T.n_isinstance (by decide +kernel) (pa_cons (pv 0) (pa_cons (pe_glob (v := .ref T.e_NoOrder.C) (by rfl) T.e_NoOrder.g rfl) pa_nil))) (pa_cons (pe_callB (call_isO T.hn T.ht) (by rfl) T.n_isinstance (by decide +kernel) (pa_cons (pv 0) (pa_cons (pe_glob (v := .ref T.e_NothingLeft.C) (by rfl) T.e_NothingLeft.g rfl) pa_nil))) pa_nil))))))))))), ?_⟩
    refine ⟨x, rfl, isi_ij hi E0 0 rfl (by decide) ?_⟩
    refine ⟨x, rfl, isi_ij hi E0 1 rfl (by decide) ?_⟩
    refine ⟨x, rfl, isi_ij hi E0 2 rfl (by decide) ?_⟩
    refine ⟨x, rfl, isi_ij hi E0 3 rfl (by decide) ?_⟩
    refine ⟨by show 4 ≤ sizeLine; decide, fun l0 hl0 => ?_⟩
    have s0 := same_new (o := .lst [.bl (0 == i), .bl (1 == i), .bl (2 == i), .bl (3 == i)]) hl0
    have E1 := E0.same s0
    have P0 := (upd_same (a := l0) (o := .lst [.bl (0 == i), .bl (1 == i), .bl (2 == i), .bl (3 == i)]) (H := H))
    let p0 := l0
    refine ⟨.ref p0, rfl, ?_⟩
    refine ⟨x, rfl, isi_ij hi E1 4 rfl (by decide) ?_⟩
    refine ⟨x, rfl, isi_ij hi E1 5 rfl (by decide) ?_⟩
    refine ⟨x, rfl, isi_ij hi E1 6 rfl (by decide) ?_⟩
    refine ⟨x, rfl, isi_ij hi E1 7 rfl (by decide) ?_⟩
    refine ⟨by show 4 ≤ sizeLine; decide, fun l1 hl1 => ?_⟩
    have s1 := same_new (o := .lst [.bl (4 == i), .bl (5 == i), .bl (6 == i), .bl (7 == i)]) hl1
    refine ⟨p0, l1, [.bl (0 == i), .bl (1 == i), .bl (2 == i), .bl (3 == i)], [.bl (4 == i), .bl (5 == i), .bl (6 == i), .bl (7 == i)], rfl, rfl, s1 _ _ P0, upd_same, by show 4 + 4 ≤ sizeLine; decide, fun p1 hp1 => ?_⟩
    have t1 := s1.trans (same_new (o := .lst [.bl (0 == i), .bl (1 == i), .bl (2 == i), .bl (3 == i), .bl (4 == i), .bl (5 == i), .bl (6 == i), .bl (7 == i)]) hp1)
    have E2 := E1.same t1
    have P1 := put_of (o := .lst [.bl (0 == i), .bl (1 == i), .bl (2 == i), .bl (3 == i), .bl (4 == i), .bl (5 == i), .bl (6 == i), .bl (7 == i)]) hp1
    refine ⟨.ref p1, rfl, ?_⟩
    refine ⟨x, rfl, isi_ij hi E2 8 rfl (by decide) ?_⟩
    refine ⟨x, rfl, isi_ij hi E2 9 rfl (by decide) ?_⟩
    refine ⟨x, rfl, isi_ij hi E2 10 rfl (by decide) ?_⟩
    refine ⟨x, rfl, isi_ij hi E2 11 rfl (by decide) ?_⟩
    refine ⟨by show 4 ≤ sizeLine; decide, fun l2 hl2 => ?_⟩
    have s2 := same_new (o := .lst [.bl (8 == i), .bl (9 == i), .bl (10 == i), .bl (11 == i)]) hl2
    refine ⟨p1, l2, [.bl (0 == i), .bl (1 == i), .bl (2 == i), .bl (3 == i), .bl (4 == i), .bl (5 == i), .bl (6 == i), .bl (7 == i)], [.bl (8 == i), .bl (9 == i), .bl (10 == i), .bl (11 == i)], rfl, rfl, s2 _ _ P1, upd_same, by show 8 + 4 ≤ sizeLine; decide, fun p2 hp2 => ?_⟩
    have t2 := s2.trans (same_new (o := .lst [.bl (0 == i), .bl (1 == i), .bl (2 == i), .bl (3 == i), .bl (4 == i), .bl (5 == i), .bl (6 == i), .bl (7 == i), .bl (8 == i), .bl (9 == i), .bl (10 == i), .bl (11 == i)]) hp2)
    have E3 := E2.same t2
    have P2 := put_of (o := .lst [.bl (0 == i), .bl (1 == i), .bl (2 == i), .bl (3 == i), .bl (4 == i), .bl (5 == i), .bl (6 == i), .bl (7 == i), .bl (8 == i), .bl (9 == i), .bl (10 == i), .bl (11 == i)]) hp2
    refine ⟨.ref p2, rfl, ?_⟩
    refine ⟨x, rfl, isi_ij hi E3 12 rfl (by decide) ?_⟩
    refine ⟨x, rfl, isi_ij hi E3 13 rfl (by decide) ?_⟩
    refine ⟨x, rfl, isi_ij hi E3 14 rfl (by decide) ?_⟩
    refine ⟨x, rfl, isi_ij hi E3 15 rfl (by decide) ?_⟩
    refine ⟨by show 4 ≤ sizeLine; decide, fun l3 hl3 => ?_⟩
    have s3 := same_new (o := .lst [.bl (12 == i), .bl (13 == i), .bl (14 == i), .bl (15 == i)]) hl3
    refine ⟨p2, l3, [.bl (0 == i), .bl (1 == i), .bl (2 == i), .bl (3 == i), .bl (4 == i), .bl (5 == i), .bl (6 == i), .bl (7 == i), .bl (8 == i), .bl (9 == i), .bl (10 == i), .bl (11 == i)], [.bl (12 == i), .bl (13 == i), .bl (14 == i), .bl (15 == i)], rfl, rfl, s3 _ _ P2, upd_same, by show 12 + 4 ≤ sizeLine; decide, fun p3 hp3 => ?_⟩
    have t3 := s3.trans (same_new (o := .lst [.bl (0 == i), .bl (1 == i), .bl (2 == i), .bl (3 == i), .bl (4 == i), .bl (5 == i), .bl (6 == i), .bl (7 == i), .bl (8 == i), .bl (9 == i), .bl (10 == i), .bl (11 == i), .bl (12 == i), .bl (13 == i), .bl (14 == i), .bl (15 == i)]) hp3)
    have E4 := E3.same t3
    have P3 := put_of (o := .lst [.bl (0 == i), .bl (1 == i), .bl (2 == i), .bl (3 == i), .bl (4 == i), .bl (5 == i), .bl (6 == i), .bl (7 == i), .bl (8 == i), .bl (9 == i), .bl (10 == i), .bl (11 == i), .bl (12 == i), .bl (13 == i), .bl (14 == i), .bl (15 == i)]) hp3
    refine ⟨.ref p3, rfl, ?_⟩
    refine ⟨x, rfl, isi_ij hi E4 16 rfl (by decide) ?_⟩
    refine ⟨x, rfl, isi_ij hi E4 17 rfl (by decide) ?_⟩
    refine ⟨x, rfl, isi_ij hi E4 18 rfl (by decide) ?_⟩
    refine ⟨x, rfl, isi_ij hi E4 19 rfl (by decide) ?_⟩
    refine ⟨by show 4 ≤ sizeLine; decide, fun l4 hl4 => ?_⟩
    have s4 := same_new (o := .lst [.bl (16 == i), .bl (17 == i), .bl (18 == i), .bl (19 == i)]) hl4
    refine ⟨p3, l4, [.bl (0 == i), .bl (1 == i), .bl (2 == i), .bl (3 == i), .bl (4 == i), .bl (5 == i), .bl (6 == i), .bl (7 == i), .bl (8 == i), .bl (9 == i), .bl (10 == i), .bl (11 == i), .bl (12 == i), .bl (13 == i), .bl (14 == i), .bl (15 == i)], [.bl (16 == i), .bl (17 == i), .bl (18 == i), .bl (19 == i)], rfl, rfl, s4 _ _ P3, upd_same, by show 16 + 4 ≤ sizeLine; decide, fun p4 hp4 => ?_⟩
    have t4 := s4.trans (same_new (o := .lst [.bl (0 == i), .bl (1 == i), .bl (2 == i), .bl (3 == i), .bl (4 == i), .bl (5 == i), .bl (6 == i), .bl (7 == i), .bl (8 == i), .bl (9 == i), .bl (10 == i), .bl (11 == i), .bl (12 == i), .bl (13 == i), .bl (14 == i), .bl (15 == i), .bl (16 == i), .bl (17 == i), .bl (18 == i), .bl (19 == i)]) hp4)
    have E5 := E4.same t4
    have P4 := put_of (o := .lst [.bl (0 == i), .bl (1 == i), .bl (2 == i), .bl (3 == i), .bl (4 == i), .bl (5 == i), .bl (6 == i), .bl (7 == i), .bl (8 == i), .bl (9 == i), .bl (10 == i), .bl (11 == i), .bl (12 == i), .bl (13 == i), .bl (14 == i), .bl (15 == i), .bl (16 == i), .bl (17 == i), .bl (18 == i), .bl (19 == i)]) hp4
    refine ⟨.ref p4, rfl, ?_⟩
    refine ⟨x, rfl, isi_ij hi E5 20 rfl (by decide) ?_⟩
    refine ⟨x, rfl, isi_ij hi E5 21 rfl (by decide) ?_⟩
    refine ⟨by show 2 ≤ sizeLine; decide, fun l5 hl5 => ?_⟩
    have s5 := same_new (o := .lst [.bl (20 == i), .bl (21 == i)]) hl5
    refine ⟨p4, l5, [.bl (0 == i), .bl (1 == i), .bl (2 == i), .bl (3 == i), .bl (4 == i), .bl (5 == i), .bl (6 == i), .bl (7 == i), .bl (8 == i), .bl (9 == i), .bl (10 == i), .bl (11 == i), .bl (12 == i), .bl (13 == i), .bl (14 == i), .bl (15 == i), .bl (16 == i), .bl (17 == i), .bl (18 == i), .bl (19 == i)], [.bl (20 == i), .bl (21 == i)], rfl, rfl, s5 _ _ P4, upd_same, by show 20 + 2 ≤ sizeLine; decide, fun p5 hp5 => ?_⟩
    have t5 := s5.trans (same_new (o := .lst [.bl (0 == i), .bl (1 == i), .bl (2 == i), .bl (3 == i), .bl (4 == i), .bl (5 == i), .bl (6 == i), .bl (7 == i), .bl (8 == i), .bl (9 == i), .bl (10 == i), .bl (11 == i), .bl (12 == i), .bl (13 == i), .bl (14 == i), .bl (15 == i), .bl (16 == i), .bl (17 == i), .bl (18 == i), .bl (19 == i), .bl (20 == i), .bl (21 == i)]) hp5)
    have E6 := E5.same t5
    have P5 := put_of (o := .lst [.bl (0 == i), .bl (1 == i), .bl (2 == i), .bl (3 == i), .bl (4 == i), .bl (5 == i), .bl (6 == i), .bl (7 == i), .bl (8 == i), .bl (9 == i), .bl (10 == i), .bl (11 == i), .bl (12 == i), .bl (13 == i), .bl (14 == i), .bl (15 == i), .bl (16 == i), .bl (17 == i), .bl (18 == i), .bl (19 == i), .bl (20 == i), .bl (21 == i)]) hp5
    exact q p5 _ (s0.trans (t1.trans (t2.trans (t3.trans (t4.trans t5))))) P5
end
/-! ### the field -/
section
variable {base : Heap} {K : PySem.W.Frag} {mg : Str → Option Value} {w : World}
theorem lk_word : ∀ (i : Nat) (n : V), i < 22 → (fsAt i n).lookup ("word" : Str) = some (.str (wd i))
  | 0, _, _ => rfl | 1, _, _ => rfl | 2, _, _ => rfl | 3, _, _ => rfl | 4, _, _ => rfl | 5, _, _ => rfl | 6, _, _ => rfl | 7, _, _ => rfl | 8, _, _ => rfl | 9, _, _ => rfl | 10, _, _ => rfl
  | 11, _, _ => rfl | 12, _, _ => rfl | 13, _, _ => rfl | 14, _, _ => rfl | 15, _, _ => rfl | 16, _, _ => rfl | 17, _, _ => rfl | 18, _, _ => rfl | 19, _, _ => rfl | 20, _, _ => rfl | 21, _, _ => rfl
  | i + 22, _, h => absurd h (by omega)
theorem lk_fld {i : Nat} {n : V} {f : Str} (h : fds.getD i none = some f) : (fsAt i n).lookup f = some n := by
  unfold fsAt
  rw [h]
  show ([(f, n), ("word", V.str (wd i))] : List (Str × V)).lookup f = some n
  rw [List.lookup_cons, beq_self_eq_true]
theorem rd_at {T : Txt K mg} {H : Hp} {n x : V} {i : Nat} {R : V → Prop} (hi : i < 22) (ev : EvAt T H n i x) {f : Str} {v : V} (hl : (fsAt i n).lookup f = some v) (hno : PySem.W.findIn K (.ref (clsAt T i)) f = some none) (q : R v) :
    ∃ (a C d : Addr) (nw : String) (bm : List Value) (fs : List (Str × V)) (v : V), x = .ref a ∧ H a = some (exo a C (some d)) ∧ H d = some (exd d fs) ∧ fs.lookup f = some v ∧ PySem.W.findIn K (.ref C) f = some none ∧ ErC K C nw bm ∧ R v := by
  obtain ⟨a, d, rfl, ea, ed⟩ := ev
  obtain ⟨nw, bm, er⟩ := (cls_at T i hi).er
  exact ⟨a, _, d, nw, bm, _, v, rfl, ea, ed, hl, hno, er, q⟩
theorem rd_word {T : Txt K mg} {H : Hp} {n x : V} {i : Nat} {R : V → Prop} (hi : i < 22) (ev : EvAt T H n i x) (q : R (.str (wd i))) :
    ∃ (a C d : Addr) (nw : String) (bm : List Value) (fs : List (Str × V)) (v : V), x = .ref a ∧ H a = some (exo a C (some d)) ∧ H d = some (exd d fs) ∧ fs.lookup ("word" : Str) = some v ∧ PySem.W.findIn K (.ref C) "word" = some none ∧ ErC K C nw bm ∧ R v :=
  rd_at hi ev (lk_word i n hi) (cls_at T i hi).wo q
theorem rd_fld {T : Txt K mg} {H : Hp} {n x : V} {i : Nat} {f : Str} {R : V → Prop} (hi : i < 22) (ev : EvAt T H n i x) (hf : fds.getD i none = some f) (q : R n) :
    ∃ (a C d : Addr) (nw : String) (bm : List Value) (fs : List (Str × V)) (v : V), x = .ref a ∧ H a = some (exo a C (some d)) ∧ H d = some (exd d fs) ∧ fs.lookup f = some v ∧ PySem.W.findIn K (.ref C) f = some none ∧ ErC K C nw bm ∧ R v :=
  rd_at hi ev (lk_fld hf) ((cls_at T i hi).fi f hf) q
def fieldV (i : Nat) (n : V) : V := if (fds.getD i none).isSome = true then n else .non
theorem fieldV_some {i : Nat} {n : V} {f : Str} (h : fds.getD i none = some f) : fieldV i n = n := by
  unfold fieldV
  rw [h]
  rfl
theorem fieldV_none {i : Nat} {n : V} (h : fds.getD i none = none) : fieldV i n = .non := by
  unfold fieldV
  rw [h]
  rfl
def spField (T : Txt K mg) : Sp := fun vs H Q _ => ∃ (x n : V) (i : Nat), vs = [x] ∧ i < 18 ∧ EvAt T H n i x ∧ ∀ H', Same H H' → Q (fieldV i n) H'
theorem ok_field_of (T : Txt K mg) : FnOk PySem.Challenge.pw_grainyard_k70_error_classes w K mg base CX0 1 T.f_field_of T.d_field_of ["_law_e"] (spField T) := by
  refine T.F_field_of.ok sc_field_of (fun vs H Q E h => ?_) (fun cdv A outer s H vs Q E hr h => ?_)
  · obtain ⟨x, n, i, rfl, _⟩ := h
    rfl
  · obtain ⟨x, n, i, rfl, hi, E0, q⟩ := h
    have h22 : i < 22 := by omega
    refine ⟨_, (pss_cons (ps_if (pt_cmpR op_in_seq (pe_xo (pv 0)) (pe_tup (pa_cons pe_str (pa_cons pe_str (pa_cons pe_str pa_nil)))) (by rfl)) (pss_one (ps_ret (pe_xo (pv 0)))) pss_nil)
      (pss_cons (ps_if (pt_cmpR op_in_seq (pe_xo (pv 0)) (pe_tup (pa_cons pe_str (pa_cons pe_str (pa_cons pe_str (pa_cons pe_str (pa_cons pe_str pa_nil)))))) (by rfl)) (pss_one (ps_ret (pe_xo (pv 0)))) pss_nil)
      (pss_cons (ps_if (pt_cmpR op_in_seq (pe_xo (pv 0)) (pe_tup (pa_cons pe_str (pa_cons pe_str pa_nil))) (by rfl)) (pss_one (ps_ret (pe_xo (pv 0)))) pss_nil)
      (pss_cons (ps_if (pt_cmpR op_in_seq (pe_xo (pv 0)) (pe_tup (pa_cons pe_str (pa_cons pe_str pa_nil))) (by rfl)) (pss_one (ps_ret (pe_xo (pv 0)))) pss_nil)
      (pss_one (ps_ret (pe_ifExp (pt_cmpR op_eq (pe_xo (pv 0)) pe_str (nomark _)) (pe_xo (pv 0)) pe_non))))))), ?_⟩
    have S0 : Same H H := fun _ _ e => e
    refine ⟨x, rfl, rd_word h22 E0 ?_⟩
    refine ⟨by show 3 ≤ sizeLine; decide, fun t0 n0 => ?_⟩
    have E1 := E0.same (same_new (o := .tup [.str "BadRoot", .str "BadCount", .str "NotLinked"]) n0)
    have S1 := S0.trans (same_new (o := .tup [.str "BadRoot", .str "BadCount", .str "NotLinked"]) n0)
    refine ⟨t0, _, rfl, .inr (SqT.of upd_same), rfl, rfl, _, rfl, ite2 (fun e => ?_) (fun b0 => ?_)⟩
    · have z : ∀ i < 18, inV (.str (wd i)) [.str "BadRoot", .str "BadCount", .str "NotLinked"] = true → fds.getD i none = some ("number" : Str) := by decide +kernel
      have hf := z i hi e
      have q' := q _ S1
      rw [fieldV_some hf] at q'
      exact ⟨x, rfl, rd_fld h22 E1 hf q'⟩
    refine ⟨x, rfl, rd_word h22 E1 ?_⟩
    refine ⟨by show 5 ≤ sizeLine; decide, fun t1 n1 => ?_⟩
    have E2 := E1.same (same_new (o := .tup [.str "BadLength", .str "BadRow", .str "BadStep", .str "BadText", .str "BadDeed"]) n1)
    have S2 := S1.trans (same_new (o := .tup [.str "BadLength", .str "BadRow", .str "BadStep", .str "BadText", .str "BadDeed"]) n1)
    refine ⟨t1, _, rfl, .inr (SqT.of upd_same), rfl, rfl, _, rfl, ite2 (fun e => ?_) (fun b1 => ?_)⟩
    · have z : ∀ i < 18, inV (.str (wd i)) [.str "BadLength", .str "BadRow", .str "BadStep", .str "BadText", .str "BadDeed"] = true → fds.getD i none = some ("at" : Str) := by decide +kernel
      have hf := z i hi e
      have q' := q _ S2
      rw [fieldV_some hf] at q'
      exact ⟨x, rfl, rd_fld h22 E2 hf q'⟩
    refine ⟨x, rfl, rd_word h22 E2 ?_⟩
    refine ⟨by show 2 ≤ sizeLine; decide, fun t2 n2 => ?_⟩
    have E3 := E2.same (same_new (o := .tup [.str "BadName", .str "Taken"]) n2)
    have S3 := S2.trans (same_new (o := .tup [.str "BadName", .str "Taken"]) n2)
    refine ⟨t2, _, rfl, .inr (SqT.of upd_same), rfl, rfl, _, rfl, ite2 (fun e => ?_) (fun b2 => ?_)⟩
    · have z : ∀ i < 18, inV (.str (wd i)) [.str "BadName", .str "Taken"] = true → fds.getD i none = some ("name" : Str) := by decide +kernel
      have hf := z i hi e
      have q' := q _ S3
      rw [fieldV_some hf] at q'
      exact ⟨x, rfl, rd_fld h22 E3 hf q'⟩
    refine ⟨x, rfl, rd_word h22 E3 ?_⟩
    refine ⟨by show 2 ≤ sizeLine; decide, fun t3 n3 => ?_⟩
    have E4 := E3.same (same_new (o := .tup [.str "TooGreat", .str "Full"]) n3)
    have S4 := S3.trans (same_new (o := .tup [.str "TooGreat", .str "Full"]) n3)
    refine ⟨t3, _, rfl, .inr (SqT.of upd_same), rfl, rfl, _, rfl, ite2 (fun e => ?_) (fun b3 => ?_)⟩
    · have z : ∀ i < 18, inV (.str (wd i)) [.str "TooGreat", .str "Full"] = true → fds.getD i none = some ("most" : Str) := by decide +kernel
      have hf := z i hi e
      have q' := q _ S4
      rw [fieldV_some hf] at q'
      exact ⟨x, rfl, rd_fld h22 E4 hf q'⟩
    refine ⟨x, rfl, rd_word h22 E4 ?_⟩
    refine ⟨rfl, _, rfl, ite2 (fun e => ?_) (fun b4 => ?_)⟩
    · have z : ∀ i < 18, wd i = ("NoSquares" : Str) → fds.getD i none = some ("reason" : Str) := by decide +kernel
      have hf := z i hi (V.str.inj (of_decide_eq_true e))
      have q' := q _ S4
      rw [fieldV_some hf] at q'
      exact ⟨x, rfl, rd_fld h22 E4 hf q'⟩
    · have z : ∀ i < 18, (inV (.str (wd i)) [.str "BadRoot", .str "BadCount", .str "NotLinked"] || inV (.str (wd i)) [.str "BadLength", .str "BadRow", .str "BadStep", .str "BadText", .str "BadDeed"] || inV (.str (wd i)) [.str "BadName", .str "Taken"] || inV (.str (wd i)) [.str "TooGreat", .str "Full"] || decide (wd i = ("NoSquares" : Str)) || (fds.getD i none).isNone) = true := by decide +kernel
      have c0 : inV (.str (wd i)) [.str "BadRoot", .str "BadCount", .str "NotLinked"] = false := Bool.eq_false_iff.mpr b0
      have c1 : inV (.str (wd i)) [.str "BadLength", .str "BadRow", .str "BadStep", .str "BadText", .str "BadDeed"] = false := Bool.eq_false_iff.mpr b1
      have c2 : inV (.str (wd i)) [.str "BadName", .str "Taken"] = false := Bool.eq_false_iff.mpr b2
      have c3 : inV (.str (wd i)) [.str "TooGreat", .str "Full"] = false := Bool.eq_false_iff.mpr b3
      have hz := z i hi
      rw [c0, c1, c2, c3, decide_eq_false (fun e => b4 (decide_eq_true (congrArg V.str e)))] at hz
      have hf : fds.getD i none = none := Option.isNone_iff_eq_none.mp hz
      have q' := q _ S4
      rw [fieldV_none hf] at q'
      exact q'
end
/-! ### the law -/
section
variable {base : Heap} {K : PySem.W.Frag} {mg : Str → Option Value} {w : World}
def spLaw (K : PySem.W.Frag) : Sp := fun vs H Q _ => ∃ (a : Addr) (ns : List Int), vs = [.ref a] ∧ SqL K H a (ns.map V.int) ∧ ns.length ≤ 63 ∧ ∀ H', Q (.bl true) H'
def plain : List Str := ["BadSheet", "OtherRoot", "NotEnough", "BadWidths", "BadForm", "NothingLeft"]
theorem words_are : PySem.Txt.split ((("BadRoot BadCount BadLength BadSheet BadRow OtherRoot BadStep" : Str) ++ (" NotLinked NotEnough TooGreat BadWidths NoSquares BadForm BadText" : Str)) ++ (" BadName Taken Full BadDeed NoSheet NoName NoOrder NothingLeft" : Str)) (" " : Str) = wds := by decide +kernel
theorem words_at {i : Nat} (hi : i < 22) : (wds.map V.str)[i]? = some (.str (wd i)) := by
  rw [List.getElem?_map, List.getElem?_eq_getElem (show i < wds.length from hi)]
  unfold wd
  rw [List.getD_eq_getElem?_getD, List.getElem?_eq_getElem (show i < wds.length from hi)]
  rfl
theorem dec_j {m i : Nat} {k : Int} (hk : k = (i : Int)) : decide (V.int (0 + (m : Int)) = V.int k) = (m == i) := by
  subst hk
  rw [Bool.eq_iff_iff, decide_eq_true_eq, beq_iff_eq, V.int.injEq]
  omega
theorem dp_bools {H : Hp} : ∀ bs : List Bool, DpAll K H (bs.map V.bl) (bs.map PyData.bool)
  | [] => .nil
  | b :: bs => .cons (.bl b) (dp_bools bs)
theorem eqvAll_bools : ∀ bs : List Bool, PyData.eqvAll (bs.map PyData.bool) (bs.map PyData.bool) = true
  | [] => rfl
  | b :: bs => by
    show ((b == b) && PyData.eqvAll (bs.map PyData.bool) (bs.map PyData.bool)) = true
    rw [eqvAll_bools bs, beq_self_eq_true]
    rfl
theorem eqv_bools (bs : List Bool) : PyData.eqv (.list (bs.map PyData.bool)) (.list (bs.map PyData.bool)) = true := eqvAll_bools bs
theorem shaped_flags {i : Nat} (hi : i < 22) : SeqAt.shaped (.list ((flagsOf i).map PyData.bool)) = true := by
  have z : ∀ i < 22, SeqAt.shaped (.list ((flagsOf i).map PyData.bool)) = true := by decide +kernel
  exact z i hi
theorem plain_in {i : Nat} (hi : i < 22) : inV (.str (wd i)) [.str "BadSheet", .str "OtherRoot", .str "NotEnough", .str "BadWidths", .str "BadForm", .str "NothingLeft"] = (fds.getD i none).isNone := by
  have z : ∀ i < 22, inV (.str (wd i)) [.str "BadSheet", .str "OtherRoot", .str "NotEnough", .str "BadWidths", .str "BadForm", .str "NothingLeft"] = (fds.getD i none).isNone := by decide +kernel
  exact z i hi
theorem name_at {i : Nat} (h1 : 18 < i) (h2 : i < 21) : fds.getD i none = some ("name" : Str) := by
  rcases (show i = 19 ∨ i = 20 by omega) with rfl | rfl <;> rfl
theorem shaped4 (a b c d : Bool) : SeqAt.shaped (.list [.bool a, .bool b, .bool c, .bool d]) = true := by
  cases a <;> cases b <;> cases c <;> cases d <;> decide +kernel
theorem eqv4 {a b c d a' b' c' d' : Bool} (h1 : a = a') (h2 : b = b') (h3 : c = c') (h4 : d = d') : PyData.eqv (.list [.bool a, .bool b, .bool c, .bool d]) (.list [.bool a', .bool b', .bool c', .bool d']) = true := by
  subst h1 h2 h3 h4
  exact eqv_bools [a, b, c, d]
theorem ne21 {i : Nat} {k : Int} (hk : k = (i : Int)) : ¬ (!decide (V.bl (i == 21) = V.bl (decide (V.int k = V.int 21)))) = true := by
  subst hk
  have e : (i == 21) = decide (V.int (i : Int) = V.int 21) := by
    rw [Bool.eq_iff_iff, decide_eq_true_eq, beq_iff_eq, V.int.injEq]
    omega
  rw [e]
  simp
theorem ok_law {f : Addr} {fd : FuncData} (F : Fun K "law" "law" s_law f fd) (T : Txt K mg) : FnOk PySem.Challenge.pw_grainyard_k70_error_classes w K mg base CX0 4 f fd ["_law_script"] (spLaw K) := by
  refine F.ok sc_law (fun vs H Q E h => ?_) (fun cdv A outer s H vs Q E hr h => ?_)
  · obtain ⟨a, ns, rfl, _⟩ := h
    rfl
  · obtain ⟨a, ns, rfl, hS, hlen, q⟩ := h
    refine ⟨_, (pss_cons (ps_set (i := 1) sc_law.nd rfl (Or.inl rfl) (pe_call (ok_source T) (hr.mono (by decide)) (by rfl) T.g_source T.F_source.kp T.b_source .nil pass0 (pa_cons (pv 0) pa_nil)))
      (pss_cons (ps_par (i := 6) (j := 7) (by rfl) sc_law.nd rfl rfl (by decide) rfl rfl (pa_cons (pe_call (ok_a_far T) (hr.mono (by decide)) (by rfl) T.g_a_far T.F_a_far.kp T.b_a_far .nil pass0 (pa_cons (pv 1) pa_nil)) (pa_cons (pe_call (ok_pull T) (hr.mono (by decide)) (by rfl) T.g_pull T.F_pull.kp T.b_pull .nil pass0 (pa_cons (pv 1) (pa_cons pe_int pa_nil))) pa_nil)) (by rfl))
      (pss_cons (ps_set (i := 2) sc_law.nd rfl (Or.inl rfl) pe_str)
      (pss_cons (ps_set (i := 2) sc_law.nd rfl (Or.inl rfl) (pe_op op_add_str (pv 2) pe_str))
      (pss_cons (ps_set (i := 2) sc_law.nd rfl (Or.inl rfl) (pe_op op_add_str (pv 2) pe_str))
      (pss_cons (ps_set (i := 2) sc_law.nd rfl (Or.inl rfl) (pe_splitAny (pv 2) pe_str))
      (pss_cons (ps_set (i := 3) sc_law.nd rfl (Or.inl rfl) (pe_call (ok_all T) (hr.mono (by decide)) (by rfl) T.g_all T.F_all.kp T.b_all .nil pass0 (pa_cons (pv 6) pa_nil)))
      (pss_cons (ps_set (i := 4) sc_law.nd rfl (Or.inl rfl) (pe_lst (pa_cons pe_str (pa_cons pe_str (pa_cons pe_str (pa_cons pe_str (pa_cons pe_str (pa_cons pe_str pa_nil))))))))
      (pss_cons (ps_for PassesOwn.never rfl (pi_range1 (by rfl) T.n_range (pa_cons pe_int pa_nil)) (pg_name (i := 5) sc_law.nd rfl (Or.inl rfl)) (pss_cons (ps_set (i := 8) sc_law.nd rfl (Or.inr rfl) (pe_op op_mod (pe_op op_add (pv 7) (pv 5)) pe_int))
      (pss_cons (ps_set (i := 9) sc_law.nd rfl (Or.inl rfl) (pe_ix ix_list (pv 3) (pv 8) (fun _ _ => rfl)))
      (pss_cons (ps_if (PW.pt (pw_or (pt_cmpR (op_neD hr.units) (pe_call (ok_flags T) (hr.mono (by decide)) (by rfl) T.g_flags T.F_flags.kp T.b_flags .nil pass0 (pa_cons (pv 9) pa_nil)) (pe_lc (own := [("_law_j", 12)]) (g := (gName 12)) (tt := tYes) (te := tOp rEq _ _) (by rfl) sc_law.nd (pi_range1 (by rfl) T.n_range (pa_cons pe_int pa_nil)) (blkOk_by (own := [("_law_j", 12)]) (N := ["_law_script", "_law_bag", "_law_words", "_law_errors", "_law_plain", "_law_turn", "_law_number", "_law_first", "_law_k", "_law_e", "_law_bases", "_law_field", "_law_j"]) (sc := defScope s_law) (by decide +kernel)) (fun _ _ _ _ _ => (pg_name (i := 12) sc_law.nd rfl (Or.inl rfl))) (fun _ _ _ _ _ => pts_nil) (fun _ _ _ _ _ => (pe_cmpR op_eq (pv 12) (pv 8) (nomark _)))) (nomark _)) (pw_or1 (pt_cmpR op_ne (pe_xo (pv 9)) (pe_ix ix_list (pv 2) (pv 8) (fun _ _ => rfl)) (nomark _))))) (pss_one (ps_ret pe_bl)) pss_nil)
      (pss_cons (ps_set (i := 10) sc_law.nd rfl (Or.inl rfl) (pe_lst (pa_cons (pe_callB (call_isO T.hn T.ht) (by rfl) T.n_isinstance (by decide +kernel) (pa_cons (pv 9) (pa_cons (pe_glob (v := .ref T.r_GrainError) (by rfl) T.g_GrainError rfl) pa_nil))) (pa_cons (pe_callB (call_isO T.hn T.ht) (by rfl) T.n_isinstance (by decide +kernel) (pa_cons (pv 9) (pa_cons (pe_bltn (v := .ty "ValueError") (by rfl) T.n_ValueError (by decide +kernel) rfl) pa_nil))) (pa_cons (pe_callB (call_isO T.hn T.ht) (by rfl) T.n_isinstance (by decide +kernel) (pa_cons (pv 9) (pa_cons (pe_glob (v := .ref T.r_GrainMissing) (by rfl) T.g_GrainMissing rfl) pa_nil))) (pa_cons (pe_callB (call_isO T.hn T.ht) (by rfl) T.n_isinstance (by decide +kernel) (pa_cons (pv 9) (pa_cons (pe_bltn (v := .ty "LookupError") (by rfl) T.n_LookupError (by decide +kernel) rfl) pa_nil))) pa_nil))))))
      (pss_cons (ps_if (PW.pt (pw_or (pt_cmpR (op_neD hr.units) (pv 10) (pe_lst (pa_cons (pe_cmpR op_lt (pv 8) pe_int (nomark _)) (pa_cons (pe_cmpR op_lt (pv 8) pe_int (nomark _)) (pa_cons (pe_chain op_lt op_lt pe_int (pv 8) pe_int) (pa_cons (pe_cmpR op_gt (pv 8) pe_int (nomark _)) pa_nil))))) (nomark _)) (pw_or1 (pt_cmpR op_ne (pe_callB (call_isO T.hn T.ht) (by rfl) T.n_isinstance (by decide +kernel) (pa_cons (pv 9) (pa_cons (pe_bltn (v := .ty "IndexError") (by rfl) T.n_IndexError (by decide +kernel) rfl) pa_nil))) (pe_cmpR op_eq (pv 8) pe_int (nomark _)) (nomark _))))) (pss_one (ps_ret pe_bl)) pss_nil)
      (pss_cons (ps_set (i := 11) sc_law.nd rfl (Or.inl rfl) (pe_ifExp (pt_cmpR op_lt (pv 8) pe_int (nomark _)) (pe_call (ok_field_of T) (hr.mono (by decide)) (by rfl) T.g_field_of T.F_field_of.kp T.b_field_of .nil pass0 (pa_cons (pv 9) pa_nil)) (pe_ifExp (pt_cmpR op_eq (pv 8) pe_int (nomark _)) (pe_xo (pv 9)) (pe_ifExp (pt_cmpR op_lt (pv 8) pe_int (nomark _)) (pe_xo (pv 9)) pe_non))))
      (pss_one (ps_if (pt_cmpR op_ne (pv 11) (pe_ifExp (pt_cmpR op_in_seq (pe_ix ix_list (pv 2) (pv 8) (fun _ _ => rfl)) (pv 4) (by rfl)) pe_non (pv 6)) (nomark _)) (pss_one (ps_ret pe_bl)) pss_nil)))))))))
      (pss_one (ps_ret pe_bl))))))))))), ?_⟩
    refine ⟨.ref a, rfl, a, ns, rfl, hS, hlen, fun b sb H1 hb s1 B1 => ?_⟩
    refine ⟨.ref b, rfl, b, sb, rfl, B1, fun n H2 n0 n1 B2 k2 => ?_⟩
    refine ⟨.ref b, rfl, b, sb, 22, rfl, B2, by decide, by decide, fun z H3 z0 z1 B3 k3 => ?_⟩
    refine ⟨_, _, rfl, ?_⟩
    refine ⟨_, rfl, _, _, rfl, rfl, by decide +kernel, ?_⟩
    refine ⟨_, rfl, _, _, rfl, rfl, by decide +kernel, ?_⟩
    refine ⟨_, rfl, ⟨_, rfl⟩, .inl ⟨_, _, rfl, rfl, by decide +kernel, by decide +kernel, fun p hp => ?_⟩⟩
    have W4 := put_of (o := .lst (wds.map V.str)) hp
    have S4 := same_new (o := .lst (wds.map V.str)) hp
    rw [words_are]
    generalize upd H3 p (.lst (wds.map V.str)) = H4 at W4 S4 ⊢
    refine ⟨_, rfl, .int n, rfl, fun L xs H5 hL s5 e5 V5 => ?_⟩
    refine ⟨by show 6 ≤ sizeLine; decide, fun Lp hLp => ?_⟩
    have P6 := put_of (o := .lst [.str "BadSheet", .str "OtherRoot", .str "NotEnough", .str "BadWidths", .str "BadForm", .str "NothingLeft"]) hLp
    have S6 := same_new (o := .lst [.str "BadSheet", .str "OtherRoot", .str "NotEnough", .str "BadWidths", .str "BadForm", .str "NothingLeft"]) hLp
    have w6 := S6 _ _ (s5 _ _ W4)
    have e6 := S6 _ _ e5
    have V6 := V5.same S6
    clear W4 S4 hp s5 e5 hL V5
    generalize upd H5 Lp (.lst [.str "BadSheet", .str "OtherRoot", .str "NotEnough", .str "BadWidths", .str "BadForm", .str "NothingLeft"]) = H6 at P6 S6 w6 e6 V6 ⊢
    refine ⟨22, rfl, by decide, by decide, for_range (lo := 0) (n := 22) (fun i σ H' => ∃ y5 y8 y9 y10 y11 y12, σ = [some (.ref a), some (.ref b), some (.ref p), some (.ref L), some (.ref Lp), y5, some (.int n), some (.int z), y8, y9, y10, y11, y12] ∧ Same H6 H') ⟨_, _, _, _, _, _, rfl, fun _ _ e => e⟩ ?_ ?_⟩
    · rintro j σ H7 hj ⟨y5, y8, y9, y10, y11, y12, rfl, sm⟩
      refine ⟨_, rfl, _, rfl, z, _, rfl, rfl, _, 22, rfl, rfl, (by show (0 : Int) < 22; decide), ?_⟩
      obtain ⟨i, hi, hk⟩ : ∃ i : Nat, i < 22 ∧ (z + (0 + (j : Int))) % 22 = (i : Int) := ⟨((z + (0 + (j : Int))) % 22).toNat, by omega, by omega⟩
      obtain ⟨x, hx⟩ : ∃ x, xs[i]? = some x := ⟨_, List.getElem?_eq_getElem (by rw [V6.1]; exact hi)⟩
      have E7 : EvAt T H7 (.int n) i x := (V6.2 i x hx).same sm
      refine ⟨_, rfl, _, rfl, L, xs, (i : Int), x, rfl, congrArg V.int hk, SqL.of (sm _ _ e6), atI_nat hx, ?_⟩
      refine ⟨_, rfl, x, .int n, i, rfl, hi, E7, fun Lf H8 s8 f8 => ?_⟩
      refine ⟨22, rfl, by decide, by decide, fun D hD => lc_range (lo := 0) (n := 22) (fun m H' => Same H8 H' ∧ H' D = some (.lst (((List.range m).map fun j => (j == i)).map V.bl))) ⟨same_new hD, upd_same⟩ ?_ ?_⟩
      · rintro m H' hm ⟨sm', hd⟩
        refine ⟨rfl, ⟨_, rfl, _, rfl, rfl, _, hd, ?_, ?_, ?_⟩⟩
        · rw [List.length_map, List.length_map, List.length_range]
          exact small1000 (by omega)
        · exact fun a o e => (upd_ne (ne_of_none e hD)).trans (sm' a o e)
        · rw [upd_same, List.range_succ, List.map_append, List.map_append]
          exact congrArg (fun u => some (HO.lst (_ ++ [V.bl u]))) (dec_j hk)
      rintro H9 ⟨sm9, d9⟩
      refine ⟨_, _, .lst (SqL.of (sm9 _ _ f8)) (dp_bools _), .lst (SqL.of d9) (dp_bools (flagsOf i)), shaped_flags hi, shaped_flags hi, _, rfl, ite2 (fun e => absurd e (by rw [eqv_bools]; decide)) (fun _ => ?_)⟩
      have s9 := s8.trans sm9
      have E9 := E7.same s9
      have t9 := sm.trans s9
      refine ⟨_, rfl, rd_word hi E9 ?_⟩
      refine ⟨_, rfl, _, rfl, p, _, (i : Int), .str (wd i), rfl, congrArg V.int hk, SqL.of (t9 _ _ w6), atI_nat (words_at hi), rfl, _, rfl, ite2 (fun e => absurd e (by simp)) (fun _ => ?_)⟩
      refine ⟨_, rfl, isi_any hi E9 (.own _) (kit_ge T hi) ?_⟩
      refine ⟨_, rfl, isi_any hi E9 (.ty _) (kit_ve T hi) ?_⟩
      refine ⟨_, rfl, isi_any hi E9 (.own _) (kit_gm T hi) ?_⟩
      refine ⟨_, rfl, isi_any hi E9 (.ty _) (kit_le T hi) ?_⟩
      refine ⟨by show 4 ≤ sizeLine; decide, fun L1 hL1 => ?_⟩
      have e10 := same_new (o := .lst [.bl (decide (i < 18)), .bl (decide (i < 18)), .bl (decide (17 < i) && decide (i < 21)), .bl (decide (17 < i))]) hL1
      have b10 := put_of (o := .lst [.bl (decide (i < 18)), .bl (decide (i < 18)), .bl (decide (17 < i) && decide (i < 21)), .bl (decide (17 < i))]) hL1
      have E10 := E9.same e10
      have t10 := t9.trans e10
      generalize upd H9 L1 (.lst [.bl (decide (i < 18)), .bl (decide (i < 18)), .bl (decide (17 < i) && decide (i < 21)), .bl (decide (17 < i))]) = H10 at e10 b10 E10 t10 ⊢
      refine ⟨_, rfl, _, rfl, _, 18, rfl, rfl, _, rfl, _, 18, rfl, rfl, _, rfl, 17, _, rfl, rfl, _, rfl, ite2 (fun e1 => ?_) (fun e1 => ?_)⟩
      · have g1 : 17 < (z + (0 + (j : Int))) % 22 := of_decide_eq_true e1
        refine ⟨_, 21, rfl, rfl, ?_⟩
        refine ⟨_, rfl, _, 17, rfl, rfl, by show 4 ≤ sizeLine; decide, fun L2 hL2 => ?_⟩
        have e11 := same_new (o := .lst [.bl (decide ((z + (0 + (j : Int))) % 22 < 18)), .bl (decide ((z + (0 + (j : Int))) % 22 < 18)), .bl (decide ((z + (0 + (j : Int))) % 22 < 21)), .bl (decide ((z + (0 + (j : Int))) % 22 > 17))]) hL2
        have E11 := E10.same e11
        have t11 := t10.trans e11
        refine ⟨.list [.bool (decide (i < 18)), .bool (decide (i < 18)), .bool (decide (17 < i) && decide (i < 21)), .bool (decide (17 < i))], .list [.bool (decide ((z + (0 + (j : Int))) % 22 < 18)), .bool (decide ((z + (0 + (j : Int))) % 22 < 18)), .bool (decide ((z + (0 + (j : Int))) % 22 < 21)), .bool (decide ((z + (0 + (j : Int))) % 22 > 17))], .lst (SqL.of (e11 _ _ b10)) (.cons (.bl _) (.cons (.bl _) (.cons (.bl _) (.cons (.bl _) .nil)))), .lst (SqL.of upd_same) (.cons (.bl _) (.cons (.bl _) (.cons (.bl _) (.cons (.bl _) .nil)))), shaped4 _ _ _ _, shaped4 _ _ _ _, _, rfl, ite2 (fun e => absurd e ?_) (fun _ => ?_)⟩
        · rw [eqv4 (show decide (i < 18) = decide ((z + (0 + (j : Int))) % 22 < 18) from decide_eq_decide.mpr (by omega)) (show decide (i < 18) = decide ((z + (0 + (j : Int))) % 22 < 18) from decide_eq_decide.mpr (by omega)) (show (decide (17 < i) && decide (i < 21)) = decide ((z + (0 + (j : Int))) % 22 < 21) from by rw [decide_eq_true (show 17 < i by omega), Bool.true_and]; exact decide_eq_decide.mpr (by omega)) (show decide (17 < i) = decide ((z + (0 + (j : Int))) % 22 > 17) from decide_eq_decide.mpr (by omega))]
          decide
        refine ⟨_, rfl, isi_any hi E11 (.ty _) (kit_ie T hi) ?_⟩
        refine ⟨_, rfl, rfl, rfl, _, rfl, ite2 (fun e => absurd e (ne21 hk)) (fun _ => ?_)⟩
        refine ⟨_, rfl, _, 18, rfl, rfl, _, rfl, ite2 (fun e2 => ?_) (fun e2 => ?_)⟩
        · have g2 : (z + (0 + (j : Int))) % 22 < 18 := of_decide_eq_true e2
          refine ⟨_, rfl, x, .int n, i, rfl, by omega, E11, fun H12 s12 => ?_⟩
          have t12 := t11.trans s12
          cases hfd : fds.getD i none with
          | none =>
            rw [fieldV_none hfd]
            refine ⟨_, rfl, _, rfl, _, rfl, p, _, (i : Int), .str (wd i), rfl, congrArg V.int hk, SqL.of (t12 _ _ w6), atI_nat (words_at hi), _, rfl, Lp, _, rfl, .inl (SqL.of (t12 _ _ P6)), rfl, rfl, _, rfl, ite2 (fun e5 => ?_) (fun e5 => ?_)⟩
            · exact ⟨rfl, _, rfl, ite2 (fun e => absurd e (by simp)) (fun _ => ⟨_, _, _, _, _, _, rfl, t12⟩)⟩
            · exact absurd ((plain_in hi).trans (by rw [hfd]; rfl)) e5
          | some fn =>
            rw [fieldV_some hfd]
            refine ⟨_, rfl, _, rfl, _, rfl, p, _, (i : Int), .str (wd i), rfl, congrArg V.int hk, SqL.of (t12 _ _ w6), atI_nat (words_at hi), _, rfl, Lp, _, rfl, .inl (SqL.of (t12 _ _ P6)), rfl, rfl, _, rfl, ite2 (fun e5 => ?_) (fun e5 => ?_)⟩
            · exact absurd ((plain_in hi).symm.trans e5) (by rw [hfd]; simp)
            · exact ⟨_, rfl, rfl, _, rfl, ite2 (fun e => absurd e (by simp)) (fun _ => ⟨_, _, _, _, _, _, rfl, t12⟩)⟩
        · have g2 : ¬ (z + (0 + (j : Int))) % 22 < 18 := fun h => e2 (decide_eq_true h)
          refine ⟨_, rfl, rfl, _, rfl, ite2 (fun e3 => ?_) (fun e3 => ?_)⟩
          · have g3 : (z + (0 + (j : Int))) % 22 = 18 := V.int.inj (of_decide_eq_true e3)
            have i18 : i = 18 := by omega
            have hfd : fds.getD i none = some ("sheet" : Str) := by rw [i18]; rfl
            refine ⟨_, rfl, rd_fld hi E11 hfd ?_⟩
            refine ⟨_, rfl, _, rfl, _, rfl, p, _, (i : Int), .str (wd i), rfl, congrArg V.int hk, SqL.of (t11 _ _ w6), atI_nat (words_at hi), _, rfl, Lp, _, rfl, .inl (SqL.of (t11 _ _ P6)), rfl, rfl, _, rfl, ite2 (fun e5 => ?_) (fun e5 => ?_)⟩
            · exact absurd ((plain_in hi).symm.trans e5) (by rw [hfd]; simp)
            · exact ⟨_, rfl, rfl, _, rfl, ite2 (fun e => absurd e (by simp)) (fun _ => ⟨_, _, _, _, _, _, rfl, t11⟩)⟩
          · have g3 : ¬ (z + (0 + (j : Int))) % 22 = 18 := fun h => e3 (decide_eq_true (congrArg V.int h))
            refine ⟨_, rfl, _, 21, rfl, rfl, _, rfl, ite2 (fun e4 => ?_) (fun e4 => ?_)⟩
            · have g4 : (z + (0 + (j : Int))) % 22 < 21 := of_decide_eq_true e4
              have hfd : fds.getD i none = some ("name" : Str) := name_at (by omega) (by omega)
              refine ⟨_, rfl, rd_fld hi E11 hfd ?_⟩
              refine ⟨_, rfl, _, rfl, _, rfl, p, _, (i : Int), .str (wd i), rfl, congrArg V.int hk, SqL.of (t11 _ _ w6), atI_nat (words_at hi), _, rfl, Lp, _, rfl, .inl (SqL.of (t11 _ _ P6)), rfl, rfl, _, rfl, ite2 (fun e5 => ?_) (fun e5 => ?_)⟩
              · exact absurd ((plain_in hi).symm.trans e5) (by rw [hfd]; simp)
              · exact ⟨_, rfl, rfl, _, rfl, ite2 (fun e => absurd e (by simp)) (fun _ => ⟨_, _, _, _, _, _, rfl, t11⟩)⟩
            · have g4 : ¬ (z + (0 + (j : Int))) % 22 < 21 := fun h => e4 (decide_eq_true h)
              have i21 : i = 21 := by omega
              have hfd : fds.getD i none = none := by rw [i21]; rfl
              refine ⟨_, rfl, _, rfl, _, rfl, p, _, (i : Int), .str (wd i), rfl, congrArg V.int hk, SqL.of (t11 _ _ w6), atI_nat (words_at hi), _, rfl, Lp, _, rfl, .inl (SqL.of (t11 _ _ P6)), rfl, rfl, _, rfl, ite2 (fun e5 => ?_) (fun e5 => ?_)⟩
              · exact ⟨rfl, _, rfl, ite2 (fun e => absurd e (by simp)) (fun _ => ⟨_, _, _, _, _, _, rfl, t11⟩)⟩
              · exact absurd ((plain_in hi).trans (by rw [hfd]; rfl)) e5
      · have g1 : ¬ 17 < (z + (0 + (j : Int))) % 22 := fun h => e1 (decide_eq_true h)
        refine ⟨_, rfl, _, 17, rfl, rfl, by show 4 ≤ sizeLine; decide, fun L2 hL2 => ?_⟩
        have e11 := same_new (o := .lst [.bl (decide ((z + (0 + (j : Int))) % 22 < 18)), .bl (decide ((z + (0 + (j : Int))) % 22 < 18)), .bl (false), .bl (decide ((z + (0 + (j : Int))) % 22 > 17))]) hL2
        have E11 := E10.same e11
        have t11 := t10.trans e11
        refine ⟨.list [.bool (decide (i < 18)), .bool (decide (i < 18)), .bool (decide (17 < i) && decide (i < 21)), .bool (decide (17 < i))], .list [.bool (decide ((z + (0 + (j : Int))) % 22 < 18)), .bool (decide ((z + (0 + (j : Int))) % 22 < 18)), .bool (false), .bool (decide ((z + (0 + (j : Int))) % 22 > 17))], .lst (SqL.of (e11 _ _ b10)) (.cons (.bl _) (.cons (.bl _) (.cons (.bl _) (.cons (.bl _) .nil)))), .lst (SqL.of upd_same) (.cons (.bl _) (.cons (.bl _) (.cons (.bl _) (.cons (.bl _) .nil)))), shaped4 _ _ _ _, shaped4 _ _ _ _, _, rfl, ite2 (fun e => absurd e ?_) (fun _ => ?_)⟩
        · rw [eqv4 (show decide (i < 18) = decide ((z + (0 + (j : Int))) % 22 < 18) from decide_eq_decide.mpr (by omega)) (show decide (i < 18) = decide ((z + (0 + (j : Int))) % 22 < 18) from decide_eq_decide.mpr (by omega)) (show (decide (17 < i) && decide (i < 21)) = false from by rw [decide_eq_false (show ¬ 17 < i by omega)]; rfl) (show decide (17 < i) = decide ((z + (0 + (j : Int))) % 22 > 17) from decide_eq_decide.mpr (by omega))]
          decide
        refine ⟨_, rfl, isi_any hi E11 (.ty _) (kit_ie T hi) ?_⟩
        refine ⟨_, rfl, rfl, rfl, _, rfl, ite2 (fun e => absurd e (ne21 hk)) (fun _ => ?_)⟩
        refine ⟨_, rfl, _, 18, rfl, rfl, _, rfl, ite2 (fun e2 => ?_) (fun e2 => ?_)⟩
        · have g2 : (z + (0 + (j : Int))) % 22 < 18 := of_decide_eq_true e2
          refine ⟨_, rfl, x, .int n, i, rfl, by omega, E11, fun H12 s12 => ?_⟩
          have t12 := t11.trans s12
          cases hfd : fds.getD i none with
          | none =>
            rw [fieldV_none hfd]
            refine ⟨_, rfl, _, rfl, _, rfl, p, _, (i : Int), .str (wd i), rfl, congrArg V.int hk, SqL.of (t12 _ _ w6), atI_nat (words_at hi), _, rfl, Lp, _, rfl, .inl (SqL.of (t12 _ _ P6)), rfl, rfl, _, rfl, ite2 (fun e5 => ?_) (fun e5 => ?_)⟩
            · exact ⟨rfl, _, rfl, ite2 (fun e => absurd e (by simp)) (fun _ => ⟨_, _, _, _, _, _, rfl, t12⟩)⟩
            · exact absurd ((plain_in hi).trans (by rw [hfd]; rfl)) e5
          | some fn =>
            rw [fieldV_some hfd]
            refine ⟨_, rfl, _, rfl, _, rfl, p, _, (i : Int), .str (wd i), rfl, congrArg V.int hk, SqL.of (t12 _ _ w6), atI_nat (words_at hi), _, rfl, Lp, _, rfl, .inl (SqL.of (t12 _ _ P6)), rfl, rfl, _, rfl, ite2 (fun e5 => ?_) (fun e5 => ?_)⟩
            · exact absurd ((plain_in hi).symm.trans e5) (by rw [hfd]; simp)
            · exact ⟨_, rfl, rfl, _, rfl, ite2 (fun e => absurd e (by simp)) (fun _ => ⟨_, _, _, _, _, _, rfl, t12⟩)⟩
        · have g2 : ¬ (z + (0 + (j : Int))) % 22 < 18 := fun h => e2 (decide_eq_true h)
          refine ⟨_, rfl, rfl, _, rfl, ite2 (fun e3 => ?_) (fun e3 => ?_)⟩
          · have g3 : (z + (0 + (j : Int))) % 22 = 18 := V.int.inj (of_decide_eq_true e3)
            have i18 : i = 18 := by omega
            have hfd : fds.getD i none = some ("sheet" : Str) := by rw [i18]; rfl
            refine ⟨_, rfl, rd_fld hi E11 hfd ?_⟩
            refine ⟨_, rfl, _, rfl, _, rfl, p, _, (i : Int), .str (wd i), rfl, congrArg V.int hk, SqL.of (t11 _ _ w6), atI_nat (words_at hi), _, rfl, Lp, _, rfl, .inl (SqL.of (t11 _ _ P6)), rfl, rfl, _, rfl, ite2 (fun e5 => ?_) (fun e5 => ?_)⟩
            · exact absurd ((plain_in hi).symm.trans e5) (by rw [hfd]; simp)
            · exact ⟨_, rfl, rfl, _, rfl, ite2 (fun e => absurd e (by simp)) (fun _ => ⟨_, _, _, _, _, _, rfl, t11⟩)⟩
          · have g3 : ¬ (z + (0 + (j : Int))) % 22 = 18 := fun h => e3 (decide_eq_true (congrArg V.int h))
            refine ⟨_, rfl, _, 21, rfl, rfl, _, rfl, ite2 (fun e4 => ?_) (fun e4 => ?_)⟩
            · have g4 : (z + (0 + (j : Int))) % 22 < 21 := of_decide_eq_true e4
              have hfd : fds.getD i none = some ("name" : Str) := name_at (by omega) (by omega)
              refine ⟨_, rfl, rd_fld hi E11 hfd ?_⟩
              refine ⟨_, rfl, _, rfl, _, rfl, p, _, (i : Int), .str (wd i), rfl, congrArg V.int hk, SqL.of (t11 _ _ w6), atI_nat (words_at hi), _, rfl, Lp, _, rfl, .inl (SqL.of (t11 _ _ P6)), rfl, rfl, _, rfl, ite2 (fun e5 => ?_) (fun e5 => ?_)⟩
              · exact absurd ((plain_in hi).symm.trans e5) (by rw [hfd]; simp)
              · exact ⟨_, rfl, rfl, _, rfl, ite2 (fun e => absurd e (by simp)) (fun _ => ⟨_, _, _, _, _, _, rfl, t11⟩)⟩
            · have g4 : ¬ (z + (0 + (j : Int))) % 22 < 21 := fun h => e4 (decide_eq_true h)
              have i21 : i = 21 := by omega
              have hfd : fds.getD i none = none := by rw [i21]; rfl
              refine ⟨_, rfl, _, rfl, _, rfl, p, _, (i : Int), .str (wd i), rfl, congrArg V.int hk, SqL.of (t11 _ _ w6), atI_nat (words_at hi), _, rfl, Lp, _, rfl, .inl (SqL.of (t11 _ _ P6)), rfl, rfl, _, rfl, ite2 (fun e5 => ?_) (fun e5 => ?_)⟩
              · exact ⟨rfl, _, rfl, ite2 (fun e => absurd e (by simp)) (fun _ => ⟨_, _, _, _, _, _, rfl, t11⟩)⟩
              · exact absurd ((plain_in hi).trans (by rw [hfd]; rfl)) e5
    · rintro σ H' ⟨y5, y8, y9, y10, y11, y12, rfl, sm⟩
      exact q _
end
theorem all_mk {w : World} {K : PySem.W.Frag} {h : Heap} {mg : Str → Option Value} {fa : Addr} (X : K.In h) (G : h.Ns mainGlobals mg) (hfa : mg "law" = some (.ref fa))
    {od0 an0 : Option Addr} {sl0 : Array (Option Value)} {oc0 kV0 dc0 pm0 cd0 ct0 : Value} {f0 : Addr}
    (a0 : PySem.W.nsIn K mainGlobals "_law_source" = some (some (.ref f0))) (l0 : K.lookup f0 = some ⟨oc0, od0, .func (PySem.W.fnOf "_law_source" "_law_source" (defArgs s_source) (defBody s_source) (defScope s_source) .none kV0 dc0 pm0 an0 cd0 ct0), sl0⟩) (c0 : PySem.W.codeIn K cd0 "_law_source" = true) (k0 : PySem.W.keepIn K (.ref f0) = true)
    {od1 an1 : Option Addr} {sl1 : Array (Option Value)} {oc1 kV1 dc1 pm1 cd1 ct1 : Value} {f1 : Addr}
    (a1 : PySem.W.nsIn K mainGlobals "_law_pull" = some (some (.ref f1))) (l1 : K.lookup f1 = some ⟨oc1, od1, .func (PySem.W.fnOf "_law_pull" "_law_pull" (defArgs s_pull) (defBody s_pull) (defScope s_pull) .none kV1 dc1 pm1 an1 cd1 ct1), sl1⟩) (c1 : PySem.W.codeIn K cd1 "_law_pull" = true) (k1 : PySem.W.keepIn K (.ref f1) = true)
    {od2 an2 : Option Addr} {sl2 : Array (Option Value)} {oc2 kV2 dc2 pm2 cd2 ct2 : Value} {f2 : Addr}
    (a2 : PySem.W.nsIn K mainGlobals "_law_of" = some (some (.ref f2))) (l2 : K.lookup f2 = some ⟨oc2, od2, .func (PySem.W.fnOf "_law_of" "_law_of" (defArgs s_of) (defBody s_of) (defScope s_of) .none kV2 dc2 pm2 an2 cd2 ct2), sl2⟩) (c2 : PySem.W.codeIn K cd2 "_law_of" = true) (k2 : PySem.W.keepIn K (.ref f2) = true)
    {od3 an3 : Option Addr} {sl3 : Array (Option Value)} {oc3 kV3 dc3 pm3 cd3 ct3 : Value} {f3 : Addr}
    (a3 : PySem.W.nsIn K mainGlobals "_law_a_far" = some (some (.ref f3))) (l3 : K.lookup f3 = some ⟨oc3, od3, .func (PySem.W.fnOf "_law_a_far" "_law_a_far" (defArgs s_a_far) (defBody s_a_far) (defScope s_a_far) .none kV3 dc3 pm3 an3 cd3 ct3), sl3⟩) (c3 : PySem.W.codeIn K cd3 "_law_a_far" = true) (k3 : PySem.W.keepIn K (.ref f3) = true)
    {od4 an4 : Option Addr} {sl4 : Array (Option Value)} {oc4 kV4 dc4 pm4 cd4 ct4 : Value} {f4 : Addr}
    (a4 : PySem.W.nsIn K mainGlobals "_law_all" = some (some (.ref f4))) (l4 : K.lookup f4 = some ⟨oc4, od4, .func (PySem.W.fnOf "_law_all" "_law_all" (defArgs s_all) (defBody s_all) (defScope s_all) .none kV4 dc4 pm4 an4 cd4 ct4), sl4⟩) (c4 : PySem.W.codeIn K cd4 "_law_all" = true) (k4 : PySem.W.keepIn K (.ref f4) = true)
    {od5 an5 : Option Addr} {sl5 : Array (Option Value)} {oc5 kV5 dc5 pm5 cd5 ct5 : Value} {f5 : Addr}
    (a5 : PySem.W.nsIn K mainGlobals "_law_flags" = some (some (.ref f5))) (l5 : K.lookup f5 = some ⟨oc5, od5, .func (PySem.W.fnOf "_law_flags" "_law_flags" (defArgs s_flags) (defBody s_flags) (defScope s_flags) .none kV5 dc5 pm5 an5 cd5 ct5), sl5⟩) (c5 : PySem.W.codeIn K cd5 "_law_flags" = true) (k5 : PySem.W.keepIn K (.ref f5) = true)
    {od6 an6 : Option Addr} {sl6 : Array (Option Value)} {oc6 kV6 dc6 pm6 cd6 ct6 : Value} {f6 : Addr}
    (a6 : PySem.W.nsIn K mainGlobals "_law_field_of" = some (some (.ref f6))) (l6 : K.lookup f6 = some ⟨oc6, od6, .func (PySem.W.fnOf "_law_field_of" "_law_field_of" (defArgs s_field_of) (defBody s_field_of) (defScope s_field_of) .none kV6 dc6 pm6 an6 cd6 ct6), sl6⟩) (c6 : PySem.W.codeIn K cd6 "_law_field_of" = true) (k6 : PySem.W.keepIn K (.ref f6) = true)
    {od7 an7 : Option Addr} {sl7 : Array (Option Value)} {oc7 kV7 dc7 pm7 cd7 ct7 : Value} {f7 : Addr}
    (a7 : PySem.W.nsIn K mainGlobals "law" = some (some (.ref f7))) (l7 : K.lookup f7 = some ⟨oc7, od7, .func (PySem.W.fnOf "law" "law" (defArgs s_law) (defBody s_law) (defScope s_law) .none kV7 dc7 pm7 an7 cd7 ct7), sl7⟩) (c7 : PySem.W.codeIn K cd7 "law" = true) (k7 : PySem.W.keepIn K (.ref f7) = true)
    (z0 : PySem.W.nsIn K mainGlobals "ValueError" = some none)
    (z1 : PySem.W.nsIn K mainGlobals "LookupError" = some none)
    (z2 : PySem.W.nsIn K mainGlobals "IndexError" = some none)
    (z3 : PySem.W.nsIn K mainGlobals "range" = some none)
    (z4 : PySem.W.nsIn K mainGlobals "list" = some none)
    (z5 : PySem.W.nsIn K mainGlobals "isinstance" = some none)
    (z6 : PySem.W.nsIn K mainGlobals "len" = some none)
    (hn : PySem.W.specialIn K (.builtin "object.__class__") "__get__" = some (some (.builtin "getset_descriptor.__get__"))) (ht : PySem.W.takesIn K (.builtin "object.__class__") = some true)
    {CGrainError : Addr} {DGrainError : ClassData} (aGrainError : PySem.W.nsIn K mainGlobals "GrainError" = some (some (.ref CGrainError))) (cGrainError : PySem.W.clsIn K CGrainError = some DGrainError) (nGrainError : DGrainError.name = "GrainError") (tGrainError : PySem.W.typeIn K (.ref CGrainError) = some (.type "type")) (sbGrainError : PySem.W.subIn K (.ref CGrainError) (.type "BaseException") = some true)
    {CGrainMissing : Addr} {DGrainMissing : ClassData} (aGrainMissing : PySem.W.nsIn K mainGlobals "GrainMissing" = some (some (.ref CGrainMissing))) (cGrainMissing : PySem.W.clsIn K CGrainMissing = some DGrainMissing) (nGrainMissing : DGrainMissing.name = "GrainMissing") (tGrainMissing : PySem.W.typeIn K (.ref CGrainMissing) = some (.type "type")) (sbGrainMissing : PySem.W.subIn K (.ref CGrainMissing) (.type "BaseException") = some true)
    (E_BadRoot : ErW PySem.Challenge.pw_grainyard_k70_error_classes K mg "ValueError" "ValueError.__new__" "ValueError.__init__" [.type "ValueError", .type "Exception", .type "BaseException", .type "object"] [.ref CGrainError] i_BadRoot "BadRoot" "BadRoot.__init__" ["word", "number"])
    (E_BadCount : ErW PySem.Challenge.pw_grainyard_k70_error_classes K mg "ValueError" "ValueError.__new__" "ValueError.__init__" [.type "ValueError", .type "Exception", .type "BaseException", .type "object"] [.ref CGrainError] i_BadCount "BadCount" "BadCount.__init__" ["word", "number"])
    (E_BadLength : ErW PySem.Challenge.pw_grainyard_k70_error_classes K mg "ValueError" "ValueError.__new__" "ValueError.__init__" [.type "ValueError", .type "Exception", .type "BaseException", .type "object"] [.ref CGrainError] i_BadLength "BadLength" "BadLength.__init__" ["word", "at"])
    (E_BadSheet : ErW PySem.Challenge.pw_grainyard_k70_error_classes K mg "ValueError" "ValueError.__new__" "ValueError.__init__" [.type "ValueError", .type "Exception", .type "BaseException", .type "object"] [.ref CGrainError] i_BadSheet "BadSheet" "BadSheet.__init__" ["word"])
    (E_BadRow : ErW PySem.Challenge.pw_grainyard_k70_error_classes K mg "ValueError" "ValueError.__new__" "ValueError.__init__" [.type "ValueError", .type "Exception", .type "BaseException", .type "object"] [.ref CGrainError] i_BadRow "BadRow" "BadRow.__init__" ["word", "at"])
    (E_OtherRoot : ErW PySem.Challenge.pw_grainyard_k70_error_classes K mg "ValueError" "ValueError.__new__" "ValueError.__init__" [.type "ValueError", .type "Exception", .type "BaseException", .type "object"] [.ref CGrainError] i_OtherRoot "OtherRoot" "OtherRoot.__init__" ["word"])
    (E_BadStep : ErW PySem.Challenge.pw_grainyard_k70_error_classes K mg "ValueError" "ValueError.__new__" "ValueError.__init__" [.type "ValueError", .type "Exception", .type "BaseException", .type "object"] [.ref CGrainError] i_BadStep "BadStep" "BadStep.__init__" ["word", "at"])
    (E_NotLinked : ErW PySem.Challenge.pw_grainyard_k70_error_classes K mg "ValueError" "ValueError.__new__" "ValueError.__init__" [.type "ValueError", .type "Exception", .type "BaseException", .type "object"] [.ref CGrainError] i_NotLinked "NotLinked" "NotLinked.__init__" ["word", "number"])
    (E_NotEnough : ErW PySem.Challenge.pw_grainyard_k70_error_classes K mg "ValueError" "ValueError.__new__" "ValueError.__init__" [.type "ValueError", .type "Exception", .type "BaseException", .type "object"] [.ref CGrainError] i_NotEnough "NotEnough" "NotEnough.__init__" ["word"])
    (E_TooGreat : ErW PySem.Challenge.pw_grainyard_k70_error_classes K mg "ValueError" "ValueError.__new__" "ValueError.__init__" [.type "ValueError", .type "Exception", .type "BaseException", .type "object"] [.ref CGrainError] i_TooGreat "TooGreat" "TooGreat.__init__" ["word", "most"])
    (E_BadWidths : ErW PySem.Challenge.pw_grainyard_k70_error_classes K mg "ValueError" "ValueError.__new__" "ValueError.__init__" [.type "ValueError", .type "Exception", .type "BaseException", .type "object"] [.ref CGrainError] i_BadWidths "BadWidths" "BadWidths.__init__" ["word"])
    (E_NoSquares : ErW PySem.Challenge.pw_grainyard_k70_error_classes K mg "ValueError" "ValueError.__new__" "ValueError.__init__" [.type "ValueError", .type "Exception", .type "BaseException", .type "object"] [.ref CGrainError] i_NoSquares "NoSquares" "NoSquares.__init__" ["word", "reason"])
    (E_BadForm : ErW PySem.Challenge.pw_grainyard_k70_error_classes K mg "ValueError" "ValueError.__new__" "ValueError.__init__" [.type "ValueError", .type "Exception", .type "BaseException", .type "object"] [.ref CGrainError] i_BadForm "BadForm" "BadForm.__init__" ["word"])
    (E_BadText : ErW PySem.Challenge.pw_grainyard_k70_error_classes K mg "ValueError" "ValueError.__new__" "ValueError.__init__" [.type "ValueError", .type "Exception", .type "BaseException", .type "object"] [.ref CGrainError] i_BadText "BadText" "BadText.__init__" ["word", "at"])
    (E_BadName : ErW PySem.Challenge.pw_grainyard_k70_error_classes K mg "ValueError" "ValueError.__new__" "ValueError.__init__" [.type "ValueError", .type "Exception", .type "BaseException", .type "object"] [.ref CGrainError] i_BadName "BadName" "BadName.__init__" ["word", "name"])
    (E_Taken : ErW PySem.Challenge.pw_grainyard_k70_error_classes K mg "ValueError" "ValueError.__new__" "ValueError.__init__" [.type "ValueError", .type "Exception", .type "BaseException", .type "object"] [.ref CGrainError] i_Taken "Taken" "Taken.__init__" ["word", "name"])
    (E_Full : ErW PySem.Challenge.pw_grainyard_k70_error_classes K mg "ValueError" "ValueError.__new__" "ValueError.__init__" [.type "ValueError", .type "Exception", .type "BaseException", .type "object"] [.ref CGrainError] i_Full "Full" "Full.__init__" ["word", "most"])
    (E_BadDeed : ErW PySem.Challenge.pw_grainyard_k70_error_classes K mg "ValueError" "ValueError.__new__" "ValueError.__init__" [.type "ValueError", .type "Exception", .type "BaseException", .type "object"] [.ref CGrainError] i_BadDeed "BadDeed" "BadDeed.__init__" ["word", "at"])
    (E_NoSheet : ErW PySem.Challenge.pw_grainyard_k70_error_classes K mg "LookupError" "LookupError.__new__" "LookupError.__init__" [.type "LookupError", .type "Exception", .type "BaseException", .type "object"] [.ref CGrainMissing] i_NoSheet "NoSheet" "NoSheet.__init__" ["word", "sheet"])
    (E_NoName : ErW PySem.Challenge.pw_grainyard_k70_error_classes K mg "LookupError" "LookupError.__new__" "LookupError.__init__" [.type "LookupError", .type "Exception", .type "BaseException", .type "object"] [.ref CGrainMissing] i_NoName "NoName" "NoName.__init__" ["word", "name"])
    (E_NoOrder : ErW PySem.Challenge.pw_grainyard_k70_error_classes K mg "LookupError" "LookupError.__new__" "LookupError.__init__" [.type "LookupError", .type "Exception", .type "BaseException", .type "object"] [.ref CGrainMissing] i_NoOrder "NoOrder" "NoOrder.__init__" ["word", "name"])
    (E_NothingLeft : ErW PySem.Challenge.pw_grainyard_k70_error_classes K mg "IndexError" "IndexError.__new__" "IndexError.__init__" [.type "IndexError", .type "LookupError", .type "Exception", .type "BaseException", .type "object"] [] i_NothingLeft "NothingLeft" "NothingLeft.__init__" ["word"])
    : ∃ fd : FuncData, (∀ (s : Shared) (v : Value), BindsTo s fd ⟨[v], []⟩ [("_law_script", v)]) ∧ ∀ base : Heap, K.In base → base.Ns mainGlobals mg → FnOk PySem.Challenge.pw_grainyard_k70_error_classes w K mg base CX0 4 fa fd ["_law_script"] (spLaw K) := by
  have e := hfa.symm.trans (PySem.W.mg_of X G a7)
  cases e
  have F0 := fun_mk (st := s_source) l0 c0 k0
  have b0 := F0.binds (ps := ["_law_script"]) fun _ _ _ _ _ _ us hl => match us, hl with | [_], _ => rfl
  have F1 := fun_mk (st := s_pull) l1 c1 k1
  have b1 := F1.binds (ps := ["_law_bag", "_law_size"]) fun _ _ _ _ _ _ us hl => match us, hl with | [_, _], _ => rfl
  have F2 := fun_mk (st := s_of) l2 c2 k2
  have b2 := F2.binds (ps := ["_law_bag", "_law_some"]) fun _ _ _ _ _ _ us hl => match us, hl with | [_, _], _ => rfl
  have F3 := fun_mk (st := s_a_far) l3 c3 k3
  have b3 := F3.binds (ps := ["_law_bag"]) fun _ _ _ _ _ _ us hl => match us, hl with | [_], _ => rfl
  have F4 := fun_mk (st := s_all) l4 c4 k4
  have b4 := F4.binds (ps := ["_law_n"]) fun _ _ _ _ _ _ us hl => match us, hl with | [_], _ => rfl
  have F5 := fun_mk (st := s_flags) l5 c5 k5
  have b5 := F5.binds (ps := ["_law_e"]) fun _ _ _ _ _ _ us hl => match us, hl with | [_], _ => rfl
  have F6 := fun_mk (st := s_field_of) l6 c6 k6
  have b6 := F6.binds (ps := ["_law_e"]) fun _ _ _ _ _ _ us hl => match us, hl with | [_], _ => rfl
  have F7 := fun_mk (st := s_law) l7 c7 k7
  have T : Txt K mg := {
    f_source := f0
    d_source := _
    F_source := F0
    g_source := PySem.W.mg_of X G a0
    b_source := b0
    f_pull := f1
    d_pull := _
    F_pull := F1
    g_pull := PySem.W.mg_of X G a1
    b_pull := b1
    f_of := f2
    d_of := _
    F_of := F2
    g_of := PySem.W.mg_of X G a2
    b_of := b2
    f_a_far := f3
    d_a_far := _
    F_a_far := F3
    g_a_far := PySem.W.mg_of X G a3
    b_a_far := b3
    f_all := f4
    d_all := _
    F_all := F4
    g_all := PySem.W.mg_of X G a4
    b_all := b4
    f_flags := f5
    d_flags := _
    F_flags := F5
    g_flags := PySem.W.mg_of X G a5
    b_flags := b5
    f_field_of := f6
    d_field_of := _
    F_field_of := F6
    g_field_of := PySem.W.mg_of X G a6
    b_field_of := b6
    n_ValueError := PySem.W.mg_none_of X G z0
    n_LookupError := PySem.W.mg_none_of X G z1
    n_IndexError := PySem.W.mg_none_of X G z2
    n_range := PySem.W.mg_none_of X G z3
    n_list := PySem.W.mg_none_of X G z4
    n_isinstance := PySem.W.mg_none_of X G z5
    n_len := PySem.W.mg_none_of X G z6
    r_GrainError := CGrainError
    g_GrainError := PySem.W.mg_of X G aGrainError
    c_GrainError := .intro _ ⟨cGrainError,nGrainError⟩
    t_GrainError := tGrainError
    sb_GrainError := sbGrainError
    r_GrainMissing := CGrainMissing
    g_GrainMissing := PySem.W.mg_of X G aGrainMissing
    c_GrainMissing := .intro _ ⟨cGrainMissing,nGrainMissing⟩
    t_GrainMissing := tGrainMissing
    sb_GrainMissing := sbGrainMissing
    e_BadRoot := E_BadRoot.e
    x_BadRoot_word := E_BadRoot.no _ (by simp)
    x_BadRoot_number := E_BadRoot.no _ (by simp)
    e_BadCount := E_BadCount.e
    x_BadCount_word := E_BadCount.no _ (by simp)
    x_BadCount_number := E_BadCount.no _ (by simp)
    e_BadLength := E_BadLength.e
    x_BadLength_word := E_BadLength.no _ (by simp)
    x_BadLength_at := E_BadLength.no _ (by simp)
    e_BadSheet := E_BadSheet.e
    x_BadSheet_word := E_BadSheet.no _ (by simp)
    e_BadRow := E_BadRow.e
    x_BadRow_word := E_BadRow.no _ (by simp)
    x_BadRow_at := E_BadRow.no _ (by simp)
    e_OtherRoot := E_OtherRoot.e
    x_OtherRoot_word := E_OtherRoot.no _ (by simp)
    e_BadStep := E_BadStep.e
    x_BadStep_word := E_BadStep.no _ (by simp)
    x_BadStep_at := E_BadStep.no _ (by simp)
    e_NotLinked := E_NotLinked.e
    x_NotLinked_word := E_NotLinked.no _ (by simp)
    x_NotLinked_number := E_NotLinked.no _ (by simp)
    e_NotEnough := E_NotEnough.e
    x_NotEnough_word := E_NotEnough.no _ (by simp)
    e_TooGreat := E_TooGreat.e
    x_TooGreat_word := E_TooGreat.no _ (by simp)
    x_TooGreat_most := E_TooGreat.no _ (by simp)
    e_BadWidths := E_BadWidths.e
    x_BadWidths_word := E_BadWidths.no _ (by simp)
    e_NoSquares := E_NoSquares.e
    x_NoSquares_word := E_NoSquares.no _ (by simp)
    x_NoSquares_reason := E_NoSquares.no _ (by simp)
    e_BadForm := E_BadForm.e
    x_BadForm_word := E_BadForm.no _ (by simp)
    e_BadText := E_BadText.e
    x_BadText_word := E_BadText.no _ (by simp)
    x_BadText_at := E_BadText.no _ (by simp)
    e_BadName := E_BadName.e
    x_BadName_word := E_BadName.no _ (by simp)
    x_BadName_name := E_BadName.no _ (by simp)
    e_Taken := E_Taken.e
    x_Taken_word := E_Taken.no _ (by simp)
    x_Taken_name := E_Taken.no _ (by simp)
    e_Full := E_Full.e
    x_Full_word := E_Full.no _ (by simp)
    x_Full_most := E_Full.no _ (by simp)
    e_BadDeed := E_BadDeed.e
    x_BadDeed_word := E_BadDeed.no _ (by simp)
    x_BadDeed_at := E_BadDeed.no _ (by simp)
    e_NoSheet := E_NoSheet.e
    x_NoSheet_word := E_NoSheet.no _ (by simp)
    x_NoSheet_sheet := E_NoSheet.no _ (by simp)
    e_NoName := E_NoName.e
    x_NoName_word := E_NoName.no _ (by simp)
    x_NoName_name := E_NoName.no _ (by simp)
    e_NoOrder := E_NoOrder.e
    x_NoOrder_word := E_NoOrder.no _ (by simp)
    x_NoOrder_name := E_NoOrder.no _ (by simp)
    e_NothingLeft := E_NothingLeft.e
    x_NothingLeft_word := E_NothingLeft.no _ (by simp)
    hn := hn
    ht := ht }
  exact ⟨PySem.W.fnOf "law" "law" (defArgs s_law) (defBody s_law) (defScope s_law) .none kV7 dc7 pm7 an7 cd7 ct7, fun s v => .of_eq rfl, fun base _ _ => ok_law F7 T⟩
end Gy
open PySem PySem.W PyProof.Rows
set_option maxRecDepth 100000 in
set_option maxHeartbeats 0 in
theorem PySem.Challenge.cw_grainyard_k70_error_classes_holds : PySem.Challenge.rw_grainyard_k70_error_classes.Holds := by
  w_on; o_law; k_head; (case hw => w_witness2)
  k_fill
  refine L2.walk_of (l := PySem.Challenge.rw_grainyard_k70_error_classes) (n := 63) (k := 4) (x := "_law_script") (CX := fun _ => L2.CX0) (sp := fun w => Gy.spLaw _) rfl (by decide) rfl ⟨rfl, by decide, by decide⟩ (fun w h Y => PySem.W.kIn_of Y) ?F (fun _ _ a ns hl _ hS => ⟨a, ns, rfl, hS, hl, fun _ => rfl⟩) (fun _ _ _ _ _ h => h)
  case F =>
    intro w mg fa h KX G hmg
    refine' Gy.all_mk KX G hmg ?a0 ?l0 ?c0 ?k0 ?a1 ?l1 ?c1 ?k1 ?a2 ?l2 ?c2 ?k2 ?a3 ?l3 ?c3 ?k3 ?a4 ?l4 ?c4 ?k4 ?a5 ?l5 ?c5 ?k5 ?a6 ?l6 ?c6 ?k6 ?a7 ?l7 ?c7 ?k7 ?z0 ?z1 ?z2 ?z3 ?z4 ?z5 ?z6 ?hn ?ht ?aGrainError ?cGrainError ?nGrainError ?tGrainError ?sbGrainError ?aGrainMissing ?cGrainMissing ?nGrainMissing ?tGrainMissing ?sbGrainMissing ?E_BadRoot ?E_BadCount ?E_BadLength ?E_BadSheet ?E_BadRow ?E_OtherRoot ?E_BadStep ?E_NotLinked ?E_NotEnough ?E_TooGreat ?E_BadWidths ?E_NoSquares ?E_BadForm ?E_BadText ?E_BadName ?E_Taken ?E_Full ?E_BadDeed ?E_NoSheet ?E_NoName ?E_NoOrder ?E_NothingLeft
    (case a0 => k_is); (case l0 => k_is); (case c0 => k_is); (case k0 => k_is); (case a1 => k_is); (case l1 => k_is); (case c1 => k_is); (case k1 => k_is); (case a2 => k_is); (case l2 => k_is); (case c2 => k_is); (case k2 => k_is); (case a3 => k_is); (case l3 => k_is); (case c3 => k_is); (case k3 => k_is); (case a4 => k_is); (case l4 => k_is); (case c4 => k_is); (case k4 => k_is); (case a5 => k_is); (case l5 => k_is); (case c5 => k_is); (case k5 => k_is); (case a6 => k_is); (case l6 => k_is); (case c6 => k_is); (case k6 => k_is); (case a7 => k_is); (case l7 => k_is); (case c7 => k_is); (case k7 => k_is); (case z0 => k_is); (case z1 => k_is); (case z2 => k_is); (case z3 => k_is); (case z4 => k_is); (case z5 => k_is); (case z6 => k_is); (case hn => k_is); (case ht => k_is); (case aGrainError => k_is); (case cGrainError => k_is); (case nGrainError => rfl); (case tGrainError => k_is); (case sbGrainError => k_is); (case aGrainMissing => k_is); (case cGrainMissing => k_is); (case nGrainMissing => rfl); (case tGrainMissing => k_is); (case sbGrainMissing => k_is); (case E_BadRoot => refine' Gy.erw2 (P := PySem.Challenge.pw_grainyard_k70_error_classes) KX G ?op ?nsu (by decide +kernel) (by decide +kernel) (by decide +kernel) ?ht rfl rfl (by decide +kernel) (by decide +kernel) (by decide +kernel) (by decide +kernel) ?aC ?lC ?aI ?lI ?cI ?lc ?lco ?sa ?ga ?gt ?kp ?cl ?su ?hvs ?hfi ?x0 ?x1; (case op => k_is); (case nsu => k_is); (case aC => k_is); (case lC => k_is); (case ht => decide +kernel); (case aI => k_is); (case lI => k_is); (case cI => k_is); (case lc => k_is); (case lco => k_is); (case sa => k_is); (case ga => k_is); (case gt => k_is); (case kp => k_is); (case cl => k_is); (case su => first | k_is | ks_is); (case hvs => rfl); (case hfi => decide +kernel); (case x0 => k_is); (case x1 => k_is)); (case E_BadCount => refine' Gy.erw2 (P := PySem.Challenge.pw_grainyard_k70_error_classes) KX G ?op ?nsu (by decide +kernel) (by decide +kernel) (by decide +kernel) ?ht rfl rfl (by decide +kernel) (by decide +kernel) (by decide +kernel) (by decide +kernel) ?aC ?lC ?aI ?lI ?cI ?lc ?lco ?sa ?ga ?gt ?kp ?cl ?su ?hvs ?hfi ?x0 ?x1; (case op => k_is); (case nsu => k_is); (case aC => k_is); (case lC => k_is); (case ht => decide +kernel); (case aI => k_is); (case lI => k_is); (case cI => k_is); (case lc => k_is); (case lco => k_is); (case sa => k_is); (case ga => k_is); (case gt => k_is); (case kp => k_is); (case cl => k_is); (case su => first | k_is | ks_is); (case hvs => rfl); (case hfi => decide +kernel); (case x0 => k_is); (case x1 => k_is)); (case E_BadLength => refine' Gy.erw2 (P := PySem.Challenge.pw_grainyard_k70_error_classes) KX G ?op ?nsu (by decide +kernel) (by decide +kernel) (by decide +kernel) ?ht rfl rfl (by decide +kernel) (by decide +kernel) (by decide +kernel) (by decide +kernel) ?aC ?lC ?aI ?lI ?cI ?lc ?lco ?sa ?ga ?gt ?kp ?cl ?su ?hvs ?hfi ?x0 ?x1; (case op => k_is); (case nsu => k_is); (case aC => k_is); (case lC => k_is); (case ht => decide +kernel); (case aI => k_is); (case lI => k_is); (case cI => k_is); (case lc => k_is); (case lco => k_is); (case sa => k_is); (case ga => k_is); (case gt => k_is); (case kp => k_is); (case cl => k_is); (case su => first | k_is | ks_is); (case hvs => rfl); (case hfi => decide +kernel); (case x0 => k_is); (case x1 => k_is)); (case E_BadSheet => refine' Gy.erw1 (P := PySem.Challenge.pw_grainyard_k70_error_classes) KX G ?op ?nsu (by decide +kernel) (by decide +kernel) (by decide +kernel) ?ht rfl rfl (by decide +kernel) (by decide +kernel) (by decide +kernel) (by decide +kernel) ?aC ?lC ?aI ?lI ?cI ?lc ?lco ?sa ?ga ?gt ?kp ?cl ?su ?hvs ?hfi ?x0; (case op => k_is); (case nsu => k_is); (case aC => k_is); (case lC => k_is); (case ht => decide +kernel); (case aI => k_is); (case lI => k_is); (case cI => k_is); (case lc => k_is); (case lco => k_is); (case sa => k_is); (case ga => k_is); (case gt => k_is); (case kp => k_is); (case cl => k_is); (case su => first | k_is | ks_is); (case hvs => rfl); (case hfi => decide +kernel); (case x0 => k_is)); (case E_BadRow => refine' Gy.erw2 (P := PySem.Challenge.pw_grainyard_k70_error_classes) KX G ?op ?nsu (by decide +kernel) (by decide +kernel) (by decide +kernel) ?ht rfl rfl (by decide +kernel) (by decide +kernel) (by decide +kernel) (by decide +kernel) ?aC ?lC ?aI ?lI ?cI ?lc ?lco ?sa ?ga ?gt ?kp ?cl ?su ?hvs ?hfi ?x0 ?x1; (case op => k_is); (case nsu => k_is); (case aC => k_is); (case lC => k_is); (case ht => decide +kernel); (case aI => k_is); (case lI => k_is); (case cI => k_is); (case lc => k_is); (case lco => k_is); (case sa => k_is); (case ga => k_is); (case gt => k_is); (case kp => k_is); (case cl => k_is); (case su => first | k_is | ks_is); (case hvs => rfl); (case hfi => decide +kernel); (case x0 => k_is); (case x1 => k_is)); (case E_OtherRoot => refine' Gy.erw1 (P := PySem.Challenge.pw_grainyard_k70_error_classes) KX G ?op ?nsu (by decide +kernel) (by decide +kernel) (by decide +kernel) ?ht rfl rfl (by decide +kernel) (by decide +kernel) (by decide +kernel) (by decide +kernel) ?aC ?lC ?aI ?lI ?cI ?lc ?lco ?sa ?ga ?gt ?kp ?cl ?su ?hvs ?hfi ?x0; (case op => k_is); (case nsu => k_is); (case aC => k_is); (case lC => k_is); (case ht => decide +kernel); (case aI => k_is); (case lI => k_is); (case cI => k_is); (case lc => k_is); (case lco => k_is); (case sa => k_is); (case ga => k_is); (case gt => k_is); (case kp => k_is); (case cl => k_is); (case su => first | k_is | ks_is); (case hvs => rfl); (case hfi => decide +kernel); (case x0 => k_is)); (case E_BadStep => refine' Gy.erw2 (P := PySem.Challenge.pw_grainyard_k70_error_classes) KX G ?op ?nsu (by decide +kernel) (by decide +kernel) (by decide +kernel) ?ht rfl rfl (by decide +kernel) (by decide +kernel) (by decide +kernel) (by decide +kernel) ?aC ?lC ?aI ?lI ?cI ?lc ?lco ?sa ?ga ?gt ?kp ?cl ?su ?hvs ?hfi ?x0 ?x1; (case op => k_is); (case nsu => k_is); (case aC => k_is); (case lC => k_is); (case ht => decide +kernel); (case aI => k_is); (case lI => k_is); (case cI => k_is); (case lc => k_is); (case lco => k_is); (case sa => k_is); (case ga => k_is); (case gt => k_is); (case kp => k_is); (case cl => k_is); (case su => first | k_is | ks_is); (case hvs => rfl); (case hfi => decide +kernel); (case x0 => k_is); (case x1 => k_is)); (case E_NotLinked => refine' Gy.erw2 (P := PySem.Challenge.pw_grainyard_k70_error_classes) KX G ?op ?nsu (by decide +kernel) (by decide +kernel) (by decide +kernel) ?ht rfl rfl (by decide +kernel) (by decide +kernel) (by decide +kernel) (by decide +kernel) ?aC ?lC ?aI ?lI ?cI ?lc ?lco ?sa ?ga ?gt ?kp ?cl ?su ?hvs ?hfi ?x0 ?x1; (case op => k_is); (case nsu => k_is); (case aC => k_is); (case lC => k_is); (case ht => decide +kernel); (case aI => k_is); (case lI => k_is); (case cI => k_is); (case lc => k_is); (case lco => k_is); (case sa => k_is); (case ga => k_is); (case gt => k_is); (case kp => k_is); (case cl => k_is); (case su => first | k_is | ks_is); (case hvs => rfl); (case hfi => decide +kernel); (case x0 => k_is); (case x1 => k_is)); (case E_NotEnough => refine' Gy.erw1 (P := PySem.Challenge.pw_grainyard_k70_error_classes) KX G ?op ?nsu (by decide +kernel) (by decide +kernel) (by decide +kernel) ?ht rfl rfl (by decide +kernel) (by decide +kernel) (by decide +kernel) (by decide +kernel) ?aC ?lC ?aI ?lI ?cI ?lc ?lco ?sa ?ga ?gt ?kp ?cl ?su ?hvs ?hfi ?x0; (case op => k_is); (case nsu => k_is); (case aC => k_is); (case lC => k_is); (case ht => decide +kernel); (case aI => k_is); (case lI => k_is); (case cI => k_is); (case lc => k_is); (case lco => k_is); (case sa => k_is); (case ga => k_is); (case gt => k_is); (case kp => k_is); (case cl => k_is); (case su => first | k_is | ks_is); (case hvs => rfl); (case hfi => decide +kernel); (case x0 => k_is)); (case E_TooGreat => refine' Gy.erw2 (P := PySem.Challenge.pw_grainyard_k70_error_classes) KX G ?op ?nsu (by decide +kernel) (by decide +kernel) (by decide +kernel) ?ht rfl rfl (by decide +kernel) (by decide +kernel) (by decide +kernel) (by decide +kernel) ?aC ?lC ?aI ?lI ?cI ?lc ?lco ?sa ?ga ?gt ?kp ?cl ?su ?hvs ?hfi ?x0 ?x1; (case op => k_is); (case nsu => k_is); (case aC => k_is); (case lC => k_is); (case ht => decide +kernel); (case aI => k_is); (case lI => k_is); (case cI => k_is); (case lc => k_is); (case lco => k_is); (case sa => k_is); (case ga => k_is); (case gt => k_is); (case kp => k_is); (case cl => k_is); (case su => first | k_is | ks_is); (case hvs => rfl); (case hfi => decide +kernel); (case x0 => k_is); (case x1 => k_is)); (case E_BadWidths => refine' Gy.erw1 (P := PySem.Challenge.pw_grainyard_k70_error_classes) KX G ?op ?nsu (by decide +kernel) (by decide +kernel) (by decide +kernel) ?ht rfl rfl (by decide +kernel) (by decide +kernel) (by decide +kernel) (by decide +kernel) ?aC ?lC ?aI ?lI ?cI ?lc ?lco ?sa ?ga ?gt ?kp ?cl ?su ?hvs ?hfi ?x0; (case op => k_is); (case nsu => k_is); (case aC => k_is); (case lC => k_is); (case ht => decide +kernel); (case aI => k_is); (case lI => k_is); (case cI => k_is); (case lc => k_is); (case lco => k_is); (case sa => k_is); (case ga => k_is); (case gt => k_is); (case kp => k_is); (case cl => k_is); (case su => first | k_is | ks_is); (case hvs => rfl); (case hfi => decide +kernel); (case x0 => k_is)); (case E_NoSquares => refine' Gy.erw2 (P := PySem.Challenge.pw_grainyard_k70_error_classes) KX G ?op ?nsu (by decide +kernel) (by decide +kernel) (by decide +kernel) ?ht rfl rfl (by decide +kernel) (by decide +kernel) (by decide +kernel) (by decide +kernel) ?aC ?lC ?aI ?lI ?cI ?lc ?lco ?sa ?ga ?gt ?kp ?cl ?su ?hvs ?hfi ?x0 ?x1; (case op => k_is); (case nsu => k_is); (case aC => k_is); (case lC => k_is); (case ht => decide +kernel); (case aI => k_is); (case lI => k_is); (case cI => k_is); (case lc => k_is); (case lco => k_is); (case sa => k_is); (case ga => k_is); (case gt => k_is); (case kp => k_is); (case cl => k_is); (case su => first | k_is | ks_is); (case hvs => rfl); (case hfi => decide +kernel); (case x0 => k_is); (case x1 => k_is)); (case E_BadForm => refine' Gy.erw1 (P := PySem.Challenge.pw_grainyard_k70_error_classes) KX G ?op ?nsu (by decide +kernel) (by decide +kernel) (by decide +kernel) ?ht rfl rfl (by decide +kernel) (by decide +kernel) (by decide +kernel) (by decide +kernel) ?aC ?lC ?aI ?lI ?cI ?lc ?lco ?sa ?ga ?gt ?kp ?cl ?su ?hvs ?hfi ?x0; (case op => k_is); (case nsu => k_is); (case aC => k_is); (case lC => k_is); (case ht => decide +kernel); (case aI => k_is); (case lI => k_is); (case cI => k_is); (case lc => k_is); (case lco => k_is); (case sa => k_is); (case ga => k_is); (case gt => k_is); (case kp => k_is); (case cl => k_is); (case su => first | k_is | ks_is); (case hvs => rfl); (case hfi => decide +kernel); (case x0 => k_is)); (case E_BadText => refine' Gy.erw2 (P := PySem.Challenge.pw_grainyard_k70_error_classes) KX G ?op ?nsu (by decide +kernel) (by decide +kernel) (by decide +kernel) ?ht rfl rfl (by decide +kernel) (by decide +kernel) (by decide +kernel) (by decide +kernel) ?aC ?lC ?aI ?lI ?cI ?lc ?lco ?sa ?ga ?gt ?kp ?cl ?su ?hvs ?hfi ?x0 ?x1; (case op => k_is); (case nsu => k_is); (case aC => k_is); (case lC => k_is); (case ht => decide +kernel); (case aI => k_is); (case lI => k_is); (case cI => k_is); (case lc => k_is); (case lco => k_is); (case sa => k_is); (case ga => k_is); (case gt => k_is); (case kp => k_is); (case cl => k_is); (case su => first | k_is | ks_is); (case hvs => rfl); (case hfi => decide +kernel); (case x0 => k_is); (case x1 => k_is)); (case E_BadName => refine' Gy.erw2 (P := PySem.Challenge.pw_grainyard_k70_error_classes) KX G ?op ?nsu (by decide +kernel) (by decide +kernel) (by decide +kernel) ?ht rfl rfl (by decide +kernel) (by decide +kernel) (by decide +kernel) (by decide +kernel) ?aC ?lC ?aI ?lI ?cI ?lc ?lco ?sa ?ga ?gt ?kp ?cl ?su ?hvs ?hfi ?x0 ?x1; (case op => k_is); (case nsu => k_is); (case aC => k_is); (case lC => k_is); (case ht => decide +kernel); (case aI => k_is); (case lI => k_is); (case cI => k_is); (case lc => k_is); (case lco => k_is); (case sa => k_is); (case ga => k_is); (case gt => k_is); (case kp => k_is); (case cl => k_is); (case su => first | k_is | ks_is); (case hvs => rfl); (case hfi => decide +kernel); (case x0 => k_is); (case x1 => k_is)); (case E_Taken => refine' Gy.erw2 (P := PySem.Challenge.pw_grainyard_k70_error_classes) KX G ?op ?nsu (by decide +kernel) (by decide +kernel) (by decide +kernel) ?ht rfl rfl (by decide +kernel) (by decide +kernel) (by decide +kernel) (by decide +kernel) ?aC ?lC ?aI ?lI ?cI ?lc ?lco ?sa ?ga ?gt ?kp ?cl ?su ?hvs ?hfi ?x0 ?x1; (case op => k_is); (case nsu => k_is); (case aC => k_is); (case lC => k_is); (case ht => decide +kernel); (case aI => k_is); (case lI => k_is); (case cI => k_is); (case lc => k_is); (case lco => k_is); (case sa => k_is); (case ga => k_is); (case gt => k_is); (case kp => k_is); (case cl => k_is); (case su => first | k_is | ks_is); (case hvs => rfl); (case hfi => decide +kernel); (case x0 => k_is); (case x1 => k_is)); (case E_Full => refine' Gy.erw2 (P := PySem.Challenge.pw_grainyard_k70_error_classes) KX G ?op ?nsu (by decide +kernel) (by decide +kernel) (by decide +kernel) ?ht rfl rfl (by decide +kernel) (by decide +kernel) (by decide +kernel) (by decide +kernel) ?aC ?lC ?aI ?lI ?cI ?lc ?lco ?sa ?ga ?gt ?kp ?cl ?su ?hvs ?hfi ?x0 ?x1; (case op => k_is); (case nsu => k_is); (case aC => k_is); (case lC => k_is); (case ht => decide +kernel); (case aI => k_is); (case lI => k_is); (case cI => k_is); (case lc => k_is); (case lco => k_is); (case sa => k_is); (case ga => k_is); (case gt => k_is); (case kp => k_is); (case cl => k_is); (case su => first | k_is | ks_is); (case hvs => rfl); (case hfi => decide +kernel); (case x0 => k_is); (case x1 => k_is)); (case E_BadDeed => refine' Gy.erw2 (P := PySem.Challenge.pw_grainyard_k70_error_classes) KX G ?op ?nsu (by decide +kernel) (by decide +kernel) (by decide +kernel) ?ht rfl rfl (by decide +kernel) (by decide +kernel) (by decide +kernel) (by decide +kernel) ?aC ?lC ?aI ?lI ?cI ?lc ?lco ?sa ?ga ?gt ?kp ?cl ?su ?hvs ?hfi ?x0 ?x1; (case op => k_is); (case nsu => k_is); (case aC => k_is); (case lC => k_is); (case ht => decide +kernel); (case aI => k_is); (case lI => k_is); (case cI => k_is); (case lc => k_is); (case lco => k_is); (case sa => k_is); (case ga => k_is); (case gt => k_is); (case kp => k_is); (case cl => k_is); (case su => first | k_is | ks_is); (case hvs => rfl); (case hfi => decide +kernel); (case x0 => k_is); (case x1 => k_is)); (case E_NoSheet => refine' Gy.erw2 (P := PySem.Challenge.pw_grainyard_k70_error_classes) KX G ?op ?nsu (by decide +kernel) (by decide +kernel) (by decide +kernel) ?ht rfl rfl (by decide +kernel) (by decide +kernel) (by decide +kernel) (by decide +kernel) ?aC ?lC ?aI ?lI ?cI ?lc ?lco ?sa ?ga ?gt ?kp ?cl ?su ?hvs ?hfi ?x0 ?x1; (case op => k_is); (case nsu => k_is); (case aC => k_is); (case lC => k_is); (case ht => decide +kernel); (case aI => k_is); (case lI => k_is); (case cI => k_is); (case lc => k_is); (case lco => k_is); (case sa => k_is); (case ga => k_is); (case gt => k_is); (case kp => k_is); (case cl => k_is); (case su => first | k_is | ks_is); (case hvs => rfl); (case hfi => decide +kernel); (case x0 => k_is); (case x1 => k_is)); (case E_NoName => refine' Gy.erw2 (P := PySem.Challenge.pw_grainyard_k70_error_classes) KX G ?op ?nsu (by decide +kernel) (by decide +kernel) (by decide +kernel) ?ht rfl rfl (by decide +kernel) (by decide +kernel) (by decide +kernel) (by decide +kernel) ?aC ?lC ?aI ?lI ?cI ?lc ?lco ?sa ?ga ?gt ?kp ?cl ?su ?hvs ?hfi ?x0 ?x1; (case op => k_is); (case nsu => k_is); (case aC => k_is); (case lC => k_is); (case ht => decide +kernel); (case aI => k_is); (case lI => k_is); (case cI => k_is); (case lc => k_is); (case lco => k_is); (case sa => k_is); (case ga => k_is); (case gt => k_is); (case kp => k_is); (case cl => k_is); (case su => first | k_is | ks_is); (case hvs => rfl); (case hfi => decide +kernel); (case x0 => k_is); (case x1 => k_is)); (case E_NoOrder => refine' Gy.erw2 (P := PySem.Challenge.pw_grainyard_k70_error_classes) KX G ?op ?nsu (by decide +kernel) (by decide +kernel) (by decide +kernel) ?ht rfl rfl (by decide +kernel) (by decide +kernel) (by decide +kernel) (by decide +kernel) ?aC ?lC ?aI ?lI ?cI ?lc ?lco ?sa ?ga ?gt ?kp ?cl ?su ?hvs ?hfi ?x0 ?x1; (case op => k_is); (case nsu => k_is); (case aC => k_is); (case lC => k_is); (case ht => decide +kernel); (case aI => k_is); (case lI => k_is); (case cI => k_is); (case lc => k_is); (case lco => k_is); (case sa => k_is); (case ga => k_is); (case gt => k_is); (case kp => k_is); (case cl => k_is); (case su => first | k_is | ks_is); (case hvs => rfl); (case hfi => decide +kernel); (case x0 => k_is); (case x1 => k_is)); (case E_NothingLeft => refine' Gy.erw1 (P := PySem.Challenge.pw_grainyard_k70_error_classes) KX G ?op ?nsu (by decide +kernel) (by decide +kernel) (by decide +kernel) ?ht rfl rfl (by decide +kernel) (by decide +kernel) (by decide +kernel) (by decide +kernel) ?aC ?lC ?aI ?lI ?cI ?lc ?lco ?sa ?ga ?gt ?kp ?cl ?su ?hvs ?hfi ?x0; (case op => k_is); (case nsu => k_is); (case aC => k_is); (case lC => k_is); (case ht => decide +kernel); (case aI => k_is); (case lI => k_is); (case cI => k_is); (case lc => k_is); (case lco => k_is); (case sa => k_is); (case ga => k_is); (case gt => k_is); (case kp => k_is); (case cl => k_is); (case su => first | k_is | ks_is); (case hvs => rfl); (case hfi => decide +kernel); (case x0 => k_is))

